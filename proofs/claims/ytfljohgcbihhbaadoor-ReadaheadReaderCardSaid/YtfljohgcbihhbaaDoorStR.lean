/- Rows of streams (layer 6): clones. -/
import Derived.Test.YtfljohgcbihhbaaDoorStL
namespace Go.Mine
open Go Go.RowKit Go.ChangeShapes Go.WideShapes Go.ChangeAt

def lsF (f : Nat → Str) (n : Nat) : List Str := (List.range n).map f
theorem lsF_len (f : Nat → Str) (n : Nat) : (lsF f n).length = n := by simp [lsF]
theorem lsF_at (f : Nat → Str) (n k : Nat) (h : k < (lsF f n).length) : (lsF f n)[k] = f k := by simp [lsF]
theorem lsF_get (f : Nat → Str) (n k : Nat) (h : k < n) : (lsF f n).getD k zS = f k := by simp [lsF, List.getD, h]
theorem lsF_zero (f : Nat → Str) : lsF f 0 = [] := rfl
theorem lsF_of (L : List Str) : lsF (fun k => L.getD k zS) L.length = L := by
  apply List.ext_getElem
  · simp [lsF]
  · intro i h1 h2; simp [lsF, List.getD, h2]
theorem Rd.news {w : World} {g n : Nat} {f : Nat → Str} (h : Rd w (some ⟨g, 0, none⟩) n f) : ∀ j u, ((lsF f n).flatMap encS)[j]? = some u → w.cell? ((⟨g, 0, none⟩ : Addr).add j) = some u := by
  intro j u hu
  have hj : j < ((lsF f n).flatMap encS).length := (List.getElem?_eq_some_iff.1 hu).1
  rw [fm_len encS_len, lsF_len] at hj
  have e : j / 6 * 6 + j % 6 = j := by omega
  have hk : j / 6 < n := by omega
  have hr : j % 6 < 6 := by omega
  rw [← e] at hu ⊢
  generalize j / 6 = k at *
  generalize j % 6 = r at *
  rw [fm_at encS_len (lsF f n) k (by rw [lsF_len]; exact hk) r hr, lsF_at] at hu
  obtain ⟨g', eg, -, h0, h1, h2, h3, h4, h5⟩ := h k hk
  obtain rfl : g = g' := by injection eg with eg; injection eg
  rw [add_plain, Nat.zero_add]
  have hc : r = 0 ∨ r = 1 ∨ r = 2 ∨ r = 3 ∨ r = 4 ∨ r = 5 := by omega
  rcases hc with rfl | rfl | rfl | rfl | rfl | rfl
  · rw [Nat.add_zero]; exact h0.trans hu
  · exact h1.trans hu
  · exact h2.trans hu
  · exact h3.trans hu
  · exact h4.trans hu
  · exact h5.trans hu
theorem encS_ones {L : List Str} : ∀ u ∈ L.flatMap encS, u.oneCell' = true := by
  intro u hu
  obtain ⟨x, -, hx⟩ := List.mem_flatMap.1 hu
  exact encS_one u hx
/-- A row of streams of the call's own, nil where it is empty. -/
def RowN (T : TypeId) (w : World) (B : Nat) (v : Value) (L : List Str) : Prop := RowE T 6 encS w B v L ∧ (L = [] → v = .slice none 0 0)
theorem RowN.rd {T : TypeId} {w : World} {B : Nat} {v : Value} {L : List Str} (h : RowN T w B v L) : ∃ a c, v = .slice a L.length c ∧ Rd w a L.length (fun k => L.getD k zS) ∧ L.length ≤ c ∧ (L.length = 0 → a = none ∧ c = 0) ∧ c ≤ maxLen := by
  rcases h.1.shape encS_len with ⟨rfl, rfl⟩ | ⟨g, cap, rfl, -, hg, hc, hml, -, -⟩
  · exact ⟨none, 0, rfl, fun k hk => absurd hk (by simp), Nat.le_refl _, fun _ => ⟨rfl, rfl⟩, by simp⟩
  · obtain ⟨a, c, e, hr⟩ := h.1.rd
    injection e with e1 e2 e3
    subst e1
    refine ⟨_, cap, rfl, hr, hc, fun h0 => ?_, hml⟩
    have := h.2 (List.length_eq_zero_iff.1 h0)
    injection this with t1
    exact absurd t1 (by simp)
theorem RowN.grew {T : TypeId} {w w' : World} {B : Nat} {v : Value} {L : List Str} (h : RowN T w B v L) (G : Grew w w') : RowN T w' B v L := ⟨h.1.grew G, h.2⟩
theorem RowN.wider {T : TypeId} {w : World} {B C : Nat} {v : Value} {L : List Str} (h : RowN T w B v L) (hC : C ≤ B) : RowN T w C v L := ⟨h.1.wider hC, h.2⟩
def RetRow (T : TypeId) (L : List Str) (w : World) (e : Ending) (w' : World) : Prop := ∃ v, e = .returned v ∧ RowN T w' w.heap.size v L ∧ Grew w w'
end Go.Mine
