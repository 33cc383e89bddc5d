/- Zones in memory (layer 10): a list of zones as it is read: words of my own, no program is named here. -/
import Derived.Test.YtokijggckiidjaaZnM
namespace Go.Mine
open Go Go.RowKit

/-- The cells of a zone: its five numbers, its slice of free frames. -/
abbrev Zc := (Int × Int × Int × Int × Int) × (Option Addr × Nat × Nat)
def encZ (z : Zc) : List Value := [.int .i64 z.1.1, .int .i64 z.1.2.1, .int .i64 z.1.2.2.1, .int .i64 z.1.2.2.2.1, .int .i64 z.1.2.2.2.2, .slice z.2.1 z.2.2.1 z.2.2.2]
theorem encZ_len (z : Zc) : (encZ z).length = 6 := rfl
theorem encZ_one {z : Zc} : ∀ u ∈ encZ z, u.oneCell' = true := by intro u hu; simp [encZ] at hu; rcases hu with rfl | rfl | rfl | rfl | rfl | rfl <;> rfl
abbrev zcZ : Zc := ((0, 0, 0, 0, 0), (none, 0, 0))
abbrev zoZ : Zo := ⟨0, 0, 0, 0, 0, []⟩
/-- Integers that a slice holds, wherever it begins; their block is one of p. -/
def RdI (w : World) (p : Nat → Prop) (a : Option Addr) (n : Nat) (xs : List Int) : Prop :=
  n = xs.length ∧ (xs = [] ∨ ∃ g o, a = some ⟨g, o, none⟩ ∧ p g ∧ g < w.heap.size ∧ ∀ k, k < xs.length → w.cell? ⟨g, o + k, none⟩ = some (.int .i64 (xs.getD k 0)))
def RdZ (w : World) (p : Nat → Prop) (zc : Zc) (z : Zo) : Prop := zc.1 = (z.f, z.s, z.mn, z.lo, z.hi) ∧ RdI w p zc.2.1 zc.2.2.1 z.fr ∧ zc.2.2.1 ≤ zc.2.2.2
/-- The slice v holds the zones L; all of its blocks are of p. -/
def ZsR (w : World) (p : Nat → Prop) (v : Value) (L : List Zo) : Prop := ∃ (M : List Zc) (a : Option Addr) (c : Nat), v = .slice a L.length c ∧ M.length = L.length ∧
  (L = [] ∨ ∃ g, a = some ⟨g, 0, none⟩ ∧ p g ∧ g < w.heap.size ∧ ∀ k, k < L.length → ∀ r u, (encZ (M.getD k zcZ))[r]? = some u → w.cell? ⟨g, k * 6 + r, none⟩ = some u) ∧ ∀ k, k < L.length → RdZ w p (M.getD k zcZ) (L.getD k zoZ)
section
variable {w w' : World} {p q : Nat → Prop}
theorem RdI.keep {a : Option Addr} {n : Nat} {xs : List Int} (h : RdI w p a n xs) (hs : w.heap.size ≤ w'.heap.size) (hp : ∀ g, p g → g < w.heap.size → q g) (hk : ∀ g, p g → g < w.heap.size → w'.heap[g]? = w.heap[g]?) : RdI w' q a n xs := by
  refine ⟨h.1, ?_⟩
  rcases h.2 with h | ⟨g, o, e, hg, hl, hc⟩
  · exact .inl h
  · exact .inr ⟨g, o, e, hp g hg hl, Nat.lt_of_lt_of_le hl hs, fun k hk2 => (World.cell?_of_block (a := ⟨g, o + k, none⟩) (hk g hg hl)).trans (hc k hk2)⟩
theorem ZsR.keep {v : Value} {L : List Zo} (h : ZsR w p v L) (hs : w.heap.size ≤ w'.heap.size) (hp : ∀ g, p g → g < w.heap.size → q g) (hk : ∀ g, p g → g < w.heap.size → w'.heap[g]? = w.heap[g]?) : ZsR w' q v L := by
  obtain ⟨M, a, c, e, hl, h1, h2⟩ := h
  refine ⟨M, a, c, e, hl, ?_, fun k hkl => ⟨(h2 k hkl).1, (h2 k hkl).2.1.keep hs hp hk, (h2 k hkl).2.2⟩⟩
  rcases h1 with h1 | ⟨g, e2, hg, hgl, hc⟩
  · exact .inl h1
  · exact .inr ⟨g, e2, hp g hg hgl, Nat.lt_of_lt_of_le hgl hs, fun k hkl r u hu => (World.cell?_of_block (a := ⟨g, k * 6 + r, none⟩) (hk g hg hgl)).trans (hc k hkl r u hu)⟩
theorem ZsR.grew {v : Value} {L : List Zo} (h : ZsR w p v L) (G : Grew w w') : ZsR w' p v L := h.keep G.size (fun _ a _ => a) fun g _ hl => Below.block G g hl
theorem ZsR.old {v : Value} {L : List Zo} (h : ZsR w p v L) : ZsR w (fun b => b < w.heap.size) v L := h.keep (Nat.le_refl _) (fun _ _ hl => hl) fun _ _ _ => rfl
theorem ZsR.mono {v : Value} {L : List Zo} (h : ZsR w p v L) (hp : ∀ g, p g → g < w.heap.size → q g) : ZsR w q v L := h.keep (Nat.le_refl _) hp fun _ _ _ => rfl
theorem ZsR.nil (w : World) (p : Nat → Prop) (a : Option Addr) (c : Nat) : ZsR w p (.slice a 0 c) [] := ⟨[], a, c, rfl, rfl, .inl rfl, fun k hk => absurd hk (by simp)⟩
theorem ZsR.slice {v : Value} {L : List Zo} (h : ZsR w p v L) : ∃ a c, v = .slice a L.length c := by
  obtain ⟨M, a, c, e, -⟩ := h; exact ⟨a, c, e⟩
/-- What stands at a place of it. -/
theorem ZsR.at_ {a : Option Addr} {n c : Nat} {L : List Zo} (h : ZsR w p (.slice a n c) L) {k : Nat} (hk : k < L.length) : ∃ g a' c', a = some ⟨g, 0, none⟩ ∧ p g ∧ g < w.heap.size ∧
    w.cell? ⟨g, k * 6, none⟩ = some (.int .i64 (L.getD k zoZ).f) ∧ w.cell? ⟨g, k * 6 + 1, none⟩ = some (.int .i64 (L.getD k zoZ).s) ∧ w.cell? ⟨g, k * 6 + 2, none⟩ = some (.int .i64 (L.getD k zoZ).mn) ∧
    w.cell? ⟨g, k * 6 + 3, none⟩ = some (.int .i64 (L.getD k zoZ).lo) ∧ w.cell? ⟨g, k * 6 + 4, none⟩ = some (.int .i64 (L.getD k zoZ).hi) ∧ w.cell? ⟨g, k * 6 + 5, none⟩ = some (.slice a' (L.getD k zoZ).fr.length c') ∧ RdI w p a' (L.getD k zoZ).fr.length (L.getD k zoZ).fr ∧ (L.getD k zoZ).fr.length ≤ c' := by
  obtain ⟨M, a2, c2, e, hl, h1, h2⟩ := h
  injection e with e1 e2 e3
  subst e1
  rcases h1 with h1 | ⟨g, e4, hg, hgl, hc⟩
  · rw [h1] at hk; exact absurd hk (by simp)
  · obtain ⟨r1, r2⟩ := h2 k hk
    have hcc := hc k hk
    generalize M.getD k zcZ = zc at *
    obtain ⟨⟨f, s, mn, lo, hi⟩, a', n', c'⟩ := zc
    simp only [Prod.mk.injEq] at r1
    obtain ⟨q1, q2, q3, q4, q5⟩ := r1
    subst q1 q2 q3 q4 q5
    obtain ⟨r2, r3⟩ := r2
    have hn : n' = (L.getD k zoZ).fr.length := r2.1
    subst hn
    exact ⟨g, a', c', e4, hg, hgl, hcc 0 _ rfl, hcc 1 _ rfl, hcc 2 _ rfl, hcc 3 _ rfl, hcc 4 _ rfl, hcc 5 _ rfl, r2, r3⟩
end
end Go.Mine
