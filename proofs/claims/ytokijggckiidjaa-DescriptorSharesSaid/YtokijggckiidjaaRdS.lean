/- Slices of structs that are read wherever they begin: words of my own, no program is named here. -/
import Derived.Test.YtokijggckiidjaaRows2
import Derived.Test.YtokijggckiidjaaZnA
namespace Go.Mine
open Go Go.RowKit

/-- The slice v holds the elements L, wherever it begins, in a block from B on; read only. -/
def RdS {α : Type} (sz : Nat) (enc : α → List Value) (w : World) (B : Nat) (v : Value) (L : List α) : Prop := ∃ (a : Option Addr) (c : Nat), v = .slice a L.length c ∧ L.length ≤ c ∧ c ≤ maxLen ∧
  (L = [] ∨ ∃ g o, a = some ⟨g, o, none⟩ ∧ B ≤ g ∧ g < w.heap.size ∧ ∀ k (hk : k < L.length) j, j < sz → w.cell? ⟨g, o + (k * sz + j), none⟩ = (enc L[k])[j]?)
section
variable {α : Type} {sz : Nat} {enc : α → List Value} {w w' : World} {B : Nat} {v : Value} {L : List α}
theorem RdS.keptG {r : Option Nat} (h : RdS sz enc w B v L) (g : w.grownBy w' r) (hr : ∀ k, r = some k → k < B) : RdS sz enc w' B v L := by
  obtain ⟨a, c, rfl, h1, h2, h3⟩ := h
  refine ⟨a, c, rfl, h1, h2, ?_⟩
  rcases h3 with h3 | ⟨b, o, rfl, hB, hb, hc⟩
  · exact .inl h3
  · exact .inr ⟨b, o, rfl, hB, Nat.lt_of_lt_of_le hb g.size, fun k hk j hj => (World.cell?_of_block (a := ⟨b, o + (k * sz + j), none⟩) (g.block b hb (fun e => by have := hr b e.symm; omega))).trans (hc k hk j hj)⟩
theorem RdS.grew (h : RdS sz enc w B v L) (g : Grew w w') : RdS sz enc w' B v L := h.keptG g.grown (by simp)
theorem RdS.past {b : Nat} (h : RdS sz enc w B v L) (g : w.grownBy w' (some b)) (hb : b < B) : RdS sz enc w' B v L := h.keptG g (fun k e => by injection e with e; omega)
/-- Whatever is written from C on: a slice that lies below C stays. -/
theorem RdS.below {C : Nat} (h : RdS sz enc w B v L) (g : Below C w w') (hC : w.heap.size ≤ C) : RdS sz enc w' B v L := h.keptG (r := none) ⟨g.os, g.tape, g.output, Below.size g, fun i hi _ => Below.block g i (by omega)⟩ (by simp)
theorem RdS.wider {C : Nat} (h : RdS sz enc w B v L) (hC : C ≤ B) : RdS sz enc w C v L := by
  obtain ⟨a, c, rfl, h1, h2, h3⟩ := h
  refine ⟨a, c, rfl, h1, h2, ?_⟩
  rcases h3 with h3 | ⟨b, o, rfl, hB, hb, hc⟩
  · exact .inl h3
  · exact .inr ⟨b, o, rfl, Nat.le_trans hC hB, hb, hc⟩
theorem RdS.alloc (h : RdS sz enc w B v L) (o : Obj) : RdS sz enc (w.alloc o) B v L := h.grew ((Grew.refl w).alloc o)
theorem RdS.drew (h : RdS sz enc w B v L) : RdS sz enc w.drew B v L := h
theorem RdS.drewN (h : RdS sz enc w B v L) (n : Nat) : RdS sz enc (w.drewN n) B v L := h
theorem RdS.nil (w : World) (B : Nat) (a : Option Addr) (c : Nat) (hc : c ≤ maxLen) : RdS sz enc w B (.slice a 0 c) ([] : List α) := ⟨a, c, rfl, Nat.zero_le _, hc, .inl rfl⟩
theorem RdS.slice (h : RdS sz enc w B v L) : ∃ a c, v = .slice a L.length c ∧ L.length ≤ c ∧ c ≤ maxLen := by
  obtain ⟨a, c, rfl, h1, h2, -⟩ := h
  exact ⟨a, c, rfl, h1, h2⟩
theorem RdS.slen {a : Option Addr} {n c : Nat} (h : RdS sz enc w B (.slice a n c) L) : n = L.length ∧ L.length ≤ c ∧ c ≤ maxLen := by
  obtain ⟨a', c', e, h1, h2, -⟩ := h
  injection e with e1 e2 e3
  subst e3
  exact ⟨e2, h1, h2⟩
/-- What stands at a place. -/
theorem RdS.at_ {a : Option Addr} {n c : Nat} (h : RdS sz enc w B (.slice a n c) L) {k : Nat} (hk : k < L.length) : ∃ g o, a = some ⟨g, o, none⟩ ∧ B ≤ g ∧ g < w.heap.size ∧ ∀ j, j < sz → w.cell? ⟨g, o + (k * sz + j), none⟩ = (enc L[k])[j]? := by
  obtain ⟨a', c', e, h1, h2, h3⟩ := h
  injection e with e1 e2 e3
  subst e1
  rcases h3 with h3 | ⟨g, o, e4, hB, hg, hc⟩
  · rw [h3] at hk; exact absurd hk (by simp)
  · exact ⟨g, o, e4, hB, hg, hc k hk⟩
theorem RowE.rdS {T : TypeId} (he : ∀ a, (enc a).length = sz) (h : RowE T sz enc w B v L) : RdS sz enc w B v L := by
  rcases h.shape he with ⟨rfl, rfl⟩ | ⟨g, cap, rfl, hB, hg, hl, hm, hc, -⟩
  · exact RdS.nil w B none 0 (Nat.zero_le _)
  · exact ⟨_, cap, rfl, hl, hm, .inr ⟨g, 0, rfl, hB, hg, fun k hk j hj => by rw [Nat.zero_add]; exact hc k hk j hj⟩⟩
/-- The elements behind k; ahead of k. -/
theorem RdS.drop {g o n c : Nat} (h : RdS sz enc w B (.slice (some ⟨g, o, none⟩) n c) L) {k : Nat} (hk : k ≤ L.length) : RdS sz enc w B (.slice (some ⟨g, o + k * sz, none⟩) (n - k) (c - k)) (L.drop k) := by
  obtain ⟨a', c', e, h1, h2, h3⟩ := h
  injection e with e1 e2 e3
  subst e1 e2 e3
  refine ⟨_, c - k, by rw [List.length_drop], by rw [List.length_drop]; omega, by omega, ?_⟩
  rcases h3 with h3 | ⟨g', o', e4, hB, hg, hc⟩
  · left; rw [h3]; simp
  · injection e4 with e4
    injection e4 with e5 e6
    subst e5 e6
    refine .inr ⟨g, _, rfl, hB, hg, fun i hi j hj => ?_⟩
    rw [List.length_drop] at hi
    rw [List.getElem_drop, ← hc (k + i) (by omega) j hj]
    congr 2
    rw [Nat.add_mul]
    omega
theorem RdS.dropAll {a : Option Addr} {n c : Nat} (_ : RdS sz enc w B (.slice a n c) L) {a' : Option Addr} {c' : Nat} (hc' : c' ≤ maxLen) {k : Nat} (hk : L.length ≤ k) : RdS sz enc w B (.slice a' 0 c') (L.drop k) := by
  rw [List.drop_eq_nil_of_le hk]
  exact RdS.nil _ _ _ _ hc'
theorem RdS.take {a : Option Addr} {n c : Nat} (h : RdS sz enc w B (.slice a n c) L) {k : Nat} (hk : k ≤ L.length) : RdS sz enc w B (.slice a k c) (L.take k) := by
  obtain ⟨a', c', e, h1, h2, h3⟩ := h
  injection e with e1 e2 e3
  subst e1 e2 e3
  refine ⟨a, c, by rw [List.length_take, Nat.min_eq_left hk], by rw [List.length_take]; omega, h2, ?_⟩
  rcases h3 with h3 | ⟨g, o, rfl, hB, hg, hc⟩
  · left; rw [h3]; simp
  · refine .inr ⟨g, o, rfl, hB, hg, fun i hi j hj => ?_⟩
    rw [List.length_take] at hi
    rw [List.getElem_take]
    exact hc i (by omega) j hj
theorem RdS.lies (he : ∀ a, (enc a).length = sz) {a : Option Addr} {n c : Nat} (h : RdS sz enc w B (.slice a n c) L) : n = L.length ∧ (L = [] ∨ a.isSome = true) ∧ Lies enc w a L := by
  refine ⟨h.slen.1, ?_⟩
  obtain ⟨a', c', e, h1, h2, h3⟩ := h
  injection e with e1 e2 e3
  subst e1
  rcases h3 with h3 | ⟨g, o, rfl, hB, hg, hc⟩
  · exact ⟨.inl h3, .inl h3⟩
  · refine ⟨.inr rfl, .inr ⟨_, rfl, fun j u hu => ?_⟩⟩
    have hj : j < L.length * sz := by have := (List.getElem?_eq_some_iff.1 hu).1; rwa [fm_len he] at this
    have hs : 0 < sz := by
      rcases Nat.eq_zero_or_pos sz with h0 | h0
      · subst h0; omega
      · exact h0
    have hk : j / sz < L.length := by rw [Nat.div_lt_iff_lt_mul hs]; exact hj
    have e : j / sz * sz + j % sz = j := by rw [Nat.mul_comm]; exact Nat.div_add_mod j sz
    have h4 := fm_at he L (j / sz) hk (j % sz) (Nat.mod_lt _ hs)
    rw [e, hu] at h4
    have h5 := hc (j / sz) hk (j % sz) (Nat.mod_lt _ hs)
    rw [e, ← h4] at h5
    rw [Addr.add_lit]
    exact h5
end
section
variable {w : World} {B : Nat} {L : List (Int × Int)}
/-- A pair at a place. -/
theorem RdS.at2 {a : Option Addr} {n c : Nat} (h : RdS 2 enc2 w B (.slice a n c) L) {k : Nat} (hk : k < L.length) : ∃ g o, a = some ⟨g, o, none⟩ ∧ B ≤ g ∧ g < w.heap.size ∧
    w.cell? ⟨g, o + k * 2, none⟩ = some (.int .i64 (L.getD k (0, 0)).1) ∧ w.cell? ⟨g, o + k * 2 + 1, none⟩ = some (.int .i64 (L.getD k (0, 0)).2) := by
  obtain ⟨g, o, e, hB, hg, hc⟩ := h.at_ hk
  refine ⟨g, o, e, hB, hg, ?_, ?_⟩
  · rw [getD_get hk]; exact hc 0 (by omega)
  · rw [getD_get hk]; exact hc 1 (by omega)
end
end Go.Mine
