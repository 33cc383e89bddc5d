/- Descriptors in memory (layer 18): words of my own, no program is named here. -/
import Derived.Test.YtokijggckiidjaaDsM
import Derived.Test.YtokijggckiidjaaZnA
namespace Go.Mine
open Go Go.RowKit
abbrev eV (v : Value) : List Value := [v]
abbrev nilV : Value := .slice none 0 0
/-- The slice v holds the tables T. -/
def TbR (w : World) (B : Nat) (v : Value) (T : List (List Int)) : Prop := ∃ vs : List Value, RdS 1 eV w B v vs ∧ vs.length = T.length ∧ ∀ k, k < T.length → RdS 1 enc1 w B (vs.getD k nilV) (T.getD k [])
section
variable {w w' : World} {B : Nat} {v : Value} {T : List (List Int)}
theorem TbR.keptG {r : Option Nat} (h : TbR w B v T) (g : w.grownBy w' r) (hr : ∀ k, r = some k → k < B) : TbR w' B v T := by
  obtain ⟨vs, h1, h2, h3⟩ := h
  exact ⟨vs, h1.keptG g hr, h2, fun k hk => (h3 k hk).keptG g hr⟩
theorem TbR.grew (h : TbR w B v T) (g : Grew w w') : TbR w' B v T := h.keptG g.grown (by simp)
theorem TbR.alloc (h : TbR w B v T) (o : Obj) : TbR (w.alloc o) B v T := h.grew ((Grew.refl w).alloc o)
theorem TbR.drewN (h : TbR w B v T) (n : Nat) : TbR (w.drewN n) B v T := h
theorem TbR.past {b : Nat} (h : TbR w B v T) (g : w.grownBy w' (some b)) (hb : b < B) : TbR w' B v T := h.keptG g (fun k e => by injection e with e; omega)
theorem TbR.wider {C : Nat} (h : TbR w B v T) (hC : C ≤ B) : TbR w C v T := by
  obtain ⟨vs, h1, h2, h3⟩ := h
  exact ⟨vs, h1.wider hC, h2, fun k hk => (h3 k hk).wider hC⟩
theorem TbR.slice (h : TbR w B v T) : ∃ a c, v = .slice a T.length c ∧ T.length ≤ c ∧ c ≤ maxLen := by
  obtain ⟨vs, h1, h2, h3⟩ := h
  rw [← h2]; exact h1.slice
/-- One table. -/
theorem TbR.at_ {a : Option Addr} {n c : Nat} (h : TbR w B (.slice a n c) T) {k : Nat} (hk : k < T.length) : ∃ g o a' c', a = some ⟨g, o, none⟩ ∧ B ≤ g ∧ g < w.heap.size ∧ w.cell? ⟨g, o + k, none⟩ = some (.slice a' (T.getD k []).length c') ∧ RdS 1 enc1 w B (.slice a' (T.getD k []).length c') (T.getD k []) := by
  obtain ⟨vs, h1, h2, h3⟩ := h
  obtain ⟨g, o, e, hB, hg, hc⟩ := h1.at_ (k := k) (by omega)
  obtain ⟨a', c', e2, -, -⟩ := (h3 k hk).slice
  refine ⟨g, o, a', c', e, hB, hg, ?_, by rw [← e2]; exact h3 k hk⟩
  have h4 := hc 0 (by omega)
  rw [Nat.mul_one, Nat.add_zero] at h4
  rw [h4, ← e2]
  have hk2 : k < vs.length := by omega
  simp [eV, List.getD, hk2]
end
/-- a and b hold the descriptors d. -/
structure DdR (w : World) (B : Nat) (a b : Value) (d : Dd) : Prop where
  o : RdS 5 encDs w B a d.o
  t : TbR w B b d.t
theorem DdR.grew {w w' : World} {B : Nat} {a b : Value} {d : Dd} (h : DdR w B a b d) (g : Grew w w') : DdR w' B a b d := ⟨h.o.grew g, h.t.grew g⟩
theorem DdR.past {w w' : World} {B x : Nat} {a b : Value} {d : Dd} (h : DdR w B a b d) (g : w.grownBy w' (some x)) (hb : x < B) : DdR w' B a b d := ⟨h.o.past g hb, h.t.past g hb⟩
theorem DdR.wider {w : World} {B C : Nat} {a b : Value} {d : Dd} (h : DdR w B a b d) (hC : C ≤ B) : DdR w C a b d := ⟨h.o.wider hC, h.t.wider hC⟩
/-- One integer of a read-only slice. -/
theorem RdS.atI {w : World} {B n c : Nat} {a : Option Addr} {L : List Int} (h : RdS 1 enc1 w B (.slice a n c) L) {k : Nat} (hk : k < L.length) : ∃ g o, a = some ⟨g, o, none⟩ ∧ B ≤ g ∧ g < w.heap.size ∧ w.cell? ⟨g, o + k, none⟩ = some (.int .i64 (L.getD k 0)) := by
  obtain ⟨g, o, e, hB, hg, hc⟩ := h.at_ hk
  refine ⟨g, o, e, hB, hg, ?_⟩
  have := hc 0 (by omega)
  rw [getD_get hk]
  rw [Nat.mul_one, Nat.add_zero] at this
  exact this
/-- One description. -/
theorem RdS.atD {w : World} {B n c : Nat} {a : Option Addr} {L : List Ds} (h : RdS 5 encDs w B (.slice a n c) L) {k : Nat} (hk : k < L.length) : ∃ g o, a = some ⟨g, o, none⟩ ∧ B ≤ g ∧ g < w.heap.size ∧
    w.cell? ⟨g, o + k * 5, none⟩ = some (.int .i64 (L.getD k zDs).f) ∧ w.cell? ⟨g, o + k * 5 + 1, none⟩ = some (.int .i64 (L.getD k zDs).g) ∧ w.cell? ⟨g, o + k * 5 + 2, none⟩ = some (.int .i64 (L.getD k zDs).o) ∧
    w.cell? ⟨g, o + k * 5 + 3, none⟩ = some (.int .i64 (L.getD k zDs).c) ∧ w.cell? ⟨g, o + k * 5 + 4, none⟩ = some (.int .i64 (L.getD k zDs).r) := by
  obtain ⟨g, o, e, hB, hg, hc⟩ := h.at_ hk
  refine ⟨g, o, e, hB, hg, ?_⟩
  rw [getD_get hk]
  exact ⟨hc 0 (by omega), hc 1 (by omega), hc 2 (by omega), hc 3 (by omega), hc 4 (by omega)⟩
section
variable {w w' : World} {g : Nat} {t : TypeId} {cs : Array Value}
theorem Own.fiveD {a b c d e : Value} (h : Own w g t #[a, b, c, d, e]) : w.cell? ⟨g, 0, none⟩ = some a ∧ w.cell? ⟨g, 1, none⟩ = some b ∧ w.cell? ⟨g, 2, none⟩ = some c ∧ w.cell? ⟨g, 3, none⟩ = some d ∧ w.cell? ⟨g, 4, none⟩ = some e :=
  ⟨(h.cell 0).trans rfl, (h.cell 1).trans rfl, (h.cell 2).trans rfl, (h.cell 3).trans rfl, (h.cell 4).trans rfl⟩
theorem Own.five0D {a b c d e : Value} (h : Own w g t #[a, b, c, d, e]) : w.frozen? ⟨g, 0, none⟩ = false ∧ w.frozen? ⟨g, 1, none⟩ = false ∧ w.frozen? ⟨g, 2, none⟩ = false ∧ w.frozen? ⟨g, 3, none⟩ = false ∧ w.frozen? ⟨g, 4, none⟩ = false :=
  ⟨h.frozen 0, h.frozen 1, h.frozen 2, h.frozen 3, h.frozen 4⟩
end
end Go.Mine
