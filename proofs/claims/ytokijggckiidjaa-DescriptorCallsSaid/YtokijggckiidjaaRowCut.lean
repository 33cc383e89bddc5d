/- Rows of which the first elements are taken, and of which the rest is wiped: words of my own, no program is named here. -/
import Derived.Test.YtokijggckiidjaaRows2
import Derived.Lib.SliceRun
import Derived.Lib.LazyBuf
namespace Go.Mine
open Go Go.RowKit

section
variable {α : Type} {T : TypeId} {sz : Nat} {enc : α → List Value} {w : World} {B g n c : Nat}
theorem fm_take (he : ∀ a, (enc a).length = sz) : ∀ (L : List α) (k : Nat), (L.take k).flatMap enc = (L.flatMap enc).take (k * sz)
  | [], k => by simp
  | a :: L, 0 => by simp
  | a :: L, k + 1 => by
    rw [List.take_succ_cons, List.flatMap_cons, List.flatMap_cons, fm_take he L k, List.take_append, he, Nat.succ_mul]
    rw [List.take_of_length_le (show (enc a).length ≤ k * sz + sz by rw [he]; omega), show k * sz + sz - sz = k * sz by omega]
/-- The first k elements of a row: the shorter slice. -/
theorem RowE.cut {L : List α} (he : ∀ a, (enc a).length = sz) (h : RowE T sz enc w B (.slice (some ⟨g, 0, none⟩) n c) L) {k : Nat} (hk : k ≤ L.length) :
    RowE T sz enc w B (.slice (some ⟨g, 0, none⟩) k c) (L.take k) := by
  obtain ⟨h1, h2 | ⟨g0, cap, cur, e, hB, hg, hc, hm, hs, ht⟩⟩ := h
  · exact absurd h2.1 (by simp)
  · injection e with e1 e2 e3
    injection e1 with e1
    injection e1 with e1
    subst e1 e3
    have hl : (L.take k).length = k := by rw [List.length_take]; omega
    have hmul : k * sz ≤ L.length * sz := Nat.mul_le_mul_right sz hk
    refine ⟨fm_len he _, .inr ⟨g, c, cur, by rw [hl], hB, hg, by rw [hl]; omega, hm, hs, ?_⟩⟩
    rw [hl, fm_take he, ← ht, List.take_take, Nat.min_eq_left hmul]
/-- What lies behind a row's elements may be written. -/
theorem RowE.wiped {L : List α} (he : ∀ a, (enc a).length = sz) : ∀ (vs : List Value) (o : Nat) (w : World), RowE T sz enc w B (.slice (some ⟨g, 0, none⟩) L.length c) L → L.length * sz ≤ o →
    RowE T sz enc (w.setCells g o vs) B (.slice (some ⟨g, 0, none⟩) L.length c) L
  | [], _, _, h, _ => h
  | v :: vs, o, w, h, ho => by
    refine RowE.wiped he vs (o + 1) (w.setCell ⟨g, o, none⟩ v) (RowE.stored h o v rfl ?_) (by omega)
    exact List.set_eq_of_length_le (by rw [fm_len he]; exact ho)
theorem grown_setCells {a : World} {r : Option Nat} (hr : r = some g ∨ a.heap.size ≤ g) : ∀ (vs : List Value) (o : Nat) (w : World), a.grownBy w r → a.grownBy (w.setCells g o vs) r
  | [], _, _, h => h
  | v :: vs, o, w, h => grown_setCells hr vs (o + 1) (w.setCell ⟨g, o, none⟩ v) (grown_set h (p := ⟨g, o, none⟩) hr v)
/-- A row stays over a store of three cells into a block ahead of it. -/
theorem RowE.far3 {w' : World} {v : Value} {L : List α} {b : Nat} {x y z : Value} (h : RowE T sz enc w B v L) (hw : ((w.setCell ⟨b, 0, none⟩ x).setCell ⟨b, 1, none⟩ y).setCell ⟨b, 2, none⟩ z = w') (hb : b < B) : RowE T sz enc w' B v L := by
  rw [← hw]
  exact h.keptB (r := some b) (grown_set (p := ⟨b, 2, none⟩) (grown_set (p := ⟨b, 1, none⟩) (grown_set (p := ⟨b, 0, none⟩) (grown_refl _ _) (.inl rfl) x) (.inl rfl) y) (.inl rfl) z) (fun k e => by injection e with e; omega)
end
end Go.Mine
