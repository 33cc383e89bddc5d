/- layout.chosen: which pages of a file are in a list. -/
import Derived.Test.YtfoeemibhkkbgaaSpanMath
import Derived.Test.YtfoeemibhkkbgaaRows2
namespace Go.Proofs.Ytfoeemibhkkbgaa
open Go.RowKit Go.Mine

def chA (xs : List Int) : Array Value := #[.bool (chB xs 0), .bool (chB xs 1), .bool (chB xs 2), .bool (chB xs 3), .bool (chB xs 4), .bool (chB xs 5), .bool (chB xs 6), .bool (chB xs 7)]
theorem chB_snoc (xs : List Int) (x p : Int) : chB (xs ++ [x]) p = (chB xs p || decide (p = x)) := by
  unfold chB
  rw [Bool.eq_iff_iff]
  simp
theorem chA_far (xs : List Int) (x : Int) (h : withB x 7 = false) : chA (xs ++ [x]) = chA xs := by
  have := withB_false h
  have e : ∀ p : Int, 0 ≤ p → p ≤ 7 → chB (xs ++ [x]) p = chB xs p := fun p p0 p1 => by rw [chB_snoc, decide_eq_false (by omega), Bool.or_false]
  unfold chA
  rw [e 0 (by omega) (by omega), e 1 (by omega) (by omega), e 2 (by omega) (by omega), e 3 (by omega) (by omega), e 4 (by omega) (by omega), e 5 (by omega) (by omega), e 6 (by omega) (by omega), e 7 (by omega) (by omega)]
theorem chA_set (xs : List Int) (p : Nat) (h : p < 8) : (chA xs).setIfInBounds p (.bool true) = chA (xs ++ [(p : Int)]) := by
  have hp : p = 0 ∨ p = 1 ∨ p = 2 ∨ p = 3 ∨ p = 4 ∨ p = 5 ∨ p = 6 ∨ p = 7 := by omega
  rcases hp with rfl | rfl | rfl | rfl | rfl | rfl | rfl | rfl <;> simp [chA, chB_snoc]
def no8 : Array Value := #[.bool false, .bool false, .bool false, .bool false, .bool false, .bool false, .bool false, .bool false]
set_option maxHeartbeats 2000000 in
theorem chosen_any (B : Nat) (v : Value) (xs : List Int) (w : World) (hm : xs.length ≤ 1000000) (R : RowE 3 1 enc1 w B v xs) :
    Calls Try.prog 32 #[v] w (RetG (.agg (chA xs)) w) := by
  obtain ⟨a, X, c, rfl, hX, hcell⟩ := R.ints
  have HC := Lib.hid hcell
  have HX := Lib.hid hX
  have hX2 : X ≤ 1000000 := by omega
  clear hcell R hX hm
  go_enter Try.func32, Try.ntmps32
  go_wp2
  go_loopw [8] (fun i wr => ∃ k : Nat, i = .int .i64 k ∧ k ≤ X ∧ Own wr w.heap.size 48 no8 ∧ Own wr (w.heap.size + 1) 48 (chA (xs.take k)) ∧ Grew w wr) (fun i _ => X - (intOf i).toNat)
  case atStart => exact ⟨0, rfl, by omega, (Own.new w 48 no8).alloc (.cells no8 48), Own.new2 w (.cells no8 48) 48 no8, ((Grew.refl _).alloc _).alloc _⟩
  case round =>
    obtain ⟨k, rfl, hk, OA, OB, G⟩ := hrel
    by_cases hlt : k < X
    · obtain ⟨g, rfl, hg, -, hx⟩ := HC.out k hlt
      have hc := (G.cells.1 g k hg).trans hx
      have ht := take_getD (d := (0 : Int)) xs k (by rw [← HX.out]; exact hlt)
      generalize xs.getD k 0 = x at hc ht
      have HT := Lib.hid ht
      clear hx ht
      cases hb : withB x 7
      · go_wp2_with (go_at_call 28; (with_reducible refine (isPage_any _ _).mono ?_); rintro e w1 ⟨rfl, rfl⟩)
        go_roundw
        case rel => exact ⟨k + 1, by go_num, by omega, OA, by rw [HT.out, chA_far _ _ hb]; exact OB, G⟩
        case measure => simp [intOf]; omega
      · obtain ⟨x0, x1⟩ := withB_true hb
        obtain ⟨p, rfl⟩ := Int.eq_ofNat_of_zero_le x0
        have hu : ∃ u, wr.cell? ⟨w.heap.size + 1, p, none⟩ = some u := by
          rw [OB.cell]
          exact ⟨_, Array.getElem?_eq_getElem (by show p < 8; omega)⟩
        obtain ⟨u, hu⟩ := hu
        have hf := OB.frozen p
        go_wp2_with (go_at_call 28; (with_reducible refine (isPage_any _ _).mono ?_); rintro e w1 ⟨rfl, rfl⟩)
        go_roundw
        case rel => exact ⟨k + 1, by go_num, by omega, OA.far (p := ⟨w.heap.size + 1, p, none⟩) (by simp) _, by rw [HT.out, ← chA_set _ _ (by omega)]; exact OB.set p _, G.set (p := ⟨w.heap.size + 1, p, none⟩) (by simp) _⟩
        case measure => simp [intOf]; omega
    · have hk2 : k = X := by omega
      subst hk2
      have et : xs.take k = xs := List.take_of_length_le (by rw [← HX.out]; omega)
      rw [et] at OB
      clear et
      obtain ⟨a0, a1, a2, a3, a4, a5, a6, a7⟩ := OA.eight
      obtain ⟨f0, f1, f2, f3, f4, f5, f6, f7⟩ := OA.eight_free
      obtain ⟨b0, b1, b2, b3, b4, b5, b6, b7⟩ := OB.eight
      go_wp2
      have OE : Own _ w.heap.size 48 (chA xs) := (((((((OA.set 0 (.bool (chB xs 0))).set 1 (.bool (chB xs 1))).set 2 (.bool (chB xs 2))).set 3 (.bool (chB xs 3))).set 4 (.bool (chB xs 4))).set 5 (.bool (chB xs 5))).set 6 (.bool (chB xs 6))).set 7 (.bool (chB xs 7))
      have GE := (((((((G.set (p := ⟨w.heap.size, 0, none⟩) (Nat.le_refl _) (.bool (chB xs 0))).set (p := ⟨w.heap.size, 1, none⟩) (Nat.le_refl _) (.bool (chB xs 1))).set (p := ⟨w.heap.size, 2, none⟩) (Nat.le_refl _) (.bool (chB xs 2))).set (p := ⟨w.heap.size, 3, none⟩) (Nat.le_refl _) (.bool (chB xs 3))).set (p := ⟨w.heap.size, 4, none⟩) (Nat.le_refl _) (.bool (chB xs 4))).set (p := ⟨w.heap.size, 5, none⟩) (Nat.le_refl _) (.bool (chB xs 5))).set (p := ⟨w.heap.size, 6, none⟩) (Nat.le_refl _) (.bool (chB xs 6))).set (p := ⟨w.heap.size, 7, none⟩) (Nat.le_refl _) (.bool (chB xs 7))
      clear a0 a1 a2 a3 a4 a5 a6 a7 f0 f1 f2 f3 f4 f5 f6 f7 b0 b1 b2 b3 b4 b5 b6 b7 OA OB G
      generalize World.setCell _ _ _ = E at OE GE ⊢
      obtain ⟨a0, a1, a2, a3, a4, a5, a6, a7⟩ := OE.eight
      refine bodyPost_ret (v := .agg (chA xs)) (by simp [results, Try.results32, go_sem, chA, a0, a1, a2, a3, a4, a5, a6, a7]) rfl ⟨rfl, ?_⟩
      exact GE
end Go.Proofs.Ytfoeemibhkkbgaa
