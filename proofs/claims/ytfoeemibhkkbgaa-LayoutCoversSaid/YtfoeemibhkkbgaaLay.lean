/- The contracts of package layout (layer 4): places; the reference's as well. -/
import Derived.Test.YtfoeemibhkkbgaaRows
import Derived.Test.YtfoeemibhkkbgaaBase
import Derived.Outline
namespace Go.Proofs.Ytfoeemibhkkbgaa
open Go.RowKit Go.Mine

def withB (n m : Int) : Bool := decide (0 ≤ n ∧ n ≤ m)
def slotsF (n : Int) : Int := if 0 ≤ n ∧ n ≤ 128 then n / 18 else 0
def inoF (s w : Int) : Int := if (0 ≤ s ∧ s ≤ 6) ∧ (0 ≤ w ∧ w ≤ 1) then s * 18 + w else -1
def pagF (s p : Int) : Int := if (0 ≤ s ∧ s ≤ 6) ∧ (0 ≤ p ∧ p ≤ 7) then s * 18 + 2 + p * 2 else -1
def ownS (n : Int) : Int := if 0 ≤ n ∧ n ≤ 125 then n / 18 else -1
def ownP (n : Int) : Int := if 0 ≤ n ∧ n ≤ 125 then (if n % 18 < 2 then -1 - n % 18 else (n % 18 - 2) / 2) else 0
theorem withB_true {n m : Int} (h : withB n m = true) : 0 ≤ n ∧ n ≤ m := by simpa [withB] using h
theorem withB_false {n m : Int} (h : withB n m = false) : ¬ (0 ≤ n ∧ n ≤ m) := by simpa [withB] using h
theorem ret_two {a b c d : Int} (h : a = b) (k : c = d) : Ending.returned (.tuple #[.int .i64 a, .int .i64 c]) = .returned (.tuple #[.int .i64 b, .int .i64 d]) := by rw [h, k]
theorem withB_yes {n m : Int} (h0 : 0 ≤ n) (h1 : n ≤ m) : withB n m = true := by simp [withB]; omega

set_option maxHeartbeats 400000 in
theorem within_any (n m : Int) (w : World) : Calls Try.prog 25 #[.int .i64 n, .int .i64 m] w (RetS (.bool (withB n m)) w) := by
  go_enter Try.func25, Try.ntmps25
  go_wp2
  all_goals
    go_ret
    refine ⟨ret_bool ?_, rfl⟩
    unfold withB
    first | (rw [Bool.eq_iff_iff]; simp only [decide_eq_true_eq]; omega) | (symm; rw [decide_eq_false_iff_not]; omega)
set_option maxHeartbeats 400000 in
theorem isSlot_any (n : Int) (w : World) : Calls Try.prog 26 #[.int .i64 n] w (RetS (.bool (withB n 6)) w) := by
  go_enter Try.func26, Try.ntmps26
  go_wp2_with (go_at_call 25; (with_reducible refine (within_any _ _ _).mono ?_); rintro e w1 ⟨rfl, rfl⟩)
  go_ret
  exact ⟨rfl, rfl⟩
set_option maxHeartbeats 400000 in
theorem isPage_any (n : Int) (w : World) : Calls Try.prog 28 #[.int .i64 n] w (RetS (.bool (withB n 7)) w) := by
  go_enter Try.func28, Try.ntmps28
  go_wp2_with (go_at_call 25; (with_reducible refine (within_any _ _ _).mono ?_); rintro e w1 ⟨rfl, rfl⟩)
  go_ret
  exact ⟨rfl, rfl⟩
set_option maxHeartbeats 400000 in
theorem slots_any (n : Int) (w : World) : Calls Try.prog 11 #[.int .i64 n] w (RetS (.int .i64 (slotsF n)) w) := by
  cases h : withB n 128
  · go_enter Try.func11, Try.ntmps11
    go_wp2_with (go_at_call 25; (with_reducible refine (within_any _ _ _).mono ?_); rintro e w1 ⟨rfl, rfl⟩)
    go_ret
    exact ⟨ret_int (by rw [slotsF, if_neg (withB_false h)]), rfl⟩
  · obtain ⟨h0, h1⟩ := withB_true h
    go_enter Try.func11, Try.ntmps11
    go_wp2_with (go_at_call 25; (with_reducible refine (within_any _ _ _).mono ?_); rintro e w1 ⟨rfl, rfl⟩)
    go_ret
    exact ⟨ret_int (by rw [slotsF, if_pos ⟨h0, h1⟩]), rfl⟩
set_option maxHeartbeats 1000000 in
theorem inode_any (s k : Int) (w : World) : Calls Try.prog 13 #[.int .i64 s, .int .i64 k] w (RetS (.int .i64 (inoF s k)) w) := by
  cases h : withB s 6
  · go_enter Try.func13, Try.ntmps13
    go_wp2_with (first | (go_at_call 26; (with_reducible refine (isSlot_any _ _).mono ?_); rintro e w1 ⟨rfl, rfl⟩) | (go_at_call 25; (with_reducible refine (within_any _ _ _).mono ?_); rintro e w1 ⟨rfl, rfl⟩))
    go_ret
    exact ⟨ret_int (by have := withB_false h; rw [inoF, if_neg (by omega)]), rfl⟩
  · cases h2 : withB k 1
    · go_enter Try.func13, Try.ntmps13
      go_wp2_with (first | (go_at_call 26; (with_reducible refine (isSlot_any _ _).mono ?_); rintro e w1 ⟨rfl, rfl⟩) | (go_at_call 25; (with_reducible refine (within_any _ _ _).mono ?_); rintro e w1 ⟨rfl, rfl⟩))
      go_ret
      exact ⟨ret_int (by have := withB_false h2; rw [inoF, if_neg (by omega)]), rfl⟩
    · obtain ⟨h0, h1⟩ := withB_true h
      obtain ⟨h3, h4⟩ := withB_true h2
      go_enter Try.func13, Try.ntmps13
      go_wp2_with (first | (go_at_call 26; (with_reducible refine (isSlot_any _ _).mono ?_); rintro e w1 ⟨rfl, rfl⟩) | (go_at_call 25; (with_reducible refine (within_any _ _ _).mono ?_); rintro e w1 ⟨rfl, rfl⟩))
      go_ret
      exact ⟨ret_int (by rw [inoF, if_pos (by omega)]), rfl⟩
set_option maxHeartbeats 1000000 in
theorem page_any (s k : Int) (w : World) : Calls Try.prog 15 #[.int .i64 s, .int .i64 k] w (RetS (.int .i64 (pagF s k)) w) := by
  cases h : withB s 6
  · go_enter Try.func15, Try.ntmps15
    go_wp2_with (first | (go_at_call 26; (with_reducible refine (isSlot_any _ _).mono ?_); rintro e w1 ⟨rfl, rfl⟩) | (go_at_call 28; (with_reducible refine (isPage_any _ _).mono ?_); rintro e w1 ⟨rfl, rfl⟩))
    go_ret
    exact ⟨ret_int (by have := withB_false h; rw [pagF, if_neg (by omega)]), rfl⟩
  · cases h2 : withB k 7
    · go_enter Try.func15, Try.ntmps15
      go_wp2_with (first | (go_at_call 26; (with_reducible refine (isSlot_any _ _).mono ?_); rintro e w1 ⟨rfl, rfl⟩) | (go_at_call 28; (with_reducible refine (isPage_any _ _).mono ?_); rintro e w1 ⟨rfl, rfl⟩))
      go_ret
      exact ⟨ret_int (by have := withB_false h2; rw [pagF, if_neg (by omega)]), rfl⟩
    · obtain ⟨h0, h1⟩ := withB_true h
      obtain ⟨h3, h4⟩ := withB_true h2
      go_enter Try.func15, Try.ntmps15
      go_wp2_with (first | (go_at_call 26; (with_reducible refine (isSlot_any _ _).mono ?_); rintro e w1 ⟨rfl, rfl⟩) | (go_at_call 28; (with_reducible refine (isPage_any _ _).mono ?_); rintro e w1 ⟨rfl, rfl⟩))
      go_ret
      exact ⟨ret_int (by rw [pagF, if_pos (by omega)]), rfl⟩
set_option maxHeartbeats 1000000 in
theorem owner_any (n : Int) (w : World) : Calls Try.prog 9 #[.int .i64 n] w (RetS (.tuple #[.int .i64 (ownS n), .int .i64 (ownP n)]) w) := by
  cases h : withB n 125
  · go_enter Try.func9, Try.ntmps9
    go_wp2_with (go_at_call 25; (with_reducible refine (within_any _ _ _).mono ?_); rintro e w1 ⟨rfl, rfl⟩)
    go_ret2
    have := withB_false h
    exact ⟨ret_two (by rw [ownS, if_neg this]) (by rw [ownP, if_neg this]), rfl⟩
  · obtain ⟨h0, h1⟩ := withB_true h
    by_cases h2 : n % 18 < 2
    · go_enter Try.func9, Try.ntmps9
      go_wp2_with (go_at_call 25; (with_reducible refine (within_any _ _ _).mono ?_); rintro e w1 ⟨rfl, rfl⟩)
      go_ret2
      exact ⟨ret_two (by rw [ownS, if_pos ⟨h0, h1⟩]) (by rw [ownP, if_pos ⟨h0, h1⟩, if_pos h2]), rfl⟩
    · go_enter Try.func9, Try.ntmps9
      go_wp2_with (go_at_call 25; (with_reducible refine (within_any _ _ _).mono ?_); rintro e w1 ⟨rfl, rfl⟩)
      go_ret2
      exact ⟨ret_two (by rw [ownS, if_pos ⟨h0, h1⟩]) (by rw [ownP, if_pos ⟨h0, h1⟩, if_neg (by omega)]), rfl⟩

/-! The reference. -/
set_option maxHeartbeats 400000 in
theorem rslots_any (n : Int) (w : World) : Calls Try.prog 12 #[.int .i64 n] w (RetS (.int .i64 (slotsF n)) w) := by
  by_cases h0 : n < 0
  · go_enter Try.func12, Try.ntmps12
    go_wp2
    go_ret
    exact ⟨ret_int (by rw [slotsF, if_neg (by omega)]), rfl⟩
  · by_cases h1 : 128 < n
    · go_enter Try.func12, Try.ntmps12
      go_wp2
      go_ret
      exact ⟨ret_int (by rw [slotsF, if_neg (by omega)]), rfl⟩
    · have h2 : 0 ≤ n := by omega
      have h3 : n ≤ 128 := by omega
      go_enter Try.func12, Try.ntmps12
      go_wp2
      go_ret
      exact ⟨ret_int (by rw [slotsF, if_pos (by omega)]), rfl⟩
theorem rslots_max (w : World) : Calls Try.prog 12 #[.int .i64 128] w (RetS (.int .i64 7) w) := rslots_any 128 w
set_option maxHeartbeats 400000 in
theorem rslot_any (n : Int) (w : World) : Calls Try.prog 27 #[.int .i64 n] w (RetS (.bool (withB n 6)) w) := by
  by_cases h0 : 0 ≤ n
  · by_cases h1 : n < 7
    · go_enter Try.func27, Try.ntmps27
      go_wp2_with (go_at_call 12; (with_reducible refine (rslots_max _).mono ?_); rintro e w1 ⟨rfl, rfl⟩)
      go_ret
      exact ⟨ret_bool (by unfold withB; first | (rw [Bool.eq_iff_iff]; simp only [decide_eq_true_eq]; omega) | (symm; rw [decide_eq_false_iff_not]; omega) | (symm; rw [decide_eq_true_eq]; omega)), rfl⟩
    · go_enter Try.func27, Try.ntmps27
      go_wp2_with (go_at_call 12; (with_reducible refine (rslots_max _).mono ?_); rintro e w1 ⟨rfl, rfl⟩)
      go_ret
      exact ⟨ret_bool (by unfold withB; first | (rw [Bool.eq_iff_iff]; simp only [decide_eq_true_eq]; omega) | (symm; rw [decide_eq_false_iff_not]; omega) | (symm; rw [decide_eq_true_eq]; omega)), rfl⟩
  · go_enter Try.func27, Try.ntmps27
    go_wp2_with (go_at_call 12; (with_reducible refine (rslots_max _).mono ?_); rintro e w1 ⟨rfl, rfl⟩)
    go_ret
    exact ⟨ret_bool (by unfold withB; first | (rw [Bool.eq_iff_iff]; simp only [decide_eq_true_eq]; omega) | (symm; rw [decide_eq_false_iff_not]; omega) | (symm; rw [decide_eq_true_eq]; omega)), rfl⟩
set_option maxHeartbeats 1000000 in
theorem rinode_any (s k : Int) (w : World) : Calls Try.prog 14 #[.int .i64 s, .int .i64 k] w (RetS (.int .i64 (inoF s k)) w) := by
  cases h : withB s 6
  · go_enter Try.func14, Try.ntmps14
    go_wp2_with (go_at_call 27; (with_reducible refine (rslot_any _ _).mono ?_); rintro e w1 ⟨rfl, rfl⟩)
    go_ret
    exact ⟨ret_int (by have := withB_false h; rw [inoF, if_neg (by omega)]), rfl⟩
  · obtain ⟨h0, h1⟩ := withB_true h
    by_cases e0 : k = 0
    · subst e0
      go_enter Try.func14, Try.ntmps14
      go_wp2_with (go_at_call 27; (with_reducible refine (rslot_any _ _).mono ?_); rintro e w1 ⟨rfl, rfl⟩)
      go_ret
      exact ⟨ret_int (by rw [inoF, if_pos (by omega)]; omega), rfl⟩
    · by_cases e1 : k = 1
      · subst e1
        go_enter Try.func14, Try.ntmps14
        go_wp2_with (go_at_call 27; (with_reducible refine (rslot_any _ _).mono ?_); rintro e w1 ⟨rfl, rfl⟩)
        go_ret
        exact ⟨ret_int (by rw [inoF, if_pos (by omega)]), rfl⟩
      · have b0 : (k != 0) = true := by simpa using e0
        have b1 : (k != 1) = true := by simpa using e1
        go_enter Try.func14, Try.ntmps14
        go_wp2_with (go_at_call 27; (with_reducible refine (rslot_any _ _).mono ?_); rintro e w1 ⟨rfl, rfl⟩)
        go_ret
        exact ⟨ret_int (by rw [inoF, if_neg (by omega)]), rfl⟩
set_option maxHeartbeats 1000000 in
theorem rpage_any (s k : Int) (w : World) : Calls Try.prog 16 #[.int .i64 s, .int .i64 k] w (RetS (.int .i64 (pagF s k)) w) := by
  cases h : withB s 6
  · go_enter Try.func16, Try.ntmps16
    go_wp2_with (go_at_call 27; (with_reducible refine (rslot_any _ _).mono ?_); rintro e w1 ⟨rfl, rfl⟩)
    go_ret
    exact ⟨ret_int (by have := withB_false h; rw [pagF, if_neg (by omega)]), rfl⟩
  · obtain ⟨h0, h1⟩ := withB_true h
    by_cases e0 : k < 0
    · go_enter Try.func16, Try.ntmps16
      go_wp2_with (go_at_call 27; (with_reducible refine (rslot_any _ _).mono ?_); rintro e w1 ⟨rfl, rfl⟩)
      go_ret
      exact ⟨ret_int (by rw [pagF, if_neg (by omega)]), rfl⟩
    · by_cases e1 : 8 ≤ k
      · go_enter Try.func16, Try.ntmps16
        go_wp2_with (go_at_call 27; (with_reducible refine (rslot_any _ _).mono ?_); rintro e w1 ⟨rfl, rfl⟩)
        go_ret
        exact ⟨ret_int (by rw [pagF, if_neg (by omega)]), rfl⟩
      · have e2 : 0 ≤ k := by omega
        have e3 : k < 8 := by omega
        go_enter Try.func16, Try.ntmps16
        go_wp2_with (go_at_call 27; (with_reducible refine (rslot_any _ _).mono ?_); rintro e w1 ⟨rfl, rfl⟩)
        go_ret
        exact ⟨ret_int (by rw [pagF, if_pos (by omega)]), rfl⟩
end Go.Proofs.Ytfoeemibhkkbgaa
