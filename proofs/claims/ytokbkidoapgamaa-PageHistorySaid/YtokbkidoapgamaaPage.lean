/- The contracts of package page (layer 2). -/
import Derived.Test.YtokbkidoapgamaaRows
import Derived.Test.YtokbkidoapgamaaBase
namespace Go.Proofs.Ytokbkidoapgamaa
open Go.RowKit Go.Mine

def setB (s : Int) : Bool := decide (0 ≤ s ∧ s ≤ 3)
def rangeB (s n : Int) : Bool := decide (0 ≤ s ∧ 0 ≤ n ∧ s ≤ 16 ∧ s + n ≤ 16)

set_option maxHeartbeats 400000 in
theorem isSet_any (s : Int) (w : World) :
    Calls Try.prog 27 #[.int .i64 s] w (RetS (.bool (setB s)) w) := by
  go_enter Try.func27, Try.ntmps27
  go_wp2
  all_goals
    go_ret
    refine ⟨ret_bool ?_, rfl⟩
    unfold setB
    simp <;> omega

set_option maxHeartbeats 400000 in
theorem isRange_any (s n : Int) (w : World) :
    Calls Try.prog 20 #[.int .i64 s, .int .i64 n] w (RetS (.bool (rangeB s n)) w) := by
  go_enter Try.func20, Try.ntmps20
  go_wp2
  all_goals
    go_ret
    refine ⟨ret_bool ?_, rfl⟩
    unfold rangeB
    first | (rw [Bool.eq_iff_iff]; simp only [decide_eq_true_eq]; omega) | (symm; rw [decide_eq_false_iff_not]; omega)

def secB (s n m lo hi : Int) : Bool := decide (m ≤ (if hi < s + n then hi else s + n) - (if s < lo then lo else s))
def secs (s n m : Int) : Int := (if secB s n m 0 8 then 1 else 0) + (if secB s n m 8 16 then 2 else 0)

set_option maxHeartbeats 1000000 in
theorem sectorsWith_any (s n m : Int) (w : World) (h0 : 0 ≤ s) (h1 : 0 ≤ n) (h2 : s ≤ 16) (h3 : s + n ≤ 16) (h4 : 1 ≤ m) (h5 : m ≤ 8) :
    Calls Try.prog 29 #[.int .i64 s, .int .i64 n, .int .i64 m] w (RetS (.int .i64 (secs s n m)) w) := by
  go_enter Try.func29, Try.ntmps29
  go_wp2
  refine wp_loop_rounds 3 ?_; rw [rounds_succ]
  go_wp2
  all_goals rw [rounds_succ]
  all_goals go_wp2
  all_goals rw [rounds_succ]
  all_goals go_wp2
  all_goals
    go_ret
    refine ⟨ret_int ?_, rfl⟩
    simp only [secs, secB, decide_eq_true_eq]
    repeat' split
    all_goals first | (exfalso; omega) | rfl | (repeat' split at *; all_goals omega)
end Go.Proofs.Ytokbkidoapgamaa
