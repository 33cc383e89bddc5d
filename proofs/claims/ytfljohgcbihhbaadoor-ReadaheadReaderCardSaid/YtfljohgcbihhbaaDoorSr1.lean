/- The reference's functions of one stream (layer 6). -/
import Derived.Test.YtfljohgcbihhbaaDoorSt2
namespace Go.Proofs.YtfljohgcbihhbaaDoor
open Go.RowKit Go.Mine

theorem rAccess_any (a b : Int) (w : World) : Calls Tryd.prog 32 #[.int .i64 a, .int .i64 b] w (RetS (.bool (accB a b)) w) := by
  go_enter Tryd.func32, Tryd.ntmps32
  go_wp2
  all_goals go_ret
  all_goals exact ⟨ret_bool (by unfold accB AccP; first | exact decide_eq_decide.2 (by omega) | exact (decide_eq_false (by omega)).symm), rfl⟩
theorem rAccess_v {v : Bool} (a b : Int) (w : World) (h : accB a b = v) : Calls Tryd.prog 32 #[.int .i64 a, .int .i64 b] w (RetS (.bool v) w) := h ▸ rAccess_any a b w
def stNB (d : Int) : Bool := decide ((2 ≤ d ∧ d ≤ 8) ∨ (-8 ≤ d ∧ d ≤ -2))
theorem rstep_any (d : Int) (w : World) : Calls Tryd.prog 54 #[.int .i64 d] w (RetS (.bool (stNB d)) w) := by
  go_enter Tryd.func54, Tryd.ntmps54
  go_wp2
  all_goals go_ret
  all_goals exact ⟨ret_bool (by unfold stNB; first | exact decide_eq_decide.2 (by omega) | exact (decide_eq_false (by omega)).symm | exact (decide_eq_true (by omega)).symm), rfl⟩
theorem rstep_v {v : Bool} (d : Int) (w : World) (h : stNB d = v) : Calls Tryd.prog 54 #[.int .i64 d] w (RetS (.bool v) w) := h ▸ rstep_any d w
theorem beq_t {x y : Int} (h : x = y) : (x == y) = true := by simpa using h
theorem beq_f {x y : Int} (h : ¬x = y) : (x == y) = false := by simpa using h

theorem beq_rgt {x : Str} (h : x.d = 0 ↔ RgtP x) : (x.d == 0) = rgtB x := by rw [Bool.eq_iff_iff, beq_iff_eq, rgtB, decide_eq_true_eq]; exact h

set_option maxHeartbeats 1000000 in
theorem rRight_any (x : Str) (w : World) : Calls Tryd.prog 31 #[strV x] w (RetG (.bool (rgtB x)) w) := by
  have G : Grew w (w.alloc (.cells (csS x) 29)) := (Grew.refl _).alloc _
  cases h0 : accB x.a x.b
  case false =>
    go_enter Tryd.func31, Tryd.ntmps31
    go_wp2_with (go_at_call 32; (with_reducible refine (rAccess_v _ _ _ h0).mono ?_); rintro e w1 ⟨rfl, rfl⟩)
    go_ret
    exact ⟨rgt_no (fun h => acc_false h0 h.1), G⟩
  case true =>
    obtain ⟨a0, a1, a2⟩ := acc_true h0
    by_cases p1 : x.k = 1
    · have e1 := beq_t p1
      have P1 := Lib.hid p1
      have e3 := beq_f (show ¬x.k = 4 by omega)
      have q0 : 1 ≤ x.k := by omega
      have q1 : x.k ≤ 4 := by omega
      clear p1
      cases e2 : x.h == 0
      all_goals
        have P2 := Lib.hid e2
        go_enter Tryd.func31, Tryd.ntmps31
        go_wp2_with (go_at_call 32; (with_reducible refine (rAccess_v _ _ _ h0).mono ?_); rintro e w1 ⟨rfl, rfl⟩)
        all_goals go_ret
        all_goals
          have p1 := P1.out
          have p2 := P2.out
          simp only [beq_iff_eq, beq_eq_false_iff_ne] at p2
          first
            | exact ⟨rgt_no (by unfold RgtP AccP; omega), G⟩
            | exact ⟨ret_bool (beq_rgt (by unfold RgtP AccP; omega)), G⟩
    · have e1 := beq_f p1
      have P1 := Lib.hid p1
      clear p1
      by_cases p3 : x.k = 4
      · have e3 := beq_t p3
        have P3 := Lib.hid p3
        have q0 : 1 ≤ x.k := by omega
        have q1 : x.k ≤ 4 := by omega
        clear p3
        cases e4 : stNB x.d
        case false =>
          have P4 := Lib.hid (show ¬((2 ≤ x.d ∧ x.d ≤ 8) ∨ (-8 ≤ x.d ∧ x.d ≤ -2)) from of_decide_eq_false e4)
          cases e2 : x.h == 0
          all_goals
            have P2 := Lib.hid e2
            go_enter Tryd.func31, Tryd.ntmps31
            go_wp2_with (first | (go_at_call 32; (with_reducible refine (rAccess_v _ _ _ h0).mono ?_); rintro e w1 ⟨rfl, rfl⟩) | (go_at_call 54; (with_reducible refine (rstep_v _ _ e4).mono ?_); rintro e w1 ⟨rfl, rfl⟩))
            all_goals go_ret
            all_goals
              have p1 := P1.out
              have p2 := P2.out
              have p3 := P3.out
              have p4 := P4.out
              simp only [beq_iff_eq, beq_eq_false_iff_ne] at p2
              exact ⟨rgt_no (by unfold RgtP AccP StpP; omega), G⟩
        case true =>
          have P4 := (show ((2 ≤ x.d ∧ x.d ≤ 8) ∨ (-8 ≤ x.d ∧ x.d ≤ -2)) from of_decide_eq_true e4)
          have d0 : -8 ≤ x.d := by omega
          have d1 : x.d ≤ 8 := by omega
          have P4 := Lib.hid P4
          cases e2 : x.h == 0
          all_goals
            have P2 := Lib.hid e2
            go_enter Tryd.func31, Tryd.ntmps31
            go_wp2_with (first | (go_at_call 32; (with_reducible refine (rAccess_v _ _ _ h0).mono ?_); rintro e w1 ⟨rfl, rfl⟩) | (go_at_call 54; (with_reducible refine (rstep_v _ _ e4).mono ?_); rintro e w1 ⟨rfl, rfl⟩))
            all_goals go_ret
            all_goals
              have p1 := P1.out
              have p2 := P2.out
              have p3 := P3.out
              have p4 := P4.out
              simp only [beq_iff_eq, beq_eq_false_iff_ne] at p2
              first
                | exact ⟨rgt_no (by unfold RgtP AccP StpP; omega), G⟩
                | exact ⟨ret_bool (by unfold rgtB RgtP AccP StpP; exact decide_eq_decide.2 (by omega)), G⟩
      · have e3 := beq_f p3
        have P3 := Lib.hid p3
        clear p3
        cases e2 : x.h == 0
        all_goals
          have P2 := Lib.hid e2
          go_enter Tryd.func31, Tryd.ntmps31
          go_wp2_with (go_at_call 32; (with_reducible refine (rAccess_v _ _ _ h0).mono ?_); rintro e w1 ⟨rfl, rfl⟩)
          all_goals go_ret
          all_goals
            have p1 := P1.out
            have p2 := P2.out
            have p3 := P3.out
            simp only [beq_iff_eq, beq_eq_false_iff_ne] at p2
            first
              | exact ⟨rgt_no (by unfold RgtP AccP; omega), G⟩
              | exact ⟨ret_bool (beq_rgt (by unfold RgtP AccP; omega)), G⟩
theorem rRight_v {v : Bool} (x : Str) (w : World) (h : rgtB x = v) : Calls Tryd.prog 31 #[strV x] w (RetG (.bool v) w) := h ▸ rRight_any x w
end Go.Proofs.YtfljohgcbihhbaaDoor
