/- The reference's windows (layer 7): contracts. -/
import Derived.Test.YtfljohgcbihhbaaDoorRa1
import Derived.Test.YtfljohgcbihhbaaDoorRowCut
import Derived.Test.YtfljohgcbihhbaaDoorStY
namespace Go.Proofs.YtfljohgcbihhbaaDoor
open Go.RowKit Go.Mine

theorem qcheck_zero (w : World) : Calls Tryd.prog 15 #[wnV zW] w (RetG (.bool true) w) := by
  have G : Grew w (w.alloc (.cells (csW zW) 32)) := (Grew.refl _).alloc _
  go_enter Tryd.func15, Tryd.ntmps15
  go_wp2
  go_ret
  exact ⟨rfl, G⟩
set_option maxHeartbeats 2000000 in
theorem qcheck_any (x : Wn) (w : World) : Calls Tryd.prog 15 #[wnV x] w (RetG (.bool (wokB x)) w) := by
  obtain ⟨s, n, y⟩ := x
  have hW : ¬ZerP ⟨s, n, y⟩ → wokB ⟨s, n, y⟩ = decide (0 ≤ s ∧ s ≤ 255 ∧ 1 ≤ n ∧ n ≤ 8 ∧ 0 ≤ y ∧ y ≤ n) := fun hz => decide_eq_decide.2 (by unfold WokP; exact ⟨fun h => h.resolve_left hz, .inr⟩)
  rcases zer_cases ⟨s, n, y⟩ with h | ⟨h, hz⟩ | ⟨h', h, hz⟩ | ⟨h', h'', h, hz⟩
  · obtain ⟨h1, h2, h3⟩ := h
    simp only at h1 h2 h3
    subst h1 h2 h3
    exact qcheck_zero w
  · have HW := Lib.hid (hW hz)
    simp only at h
    clear hz hW
    by_cases h0 : 0 ≤ s
    · by_cases h1 : s ≤ 255
      · by_cases h2 : 1 ≤ n
        · by_cases h3 : n ≤ 8
          · by_cases h4 : 0 ≤ y
            · have E := Lib.hid (show decide (y ≤ n) = wokB ⟨s, n, y⟩ from by rw [HW.out]; exact decide_eq_decide.2 (by omega))
              go_enter Tryd.func15, Tryd.ntmps15
              go_wp2
              go_ret
              exact ⟨ret_bool E.out, (Grew.refl _).alloc _⟩
            · have E := Lib.hid (show false = wokB ⟨s, n, y⟩ from by rw [HW.out]; exact (decide_eq_false (by omega)).symm)
              go_enter Tryd.func15, Tryd.ntmps15
              go_wp2
              go_ret
              exact ⟨ret_bool E.out, (Grew.refl _).alloc _⟩
          · have E := Lib.hid (show false = wokB ⟨s, n, y⟩ from by rw [HW.out]; exact (decide_eq_false (by omega)).symm)
            go_enter Tryd.func15, Tryd.ntmps15
            go_wp2
            go_ret
            exact ⟨ret_bool E.out, (Grew.refl _).alloc _⟩
        · have E := Lib.hid (show false = wokB ⟨s, n, y⟩ from by rw [HW.out]; exact (decide_eq_false (by omega)).symm)
          go_enter Tryd.func15, Tryd.ntmps15
          go_wp2
          go_ret
          exact ⟨ret_bool E.out, (Grew.refl _).alloc _⟩
      · have E := Lib.hid (show false = wokB ⟨s, n, y⟩ from by rw [HW.out]; exact (decide_eq_false (by omega)).symm)
        go_enter Tryd.func15, Tryd.ntmps15
        go_wp2
        go_ret
        exact ⟨ret_bool E.out, (Grew.refl _).alloc _⟩
    · have E := Lib.hid (show false = wokB ⟨s, n, y⟩ from by rw [HW.out]; exact (decide_eq_false (by omega)).symm)
      go_enter Tryd.func15, Tryd.ntmps15
      go_wp2
      go_ret
      exact ⟨ret_bool E.out, (Grew.refl _).alloc _⟩
  · simp only at h' h
    subst h'
    have HW := Lib.hid (hW hz)
    clear hz hW
    by_cases h2 : 1 ≤ n
    · by_cases h3 : n ≤ 8
      · by_cases h4 : 0 ≤ y
        · have E := Lib.hid (show decide (y ≤ n) = wokB ⟨0, n, y⟩ from by rw [HW.out]; exact decide_eq_decide.2 (by omega))
          go_enter Tryd.func15, Tryd.ntmps15
          go_wp2
          go_ret
          exact ⟨ret_bool E.out, (Grew.refl _).alloc _⟩
        · have E := Lib.hid (show false = wokB ⟨0, n, y⟩ from by rw [HW.out]; exact (decide_eq_false (by omega)).symm)
          go_enter Tryd.func15, Tryd.ntmps15
          go_wp2
          go_ret
          exact ⟨ret_bool E.out, (Grew.refl _).alloc _⟩
      · have E := Lib.hid (show false = wokB ⟨0, n, y⟩ from by rw [HW.out]; exact (decide_eq_false (by omega)).symm)
        go_enter Tryd.func15, Tryd.ntmps15
        go_wp2
        go_ret
        exact ⟨ret_bool E.out, (Grew.refl _).alloc _⟩
    · have E := Lib.hid (show false = wokB ⟨0, n, y⟩ from by rw [HW.out]; exact (decide_eq_false (by omega)).symm)
      go_enter Tryd.func15, Tryd.ntmps15
      go_wp2
      go_ret
      exact ⟨ret_bool E.out, (Grew.refl _).alloc _⟩
  · simp only at h' h'' h
    subst h' h''
    have E := Lib.hid (show false = wokB ⟨0, 0, y⟩ from by rw [hW hz]; exact (decide_eq_false (by omega)).symm)
    clear hz hW
    go_enter Tryd.func15, Tryd.ntmps15
    go_wp2
    go_ret
    exact ⟨ret_bool E.out, (Grew.refl _).alloc _⟩
theorem qcheck_v {v : Bool} (x : Wn) (w : World) (h : wokB x = v) : Calls Tryd.prog 15 #[wnV x] w (RetG (.bool v) w) := h ▸ qcheck_any x w
theorem qfirst_any (n : Int) (w : World) : Calls Tryd.prog 17 #[.int .i64 n] w (RetS (.int .i64 (firF n)) w) := by
  rcases (show n ≤ 1 ∨ (1 < n ∧ n ≤ 2) ∨ (2 < n ∧ n ≤ 4) ∨ 4 < n by omega) with h1 | ⟨h1, h2⟩ | ⟨h1, h2⟩ | h1
  · have e := Lib.hid (show firF n = 2 from by rw [firF, if_pos h1])
    go_enter Tryd.func17, Tryd.ntmps17
    go_wp2
    refine wp_loop_rounds 5 ?_
    rw [rounds_succ]
    go_wp2
    all_goals go_ret
    all_goals exact ⟨ret_int e.out.symm, rfl⟩
  · have e := Lib.hid (show firF n = 4 from by rw [firF, if_neg (by omega), if_pos h2])
    go_enter Tryd.func17, Tryd.ntmps17
    go_wp2
    refine wp_loop_rounds 5 ?_
    rw [rounds_succ]
    go_wp2
    rw [rounds_succ]
    go_wp2
    all_goals go_ret
    all_goals exact ⟨ret_int e.out.symm, rfl⟩
  · have e := Lib.hid (show firF n = 8 from by rw [firF, if_neg (by omega), if_neg (by omega)])
    go_enter Tryd.func17, Tryd.ntmps17
    go_wp2
    refine wp_loop_rounds 5 ?_
    rw [rounds_succ]
    go_wp2
    rw [rounds_succ]
    go_wp2
    rw [rounds_succ]
    go_wp2
    all_goals go_ret
    all_goals exact ⟨ret_int e.out.symm, rfl⟩
  · have e := Lib.hid (show firF n = 8 from by rw [firF, if_neg (by omega), if_neg (by omega)])
    go_enter Tryd.func17, Tryd.ntmps17
    go_wp2
    refine wp_loop_rounds 5 ?_
    rw [rounds_succ]
    go_wp2
    rw [rounds_succ]
    go_wp2
    rw [rounds_succ]
    go_wp2
    rw [rounds_succ]
    go_wp2
    all_goals go_ret
    all_goals exact ⟨ret_int e.out.symm, rfl⟩
theorem qfirst_v {v : Int} (n : Int) (w : World) (hv : firF n = v) : Calls Tryd.prog 17 #[.int .i64 n] w (RetS (.int .i64 v) w) := hv ▸ qfirst_any n w
/-- A number whose double is right, or wraps to nothing. -/
def DblP (n : Int) : Prop := (-4611686018427387904 ≤ n ∧ n ≤ 9223372036854775807) ∨ n = -9223372036854775808
theorem qgrown_any (n : Int) (w : World) (hd : DblP n) : Calls Tryd.prog 19 #[.int .i64 n] w (RetS (.int .i64 (groF n)) w) := by
  rcases (show n = -9223372036854775808 ∨ (-4611686018427387904 ≤ n ∧ n < 1) ∨ (1 ≤ n ∧ n ≤ 4) ∨ (4 < n ∧ n ≤ 8) ∨ 8 < n by unfold DblP at hd; omega) with rfl | ⟨h1, h2⟩ | ⟨h1, h2⟩ | ⟨h1, h2⟩ | h1
  · have e := Lib.hid (show groF (-9223372036854775808) = 1 from by decide)
    have hww : wrap64 (-18446744073709551616) = 0 := by decide +kernel
    clear hd
    go_enter Tryd.func19, Tryd.ntmps19
    go_wp2
    go_ret
    exact ⟨ret_int e.out.symm, rfl⟩
  · have e := Lib.hid (show groF n = 1 from by rw [groF, if_pos (by omega)])
    clear hd
    go_enter Tryd.func19, Tryd.ntmps19
    go_wp2
    go_ret
    exact ⟨ret_int e.out.symm, rfl⟩
  · have e := Lib.hid (show groF n = 2 * n from by rw [groF, if_neg (by omega), if_pos h2])
    clear hd
    go_enter Tryd.func19, Tryd.ntmps19
    go_wp2
    go_ret
    exact ⟨ret_int e.out.symm, rfl⟩
  · have e := Lib.hid (show groF n = 8 from by rw [groF, if_neg (by omega), if_neg (by omega)])
    clear hd
    go_enter Tryd.func19, Tryd.ntmps19
    go_wp2
    go_ret
    exact ⟨ret_int e.out.symm, rfl⟩
  · have e := Lib.hid (show groF n = 8 from by rw [groF, if_neg (by omega), if_neg (by omega)])
    clear hd
    go_enter Tryd.func19, Tryd.ntmps19
    go_wp2
    go_ret
    exact ⟨ret_int e.out.symm, rfl⟩
theorem qgrown_v {v : Int} (n : Int) (w : World) (hd : DblP n) (hv : groF n = v) : Calls Tryd.prog 19 #[.int .i64 n] w (RetS (.int .i64 v) w) := hv ▸ qgrown_any n w hd
end Go.Proofs.YtfljohgcbihhbaaDoor
