/- Layer 14: isCount, Free, Position, roundedUp and Pause, of the program and of the reference. -/
import Derived.Test.YtgeicbkhhmlceaaThM
import Derived.Test.YtgeicbkhhmlceaaTape
namespace Go.Proofs.Ytgeicbkhhmlceaa
open Go.RowKit Go.Mine

theorem cnt_p {n : Int} {b : Bool} {w : World} (hb : cT n = b) : Calls Try.prog 16 #[.int .i64 n] w (RetS (.bool b) w) := by
  have HB := Lib.hid hb
  clear hb
  by_cases t1 : 0 ≤ n
  · by_cases t2 : n ≤ 64
    · have HE : Hid (b = true) := Lib.hid (by rw [← HB.out]; exact cT_t t1 t2)
      go_enter Try.func16, Try.ntmps16
      go_wp2
      go_ret
      exact ⟨ret_bool HE.out.symm, rfl⟩
    · have HE : Hid (b = false) := Lib.hid (by rw [← HB.out]; exact cT_2 t2)
      go_enter Try.func16, Try.ntmps16
      go_wp2
      go_ret
      exact ⟨ret_bool HE.out.symm, rfl⟩
  · have HE : Hid (b = false) := Lib.hid (by rw [← HB.out]; exact cT_1 t1)
    go_enter Try.func16, Try.ntmps16
    go_wp2
    go_ret
    exact ⟨ret_bool HE.out.symm, rfl⟩
theorem free_p {d n : Int} {b : Bool} {w : World} (hb : fT d n = b) : Calls Try.prog 8 #[.int .i64 d, .int .i64 n] w (RetS (.bool b) w) := by
  have HB := Lib.hid hb
  clear hb
  have HW := Lib.hid (fT_ways d n)
  rcases HW.out with ⟨e, h1⟩ | ⟨e, h1, h2⟩ | ⟨h1, h2, e⟩
  · have HE := Lib.hid (HB.out.symm.trans e)
    have H1 := Lib.hid h1
    clear h1 e HW HB
    go_enter Try.func8, Try.ntmps8
    go_wp2_with fail
    with_reducible refine (cnt_p H1.out).mono ?_
    rintro e w1 ⟨rfl, rfl⟩
    go_wp2
    go_ret
    exact ⟨ret_bool HE.out.symm, rfl⟩
  · have HE := Lib.hid (HB.out.symm.trans e)
    have H1 := Lib.hid h1
    have H2 := Lib.hid h2
    clear h1 h2 e HW HB
    go_enter Try.func8, Try.ntmps8
    go_wp2_with fail
    with_reducible refine (cnt_p H1.out).mono ?_
    rintro e w1 ⟨rfl, rfl⟩
    go_wp2_with fail
    with_reducible refine (cnt_p H2.out).mono ?_
    rintro e w1 ⟨rfl, rfl⟩
    go_wp2
    go_ret
    exact ⟨ret_bool HE.out.symm, rfl⟩
  · have HE := Lib.hid (HB.out.symm.trans e)
    have H1 := Lib.hid h1
    have H2 := Lib.hid h2
    obtain ⟨d0, d1⟩ := cT_iff.1 h1
    have nd : wrap64 (2 * d) = 2 * d := IntWalk.wrap64_in _ (by omega)
    have ni : IntKind.i64.wrap (2 * d) = 2 * d := IntWalk.i64_in _ (by omega)
    clear h1 h2 e HW HB d0 d1
    go_enter Try.func8, Try.ntmps8
    go_wp2_with fail
    with_reducible refine (cnt_p H1.out).mono ?_
    rintro e w1 ⟨rfl, rfl⟩
    go_wp2_with fail
    with_reducible refine (cnt_p H2.out).mono ?_
    rintro e w1 ⟨rfl, rfl⟩
    go_wp2
    go_ret
    exact ⟨ret_bool HE.out.symm, rfl⟩
set_option maxHeartbeats 2000000 in
theorem pos_p {d n r : Int} {w : World} (hr : pT d n = r) : Calls Try.prog 10 #[.int .i64 d, .int .i64 n] w (RetS (.int .i64 r) w) := by
  have HR := Lib.hid hr
  clear hr
  have HW := Lib.hid (pT_ways d n)
  rcases HW.out with ⟨hf, e⟩ | ⟨hf, e, h1⟩ | ⟨hf, e, h1, h2⟩ | ⟨hf, e, h1, h2, h3⟩ | ⟨hf, e, h1, h2, h3⟩
  · have HE := Lib.hid (HR.out.symm.trans e)
    have HF := Lib.hid hf
    clear hf e HW HR
    go_enter Try.func10, Try.ntmps10
    go_wp2_with fail
    with_reducible refine (free_p HF.out).mono ?_
    rintro e w1 ⟨rfl, rfl⟩
    go_wp2
    go_ret
    exact ⟨ret_int HE.out.symm, rfl⟩
  · have HE := Lib.hid (HR.out.symm.trans e)
    have HF := Lib.hid hf
    have H1 := Lib.hid h1
    clear hf e h1 HW HR
    go_enter Try.func10, Try.ntmps10
    go_wp2_with fail
    with_reducible refine (free_p HF.out).mono ?_
    rintro e w1 ⟨rfl, rfl⟩
    go_wp2_with fail
    with_reducible refine (cnt_p H1.out).mono ?_
    rintro e w1 ⟨rfl, rfl⟩
    go_wp2
    go_ret
    exact ⟨ret_int HE.out.symm, rfl⟩
  · have HE := Lib.hid (HR.out.symm.trans e)
    have HF := Lib.hid hf
    have H1 := Lib.hid h1
    have H2 := Lib.hid h2
    clear hf e h1 h2 HW HR
    go_enter Try.func10, Try.ntmps10
    go_wp2_with fail
    with_reducible refine (free_p HF.out).mono ?_
    rintro e w1 ⟨rfl, rfl⟩
    go_wp2_with fail
    with_reducible refine (cnt_p H1.out).mono ?_
    rintro e w1 ⟨rfl, rfl⟩
    go_wp2_with fail
    with_reducible refine (cnt_p H2.out).mono ?_
    rintro e w1 ⟨rfl, rfl⟩
    go_wp2
    go_ret
    exact ⟨ret_int HE.out.symm, rfl⟩
  · have HE := Lib.hid (HR.out.symm.trans e)
    have HF := Lib.hid hf
    have H1 := Lib.hid h1
    have H2 := Lib.hid h2
    clear hf e h1 h2 HW HR
    go_enter Try.func10, Try.ntmps10
    go_wp2_with fail
    with_reducible refine (free_p HF.out).mono ?_
    rintro e w1 ⟨rfl, rfl⟩
    go_wp2_with fail
    with_reducible refine (cnt_p H1.out).mono ?_
    rintro e w1 ⟨rfl, rfl⟩
    go_wp2_with fail
    with_reducible refine (cnt_p H2.out).mono ?_
    rintro e w1 ⟨rfl, rfl⟩
    go_wp2
    go_ret
    exact ⟨ret_int HE.out.symm, rfl⟩
  · have HE := Lib.hid (HR.out.symm.trans e)
    have HF := Lib.hid hf
    have H1 := Lib.hid h1
    have H2 := Lib.hid h2
    have h4 := fT_f hf h1 h2
    obtain ⟨d0, d1⟩ := cT_iff.1 h1
    obtain ⟨m0, m1⟩ := cT_iff.1 h2
    obtain ⟨x0, x1, n1, q0, q1⟩ := qT_b d0 m1 h3
    obtain ⟨q, hq⟩ : ∃ q, qT d n = q := ⟨_, rfl⟩
    rw [hq] at HE q0 q1
    have hz : Int.tdiv ((n - d) * 2 * 256) n = q := by
      rw [← hq, Int.tdiv_eq_ediv_of_nonneg (by omega)]
      unfold qT
      first | rfl | (congr 1; omega)
    have nq : IntKind.i64.wrap q = q := IntWalk.i64_in _ (by omega)
    have nw : wrap64 q = q := IntWalk.wrap64_in _ (by omega)
    have nd : wrap64 (2 * d) = 2 * d := IntWalk.wrap64_in _ (by omega)
    have nx : ¬n = 0 := by omega
    clear hf e h1 h2 HW HR hq x0 x1 q0 q1
    go_enter Try.func10, Try.ntmps10
    go_wp2_with fail
    with_reducible refine (free_p HF.out).mono ?_
    rintro e w1 ⟨rfl, rfl⟩
    go_wp2_with fail
    with_reducible refine (cnt_p H1.out).mono ?_
    rintro e w1 ⟨rfl, rfl⟩
    go_wp2_with fail
    with_reducible refine (cnt_p H2.out).mono ?_
    rintro e w1 ⟨rfl, rfl⟩
    go_wp2
    go_ret
    exact ⟨ret_int HE.out.symm, rfl⟩
theorem round_p {a b c : Int} {w : World} (hc : cdT a b = c) (a0 : 0 ≤ a) (a1 : a ≤ 1000000000) (b0 : 0 < b) (b1 : b ≤ 1000000000) : Calls Try.prog 18 #[.int .i64 a, .int .i64 b] w (RetS (.int .i64 c) w) := by
  have hm := cdT_mod a0 b0
  have m0 := Int.emod_nonneg a (show b ≠ 0 by omega)
  have m1 := Int.emod_lt_of_pos a b0
  have q0 := Int.ediv_nonneg a0 (show 0 ≤ b by omega)
  have q1 : a / b ≤ a := Int.ediv_le_self _ a0
  have hx : Int.tmod a b = a % b := Int.tmod_eq_emod_of_nonneg a0
  have hy : Int.tdiv a b = a / b := Int.tdiv_eq_ediv_of_nonneg a0
  rw [hc] at hm
  generalize a % b = m at *
  generalize a / b = q at *
  have nm : wrap64 m = m := IntWalk.wrap64_in _ (by omega)
  have nq : wrap64 q = q := IntWalk.wrap64_in _ (by omega)
  have bz : ¬b = 0 := by omega
  clear hc
  by_cases h : 0 < m
  · rw [if_pos h] at hm
    have HE := Lib.hid hm
    clear hm
    go_enter Try.func18, Try.ntmps18
    go_wp2
    go_ret
    exact ⟨ret_int HE.out.symm, rfl⟩
  · rw [if_neg h] at hm
    have HE := Lib.hid hm
    clear hm
    go_enter Try.func18, Try.ntmps18
    go_wp2
    go_ret
    exact ⟨ret_int HE.out.symm, rfl⟩
set_option maxHeartbeats 4000000 in
theorem pause_p {d n r k u : Int} {w : World} (hu : uT d n r k = u) : Calls Try.prog 12 #[.int .i64 d, .int .i64 n, .int .i64 r, .int .i64 k] w (RetS (.int .i64 u) w) := by
  have HR := Lib.hid hu
  clear hu
  have HW := Lib.hid (uT_ways d n r k)
  rcases HW.out with ⟨e, h1⟩ | ⟨e, h1, h2⟩ | ⟨e, h1, h2, h3⟩ | ⟨e, h1, h2, h3, hr⟩ | ⟨e, h1, h2, h3, hr, hf⟩ | ⟨e, h1, h2, h3, hr, hf, rfl⟩ | ⟨e, h1, h2, h3, hr, hf, hk, hp⟩ | ⟨e, h1, h2, h3, hr, hf, hk, hp⟩
  · have HE := Lib.hid (HR.out.symm.trans e)
    have H1 := Lib.hid h1
    clear e HW HR h1
    go_enter Try.func12, Try.ntmps12
    go_wp2_with fail
    with_reducible refine (cnt_p H1.out).mono ?_
    rintro e w1 ⟨rfl, rfl⟩
    go_wp2
    go_ret
    exact ⟨ret_int HE.out.symm, rfl⟩
  · have HE := Lib.hid (HR.out.symm.trans e)
    have H1 := Lib.hid h1
    have H2 := Lib.hid h2
    clear e HW HR h1 h2
    go_enter Try.func12, Try.ntmps12
    go_wp2_with fail
    with_reducible refine (cnt_p H1.out).mono ?_
    rintro e w1 ⟨rfl, rfl⟩
    go_wp2_with fail
    with_reducible refine (cnt_p H2.out).mono ?_
    rintro e w1 ⟨rfl, rfl⟩
    go_wp2
    go_ret
    exact ⟨ret_int HE.out.symm, rfl⟩
  · have HE := Lib.hid (HR.out.symm.trans e)
    have H1 := Lib.hid h1
    have H2 := Lib.hid h2
    have H3 := Lib.hid h3
    clear e HW HR h1 h2 h3
    go_enter Try.func12, Try.ntmps12
    go_wp2_with fail
    with_reducible refine (cnt_p H1.out).mono ?_
    rintro e w1 ⟨rfl, rfl⟩
    go_wp2_with fail
    with_reducible refine (cnt_p H2.out).mono ?_
    rintro e w1 ⟨rfl, rfl⟩
    go_wp2_with fail
    with_reducible refine (cnt_p H3.out).mono ?_
    rintro e w1 ⟨rfl, rfl⟩
    go_wp2
    go_ret
    exact ⟨ret_int HE.out.symm, rfl⟩
  · have HE := Lib.hid (HR.out.symm.trans e)
    have H1 := Lib.hid h1
    have H2 := Lib.hid h2
    have H3 := Lib.hid h3
    clear e HW HR h1 h2 h3
    have hr1 : r < 1 := by omega
    go_enter Try.func12, Try.ntmps12
    go_wp2_with fail
    with_reducible refine (cnt_p H1.out).mono ?_
    rintro e w1 ⟨rfl, rfl⟩
    go_wp2_with fail
    with_reducible refine (cnt_p H2.out).mono ?_
    rintro e w1 ⟨rfl, rfl⟩
    go_wp2_with fail
    with_reducible refine (cnt_p H3.out).mono ?_
    rintro e w1 ⟨rfl, rfl⟩
    go_wp2
    go_ret
    exact ⟨ret_int HE.out.symm, rfl⟩
  · have HE := Lib.hid (HR.out.symm.trans e)
    have H1 := Lib.hid h1
    have H2 := Lib.hid h2
    have H3 := Lib.hid h3
    have HF := Lib.hid hf
    clear e HW HR h1 h2 h3 hf
    go_enter Try.func12, Try.ntmps12
    go_wp2_with fail
    with_reducible refine (cnt_p H1.out).mono ?_
    rintro e w1 ⟨rfl, rfl⟩
    go_wp2_with fail
    with_reducible refine (cnt_p H2.out).mono ?_
    rintro e w1 ⟨rfl, rfl⟩
    go_wp2_with fail
    with_reducible refine (cnt_p H3.out).mono ?_
    rintro e w1 ⟨rfl, rfl⟩
    go_wp2_with fail
    with_reducible refine (free_p HF.out).mono ?_
    rintro e w1 ⟨rfl, rfl⟩
    go_wp2
    go_ret
    exact ⟨ret_int HE.out.symm, rfl⟩
  · have HE := Lib.hid (HR.out.symm.trans e)
    have H1 := Lib.hid h1
    have H2 := Lib.hid h2
    have H3 := Lib.hid h3
    have HF := Lib.hid hf
    clear e HW HR h1 h2 h3 hf
    go_enter Try.func12, Try.ntmps12
    go_wp2_with fail
    with_reducible refine (cnt_p H1.out).mono ?_
    rintro e w1 ⟨rfl, rfl⟩
    go_wp2_with fail
    with_reducible refine (cnt_p H2.out).mono ?_
    rintro e w1 ⟨rfl, rfl⟩
    go_wp2_with fail
    with_reducible refine (cnt_p H3.out).mono ?_
    rintro e w1 ⟨rfl, rfl⟩
    go_wp2_with fail
    with_reducible refine (free_p HF.out).mono ?_
    rintro e w1 ⟨rfl, rfl⟩
    go_wp2
    go_ret
    exact ⟨ret_int HE.out.symm, rfl⟩
  · have HE := Lib.hid (HR.out.symm.trans e)
    have H1 := Lib.hid h1
    have H2 := Lib.hid h2
    have H3 := Lib.hid h3
    have HF := Lib.hid hf
    have HP := Lib.hid hp
    clear e HW HR h1 h2 h3 hf hp
    go_enter Try.func12, Try.ntmps12
    go_wp2_with fail
    with_reducible refine (cnt_p H1.out).mono ?_
    rintro e w1 ⟨rfl, rfl⟩
    go_wp2_with fail
    with_reducible refine (cnt_p H2.out).mono ?_
    rintro e w1 ⟨rfl, rfl⟩
    go_wp2_with fail
    with_reducible refine (cnt_p H3.out).mono ?_
    rintro e w1 ⟨rfl, rfl⟩
    go_wp2_with fail
    with_reducible refine (free_p HF.out).mono ?_
    rintro e w1 ⟨rfl, rfl⟩
    go_wp2_with fail
    with_reducible refine (pos_p HP.out).mono ?_
    rintro e w1 ⟨rfl, rfl⟩
    go_wp2
    go_ret
    exact ⟨ret_int HE.out.symm, rfl⟩
  · obtain ⟨p, hpp⟩ : ∃ p, pT d n = p := ⟨_, rfl⟩
    have hb := pT_b d n
    rw [hpp] at e hp hb
    obtain ⟨k0, k1⟩ := cT_iff.1 h3
    obtain ⟨m, hm⟩ : ∃ m, miT r 1000000 = m := ⟨_, rfl⟩
    have m0 : 1 ≤ m := by rw [← hm]; unfold miT; omega
    have m1 : m ≤ 1000000 := by rw [← hm]; unfold miT; omega
    rw [hm] at e
    obtain ⟨s, hs⟩ : ∃ s, m * p = s := ⟨_, rfl⟩
    have s0 : 1 ≤ s := by rw [← hs]; exact Int.mul_pos (by omega) (by omega)
    have s1 : s ≤ 512000000 := by
      rw [← hs]
      exact Int.le_trans (Int.mul_le_mul m1 hb.2 hb.1 (by omega)) (by omega)
    rw [hs] at e
    obtain ⟨c, hc⟩ : ∃ c, cdT (k * 65536) s = c := ⟨_, rfl⟩
    rw [hc] at e
    have HE := Lib.hid (HR.out.symm.trans e)
    have H1 := Lib.hid h1
    have H2 := Lib.hid h2
    have H3 := Lib.hid h3
    have HF := Lib.hid hf
    have HP := Lib.hid hpp
    have HC := Lib.hid hc
    have HM := Lib.hid hm
    have HS := Lib.hid (show Int.mul m p = s from hs)
    have ns : IntKind.i64.wrap (m * p) = s := (IntWalk.i64_in _ (by omega)).trans hs
    have nw : wrap64 (m * p) = s := (IntWalk.wrap64_in _ (by omega)).trans hs
    clear e HW HR h1 h2 h3 hf hpp hc hm hb hs
    by_cases hr2 : r < 1000000
    · obtain rfl : r = m := by rw [← HM.out]; unfold miT; omega
      clear HM
      go_enter Try.func12, Try.ntmps12
      go_wp2_with fail
      with_reducible refine (cnt_p H1.out).mono ?_
      rintro e w1 ⟨rfl, rfl⟩
      go_wp2_with fail
      with_reducible refine (cnt_p H2.out).mono ?_
      rintro e w1 ⟨rfl, rfl⟩
      go_wp2_with fail
      with_reducible refine (cnt_p H3.out).mono ?_
      rintro e w1 ⟨rfl, rfl⟩
      go_wp2_with fail
      with_reducible refine (free_p HF.out).mono ?_
      rintro e w1 ⟨rfl, rfl⟩
      go_wp2_with fail
      with_reducible refine (pos_p HP.out).mono ?_
      rintro e w1 ⟨rfl, rfl⟩
      go_wp2_with fail
      rw [show k * 256 * 256 = k * 65536 from by omega]
      with_reducible refine (round_p HC.out (by omega) (by omega) (by omega) (by omega)).mono ?_
      rintro e w1 ⟨rfl, rfl⟩
      go_wp2
      all_goals
        go_ret
        exact ⟨ret_int (by rw [HE.out]; unfold miT; omega), rfl⟩
    · by_cases hr3 : r = 1000000
      · obtain rfl : m = 1000000 := by rw [← HM.out]; unfold miT; omega
        subst hr3
        clear HM hr2
        go_enter Try.func12, Try.ntmps12
        go_wp2_with fail
        with_reducible refine (cnt_p H1.out).mono ?_
        rintro e w1 ⟨rfl, rfl⟩
        go_wp2_with fail
        with_reducible refine (cnt_p H2.out).mono ?_
        rintro e w1 ⟨rfl, rfl⟩
        go_wp2_with fail
        with_reducible refine (cnt_p H3.out).mono ?_
        rintro e w1 ⟨rfl, rfl⟩
        go_wp2_with fail
        with_reducible refine (free_p HF.out).mono ?_
        rintro e w1 ⟨rfl, rfl⟩
        go_wp2_with fail
        with_reducible refine (pos_p HP.out).mono ?_
        rintro e w1 ⟨rfl, rfl⟩
        go_wp2_with fail
        rw [show k * 256 * 256 = k * 65536 from by omega]
        with_reducible refine (round_p HC.out (by omega) (by omega) (by omega) (by omega)).mono ?_
        rintro e w1 ⟨rfl, rfl⟩
        go_wp2
        all_goals
          go_ret
          exact ⟨ret_int (by rw [HE.out]; unfold miT; omega), rfl⟩
      · have hr4 : 1000000 < r := by omega
        obtain rfl : m = 1000000 := by rw [← HM.out]; unfold miT; omega
        clear HM hr2 hr3
        go_enter Try.func12, Try.ntmps12
        go_wp2_with fail
        with_reducible refine (cnt_p H1.out).mono ?_
        rintro e w1 ⟨rfl, rfl⟩
        go_wp2_with fail
        with_reducible refine (cnt_p H2.out).mono ?_
        rintro e w1 ⟨rfl, rfl⟩
        go_wp2_with fail
        with_reducible refine (cnt_p H3.out).mono ?_
        rintro e w1 ⟨rfl, rfl⟩
        go_wp2_with fail
        with_reducible refine (free_p HF.out).mono ?_
        rintro e w1 ⟨rfl, rfl⟩
        go_wp2_with fail
        with_reducible refine (pos_p HP.out).mono ?_
        rintro e w1 ⟨rfl, rfl⟩
        go_wp2_with fail
        rw [show k * 256 * 256 = k * 65536 from by omega]
        with_reducible refine (round_p HC.out (by omega) (by omega) (by omega) (by omega)).mono ?_
        rintro e w1 ⟨rfl, rfl⟩
        go_wp2
        all_goals
          go_ret
          exact ⟨ret_int (by rw [HE.out]; unfold miT; omega), rfl⟩
theorem cnt_q {n : Int} {b : Bool} {w : World} (hb : cT n = b) : Calls Try.prog 17 #[.int .i64 n] w (RetS (.bool b) w) := by
  have HB := Lib.hid hb
  clear hb
  by_cases t1 : 0 ≤ n
  · by_cases t2 : n ≤ 64
    · have HE : Hid (b = true) := Lib.hid (by rw [← HB.out]; exact cT_t t1 t2)
      go_enter Try.func17, Try.ntmps17
      go_wp2
      go_ret
      exact ⟨ret_bool HE.out.symm, rfl⟩
    · have HE : Hid (b = false) := Lib.hid (by rw [← HB.out]; exact cT_2 t2)
      go_enter Try.func17, Try.ntmps17
      go_wp2
      go_ret
      exact ⟨ret_bool HE.out.symm, rfl⟩
  · have HE : Hid (b = false) := Lib.hid (by rw [← HB.out]; exact cT_1 t1)
    go_enter Try.func17, Try.ntmps17
    go_wp2
    go_ret
    exact ⟨ret_bool HE.out.symm, rfl⟩
theorem free_q {d n : Int} {b : Bool} {w : World} (hb : fT d n = b) : Calls Try.prog 9 #[.int .i64 d, .int .i64 n] w (RetS (.bool b) w) := by
  have HB := Lib.hid hb
  clear hb
  have HW := Lib.hid (fT_ways d n)
  rcases HW.out with ⟨e, h1⟩ | ⟨e, h1, h2⟩ | ⟨h1, h2, e⟩
  · have HE := Lib.hid (HB.out.symm.trans e)
    have H1 := Lib.hid h1
    clear h1 e HW HB
    go_enter Try.func9, Try.ntmps9
    go_wp2_with fail
    with_reducible refine (cnt_q H1.out).mono ?_
    rintro e w1 ⟨rfl, rfl⟩
    go_wp2
    go_ret
    exact ⟨ret_bool HE.out.symm, rfl⟩
  · have HE := Lib.hid (HB.out.symm.trans e)
    have H1 := Lib.hid h1
    have H2 := Lib.hid h2
    clear h1 h2 e HW HB
    go_enter Try.func9, Try.ntmps9
    go_wp2_with fail
    with_reducible refine (cnt_q H1.out).mono ?_
    rintro e w1 ⟨rfl, rfl⟩
    go_wp2_with fail
    with_reducible refine (cnt_q H2.out).mono ?_
    rintro e w1 ⟨rfl, rfl⟩
    go_wp2
    go_ret
    exact ⟨ret_bool HE.out.symm, rfl⟩
  · have HE := Lib.hid (HB.out.symm.trans e)
    have H1 := Lib.hid h1
    have H2 := Lib.hid h2
    obtain ⟨d0, d1⟩ := cT_iff.1 h1
    have nd : wrap64 (2 * d) = 2 * d := IntWalk.wrap64_in _ (by omega)
    have ni : IntKind.i64.wrap (2 * d) = 2 * d := IntWalk.i64_in _ (by omega)
    clear h1 h2 e HW HB d0 d1
    go_enter Try.func9, Try.ntmps9
    go_wp2_with fail
    with_reducible refine (cnt_q H1.out).mono ?_
    rintro e w1 ⟨rfl, rfl⟩
    go_wp2_with fail
    with_reducible refine (cnt_q H2.out).mono ?_
    rintro e w1 ⟨rfl, rfl⟩
    go_wp2
    go_ret
    exact ⟨ret_bool HE.out.symm, rfl⟩
set_option maxHeartbeats 2000000 in
theorem pos_q {d n r : Int} {w : World} (hr : pT d n = r) : Calls Try.prog 11 #[.int .i64 d, .int .i64 n] w (RetS (.int .i64 r) w) := by
  have HR := Lib.hid hr
  clear hr
  have HW := Lib.hid (pT_ways d n)
  rcases HW.out with ⟨hf, e⟩ | ⟨hf, e, h1⟩ | ⟨hf, e, h1, h2⟩ | ⟨hf, e, h1, h2, h3⟩ | ⟨hf, e, h1, h2, h3⟩
  · have HE := Lib.hid (HR.out.symm.trans e)
    obtain ⟨h1, h2, h3⟩ := fT_t hf
    have H1 := Lib.hid h1
    have H2 := Lib.hid h2
    obtain ⟨d0, d1⟩ := cT_iff.1 h1
    have nd : wrap64 (2 * d) = 2 * d := IntWalk.wrap64_in _ (by omega)
    clear h1 h2 hf e HW HR d0 d1
    go_enter Try.func11, Try.ntmps11
    go_wp2_with fail
    with_reducible refine (cnt_q H1.out).mono ?_
    rintro e w1 ⟨rfl, rfl⟩
    go_wp2_with fail
    with_reducible refine (cnt_q H2.out).mono ?_
    rintro e w1 ⟨rfl, rfl⟩
    go_wp2
    go_ret
    exact ⟨ret_int HE.out.symm, rfl⟩
  · have HE := Lib.hid (HR.out.symm.trans e)
    have HF := Lib.hid hf
    have H1 := Lib.hid h1
    clear hf e h1 HW HR
    go_enter Try.func11, Try.ntmps11
    go_wp2_with fail
    with_reducible refine (cnt_q H1.out).mono ?_
    rintro e w1 ⟨rfl, rfl⟩
    go_wp2
    go_ret
    exact ⟨ret_int HE.out.symm, rfl⟩
  · have HE := Lib.hid (HR.out.symm.trans e)
    have HF := Lib.hid hf
    have H1 := Lib.hid h1
    have H2 := Lib.hid h2
    clear hf e h1 h2 HW HR
    go_enter Try.func11, Try.ntmps11
    go_wp2_with fail
    with_reducible refine (cnt_q H1.out).mono ?_
    rintro e w1 ⟨rfl, rfl⟩
    go_wp2_with fail
    with_reducible refine (cnt_q H2.out).mono ?_
    rintro e w1 ⟨rfl, rfl⟩
    go_wp2
    go_ret
    exact ⟨ret_int HE.out.symm, rfl⟩
  · have HE := Lib.hid (HR.out.symm.trans e)
    have HF := Lib.hid hf
    have H1 := Lib.hid h1
    have H2 := Lib.hid h2
    have h4 := fT_f hf h1 h2
    obtain ⟨d0, d1⟩ := cT_iff.1 h1
    have nd : wrap64 (2 * d) = 2 * d := IntWalk.wrap64_in _ (by omega)
    clear d0 d1
    clear hf e h1 h2 HW HR
    go_enter Try.func11, Try.ntmps11
    go_wp2_with fail
    with_reducible refine (cnt_q H1.out).mono ?_
    rintro e w1 ⟨rfl, rfl⟩
    go_wp2_with fail
    with_reducible refine (cnt_q H2.out).mono ?_
    rintro e w1 ⟨rfl, rfl⟩
    go_wp2
    go_ret
    exact ⟨ret_int HE.out.symm, rfl⟩
  · have HE := Lib.hid (HR.out.symm.trans e)
    have HF := Lib.hid hf
    have H1 := Lib.hid h1
    have H2 := Lib.hid h2
    have h4 := fT_f hf h1 h2
    obtain ⟨d0, d1⟩ := cT_iff.1 h1
    obtain ⟨m0, m1⟩ := cT_iff.1 h2
    obtain ⟨x0, x1, n1, q0, q1⟩ := qT_b d0 m1 h3
    obtain ⟨q, hq⟩ : ∃ q, qT d n = q := ⟨_, rfl⟩
    rw [hq] at HE q0 q1
    have hz : Int.tdiv ((n - d) * 512) n = q := by
      rw [← hq, Int.tdiv_eq_ediv_of_nonneg (by omega)]
      unfold qT
      first | rfl | (congr 1; omega)
    have nq : IntKind.i64.wrap q = q := IntWalk.i64_in _ (by omega)
    have nw : wrap64 q = q := IntWalk.wrap64_in _ (by omega)
    have nd : wrap64 (2 * d) = 2 * d := IntWalk.wrap64_in _ (by omega)
    have nx : ¬n = 0 := by omega
    clear hf e h1 h2 HW HR hq x0 x1 q0 q1
    go_enter Try.func11, Try.ntmps11
    go_wp2_with fail
    with_reducible refine (cnt_q H1.out).mono ?_
    rintro e w1 ⟨rfl, rfl⟩
    go_wp2_with fail
    with_reducible refine (cnt_q H2.out).mono ?_
    rintro e w1 ⟨rfl, rfl⟩
    go_wp2
    go_ret
    exact ⟨ret_int HE.out.symm, rfl⟩
set_option maxHeartbeats 4000000 in
theorem pause_q {d n r k u : Int} {w : World} (hu : uT d n r k = u) : Calls Try.prog 13 #[.int .i64 d, .int .i64 n, .int .i64 r, .int .i64 k] w (RetS (.int .i64 u) w) := by
  have HR := Lib.hid hu
  clear hu
  have HW := Lib.hid (uT_ways d n r k)
  rcases HW.out with ⟨e, h1⟩ | ⟨e, h1, h2⟩ | ⟨e, h1, h2, h3⟩ | ⟨e, h1, h2, h3, hr⟩ | ⟨e, h1, h2, h3, hr, hf⟩ | ⟨e, h1, h2, h3, hr, hf, rfl⟩ | ⟨e, h1, h2, h3, hr, hf, hk, hp⟩ | ⟨e, h1, h2, h3, hr, hf, hk, hp⟩
  · have HE := Lib.hid (HR.out.symm.trans e)
    have H1 := Lib.hid h1
    clear e HW HR h1
    go_enter Try.func13, Try.ntmps13
    go_wp2_with fail
    with_reducible refine (cnt_q H1.out).mono ?_
    rintro e w1 ⟨rfl, rfl⟩
    go_wp2
    go_ret
    exact ⟨ret_int HE.out.symm, rfl⟩
  · have HE := Lib.hid (HR.out.symm.trans e)
    have H1 := Lib.hid h1
    have H2 := Lib.hid h2
    clear e HW HR h1 h2
    go_enter Try.func13, Try.ntmps13
    go_wp2_with fail
    with_reducible refine (cnt_q H1.out).mono ?_
    rintro e w1 ⟨rfl, rfl⟩
    go_wp2_with fail
    with_reducible refine (cnt_q H2.out).mono ?_
    rintro e w1 ⟨rfl, rfl⟩
    go_wp2
    go_ret
    exact ⟨ret_int HE.out.symm, rfl⟩
  · have HE := Lib.hid (HR.out.symm.trans e)
    have H1 := Lib.hid h1
    have H2 := Lib.hid h2
    have H3 := Lib.hid h3
    clear e HW HR h1 h2 h3
    by_cases hr : r < 1
    · go_enter Try.func13, Try.ntmps13
      go_wp2_with fail
      with_reducible refine (cnt_q H1.out).mono ?_
      rintro e w1 ⟨rfl, rfl⟩
      go_wp2_with fail
      with_reducible refine (cnt_q H2.out).mono ?_
      rintro e w1 ⟨rfl, rfl⟩
      go_wp2
      go_ret
      exact ⟨ret_int HE.out.symm, rfl⟩
    · go_enter Try.func13, Try.ntmps13
      go_wp2_with fail
      with_reducible refine (cnt_q H1.out).mono ?_
      rintro e w1 ⟨rfl, rfl⟩
      go_wp2_with fail
      with_reducible refine (cnt_q H2.out).mono ?_
      rintro e w1 ⟨rfl, rfl⟩
      go_wp2_with fail
      with_reducible refine (cnt_q H3.out).mono ?_
      rintro e w1 ⟨rfl, rfl⟩
      go_wp2
      go_ret
      exact ⟨ret_int HE.out.symm, rfl⟩
  · have HE := Lib.hid (HR.out.symm.trans e)
    have H1 := Lib.hid h1
    have H2 := Lib.hid h2
    have H3 := Lib.hid h3
    clear e HW HR h1 h2 h3
    have hr1 : r < 1 := by omega
    go_enter Try.func13, Try.ntmps13
    go_wp2_with fail
    with_reducible refine (cnt_q H1.out).mono ?_
    rintro e w1 ⟨rfl, rfl⟩
    go_wp2_with fail
    with_reducible refine (cnt_q H2.out).mono ?_
    rintro e w1 ⟨rfl, rfl⟩
    go_wp2
    go_ret
    exact ⟨ret_int HE.out.symm, rfl⟩
  · have HE := Lib.hid (HR.out.symm.trans e)
    have H1 := Lib.hid h1
    have H2 := Lib.hid h2
    have H3 := Lib.hid h3
    have HF := Lib.hid hf
    clear e HW HR h1 h2 h3 hf
    go_enter Try.func13, Try.ntmps13
    go_wp2_with fail
    with_reducible refine (cnt_q H1.out).mono ?_
    rintro e w1 ⟨rfl, rfl⟩
    go_wp2_with fail
    with_reducible refine (cnt_q H2.out).mono ?_
    rintro e w1 ⟨rfl, rfl⟩
    go_wp2_with fail
    with_reducible refine (cnt_q H3.out).mono ?_
    rintro e w1 ⟨rfl, rfl⟩
    go_wp2_with fail
    with_reducible refine (free_q HF.out).mono ?_
    rintro e w1 ⟨rfl, rfl⟩
    go_wp2
    go_ret
    exact ⟨ret_int HE.out.symm, rfl⟩
  · have HE := Lib.hid (HR.out.symm.trans e)
    have H1 := Lib.hid h1
    have H2 := Lib.hid h2
    have H3 := Lib.hid h3
    have HF := Lib.hid hf
    clear e HW HR h1 h2 h3 hf
    go_enter Try.func13, Try.ntmps13
    go_wp2_with fail
    with_reducible refine (cnt_q H1.out).mono ?_
    rintro e w1 ⟨rfl, rfl⟩
    go_wp2_with fail
    with_reducible refine (cnt_q H2.out).mono ?_
    rintro e w1 ⟨rfl, rfl⟩
    go_wp2_with fail
    with_reducible refine (cnt_q H3.out).mono ?_
    rintro e w1 ⟨rfl, rfl⟩
    go_wp2_with fail
    with_reducible refine (free_q HF.out).mono ?_
    rintro e w1 ⟨rfl, rfl⟩
    go_wp2
    go_ret
    exact ⟨ret_int HE.out.symm, rfl⟩
  · have HE := Lib.hid (HR.out.symm.trans e)
    have H1 := Lib.hid h1
    have H2 := Lib.hid h2
    have H3 := Lib.hid h3
    have HF := Lib.hid hf
    have HP := Lib.hid hp
    clear e HW HR h1 h2 h3 hf hp
    go_enter Try.func13, Try.ntmps13
    go_wp2_with fail
    with_reducible refine (cnt_q H1.out).mono ?_
    rintro e w1 ⟨rfl, rfl⟩
    go_wp2_with fail
    with_reducible refine (cnt_q H2.out).mono ?_
    rintro e w1 ⟨rfl, rfl⟩
    go_wp2_with fail
    with_reducible refine (cnt_q H3.out).mono ?_
    rintro e w1 ⟨rfl, rfl⟩
    go_wp2_with fail
    with_reducible refine (free_q HF.out).mono ?_
    rintro e w1 ⟨rfl, rfl⟩
    go_wp2_with fail
    with_reducible refine (pos_q HP.out).mono ?_
    rintro e w1 ⟨rfl, rfl⟩
    go_wp2
    go_ret
    exact ⟨ret_int HE.out.symm, rfl⟩
  · obtain ⟨p, hpp⟩ : ∃ p, pT d n = p := ⟨_, rfl⟩
    have hb := pT_b d n
    rw [hpp] at e hp hb
    obtain ⟨k0, k1⟩ := cT_iff.1 h3
    obtain ⟨m, hm⟩ : ∃ m, miT r 1000000 = m := ⟨_, rfl⟩
    have m0 : 1 ≤ m := by rw [← hm]; unfold miT; omega
    have m1 : m ≤ 1000000 := by rw [← hm]; unfold miT; omega
    rw [hm] at e
    obtain ⟨s, hs⟩ : ∃ s, m * p = s := ⟨_, rfl⟩
    have s0 : 1 ≤ s := by rw [← hs]; exact Int.mul_pos (by omega) (by omega)
    have s1 : s ≤ 512000000 := by
      rw [← hs]
      exact Int.le_trans (Int.mul_le_mul m1 hb.2 hb.1 (by omega)) (by omega)
    rw [hs] at e
    obtain ⟨c, hc⟩ : ∃ c, cdT (k * 65536) s = c := ⟨_, rfl⟩
    rw [hc] at e
    have HE := Lib.hid (HR.out.symm.trans e)
    have H1 := Lib.hid h1
    have H2 := Lib.hid h2
    have H3 := Lib.hid h3
    have HF := Lib.hid hf
    have HP := Lib.hid hpp
    have HC := Lib.hid hc
    have HM := Lib.hid hm
    have HS := Lib.hid (show Int.mul m p = s from hs)
    have ns : IntKind.i64.wrap (m * p) = s := (IntWalk.i64_in _ (by omega)).trans hs
    have nw : wrap64 (m * p) = s := (IntWalk.wrap64_in _ (by omega)).trans hs
    clear e HW HR h1 h2 h3 hf hpp hc hm hb hs
    have hz : Int.tdiv (k * 65536 + s - 1) s = c := by
      rw [← HC.out, Int.tdiv_eq_ediv_of_nonneg (by omega)]
      rfl
    have c0 : 0 ≤ c := by rw [← HC.out]; exact cdT_n (by omega) (by omega)
    have c1 : c ≤ 4194304 := by
      rw [← HC.out, cdT_le (by omega)]
      exact Int.le_trans (show k * 65536 ≤ 4194304 * 1 by omega) (Int.mul_le_mul_of_nonneg_left s0 (by omega))
    have nc : wrap64 c = c := IntWalk.wrap64_in _ (by omega)
    have nci : IntKind.i64.wrap c = c := IntWalk.i64_in _ (by omega)
    have na : wrap64 (k * 65536 + s) = k * 65536 + s := IntWalk.wrap64_in _ (by omega)
    have nb : wrap64 (k * 65536 + s - 1) = k * 65536 + s - 1 := IntWalk.wrap64_in _ (by omega)
    have sz : ¬s = 0 := by omega
    by_cases hr2 : r < 1000000
    · obtain rfl : r = m := by rw [← HM.out]; unfold miT; omega
      clear HM
      go_enter Try.func13, Try.ntmps13
      go_wp2_with fail
      with_reducible refine (cnt_q H1.out).mono ?_
      rintro e w1 ⟨rfl, rfl⟩
      go_wp2_with fail
      with_reducible refine (cnt_q H2.out).mono ?_
      rintro e w1 ⟨rfl, rfl⟩
      go_wp2_with fail
      with_reducible refine (cnt_q H3.out).mono ?_
      rintro e w1 ⟨rfl, rfl⟩
      go_wp2_with fail
      with_reducible refine (free_q HF.out).mono ?_
      rintro e w1 ⟨rfl, rfl⟩
      go_wp2_with fail
      with_reducible refine (pos_q HP.out).mono ?_
      rintro e w1 ⟨rfl, rfl⟩
      go_wp2
      all_goals
        go_ret
        exact ⟨ret_int (by rw [HE.out]; unfold miT; omega), rfl⟩
    · by_cases hr3 : r = 1000000
      · obtain rfl : m = 1000000 := by rw [← HM.out]; unfold miT; omega
        subst hr3
        clear HM hr2
        go_enter Try.func13, Try.ntmps13
        go_wp2_with fail
        with_reducible refine (cnt_q H1.out).mono ?_
        rintro e w1 ⟨rfl, rfl⟩
        go_wp2_with fail
        with_reducible refine (cnt_q H2.out).mono ?_
        rintro e w1 ⟨rfl, rfl⟩
        go_wp2_with fail
        with_reducible refine (cnt_q H3.out).mono ?_
        rintro e w1 ⟨rfl, rfl⟩
        go_wp2_with fail
        with_reducible refine (free_q HF.out).mono ?_
        rintro e w1 ⟨rfl, rfl⟩
        go_wp2_with fail
        with_reducible refine (pos_q HP.out).mono ?_
        rintro e w1 ⟨rfl, rfl⟩
        go_wp2
        all_goals
          go_ret
          exact ⟨ret_int (by rw [HE.out]; unfold miT; omega), rfl⟩
      · have hr4 : 1000000 < r := by omega
        obtain rfl : m = 1000000 := by rw [← HM.out]; unfold miT; omega
        clear HM hr2 hr3
        go_enter Try.func13, Try.ntmps13
        go_wp2_with fail
        with_reducible refine (cnt_q H1.out).mono ?_
        rintro e w1 ⟨rfl, rfl⟩
        go_wp2_with fail
        with_reducible refine (cnt_q H2.out).mono ?_
        rintro e w1 ⟨rfl, rfl⟩
        go_wp2_with fail
        with_reducible refine (cnt_q H3.out).mono ?_
        rintro e w1 ⟨rfl, rfl⟩
        go_wp2_with fail
        with_reducible refine (free_q HF.out).mono ?_
        rintro e w1 ⟨rfl, rfl⟩
        go_wp2_with fail
        with_reducible refine (pos_q HP.out).mono ?_
        rintro e w1 ⟨rfl, rfl⟩
        go_wp2
        all_goals
          go_ret
          exact ⟨ret_int (by rw [HE.out]; unfold miT; omega), rfl⟩
end Go.Proofs.Ytgeicbkhhmlceaa
