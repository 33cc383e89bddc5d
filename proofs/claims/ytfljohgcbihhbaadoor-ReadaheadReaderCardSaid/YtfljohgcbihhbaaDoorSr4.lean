/- The reference's Matches (layer 6), at a stream that is not new. -/
import Derived.Test.YtfljohgcbihhbaaDoorSr2
namespace Go.Proofs.YtfljohgcbihhbaaDoor
open Go.RowKit Go.Mine

set_option maxRecDepth 100000 in
set_option maxHeartbeats 2000000 in
theorem rmatches_f (x : Str) (a b : Int) (w : World) (h0 : rgtB x = true) (h1 : accB a b = true) (e1 : (x.k == 1) = false) : Calls Tryd.prog 45 #[strV x, .int .i64 a, .int .i64 b] w (RetG (.tuple #[strV (becF x a b), .bool (mtcB x a b)]) w) := by
  have HR := Lib.hid (rgt_true h0)
  obtain ⟨a0, a1, a2⟩ := acc_true h1
  obtain ⟨x0, x1, x2⟩ := (rgt_true h0).1
  have y0 := (rgt_true h0).2.1
  have y1 := (rgt_true h0).2.2.1
  go_enter Tryd.func45, Tryd.ntmps45
  go_upto_region 1 with fail
  have gA : Grew w ((w.alloc (.cells (csS x) 29)).alloc (.cells z6 29)) := ((Grew.refl w).alloc _).alloc _
  have X := (Own.new w 29 (csS x)).alloc (.cells z6 29)
  have R := Own.new2 w (.cells (csS x) 29) 29 z6
  generalize World.alloc (World.alloc w _) _ = w0 at *
  obtain ⟨X0, X1, X2, X3, X4, X5, X6, X7, X8, X9, X10, X11⟩ := X.sixA
  obtain ⟨R0, R1, R2, R3, R4, R5, R6, R7, R8, R9, R10, R11⟩ := R.sixA
  go_wp2_with fail
  with_reducible refine (rRight_v _ _ h0).mono ?_
  rintro e w1 ⟨rfl, g_w1⟩
  have s_w1 : Grew w0 w1 := by first | exact g_w1 | exact ((Grew.refl _).alloc _).trans g_w1 | exact (((Grew.refl _).alloc _).alloc _).trans g_w1 | exact (Grew.refl _).drew.trans g_w1 | exact ((Grew.refl _).alloc _).drew.trans g_w1 | exact ((Grew.refl _).drewN _).trans g_w1
  have z_w1 := s_w1.size
  replace X := X.grew s_w1
  clear X0 X1 X2 X3 X4 X5 X6 X7 X8 X9 X10 X11
  have l_X_w1 := X.lt
  replace R := R.grew s_w1
  clear R0 R1 R2 R3 R4 R5 R6 R7 R8 R9 R10 R11
  have l_R_w1 := R.lt
  obtain ⟨X0, X1, X2, X3, X4, X5, X6, X7, X8, X9, X10, X11⟩ := X.sixA
  obtain ⟨R0, R1, R2, R3, R4, R5, R6, R7, R8, R9, R10, R11⟩ := R.sixA
  replace gA := gA.trans s_w1
  clear g_w1 s_w1
  go_upto_region 5 with (go_at_call 32; (with_reducible refine (rAccess_v _ _ _ h1).mono ?_); rintro e w2 ⟨rfl, rfl⟩)
  go_cut [10] from 30 to 33 (CutW w1 (.int .i64 (absI (a - x.a))))
  case first =>
    go_wp2_with fail
    all_goals go_meet
    all_goals exact ⟨by rw [show absI (a - x.a) = _ from by unfold absI; first | exact Int.max_eq_left (by omega) | exact Int.max_eq_right (by omega)], rfl⟩
  case rest =>
  obtain ⟨rfl, rfl⟩ := hcut
  go_upto_region 6 with fail
  go_cut [11] from 34 to 58 (CutW w1 (.bool (strB x a)))
  case first =>
    have HS := Lib.hid (show strB x a = ((x.k == 4) && (a - x.a == x.d) || (x.k == 1) && (stNB (a - x.a) && decide (x.b - x.a ≤ absI (a - x.a)))) from by
      rw [Bool.eq_iff_iff]; simp [strB, stNB])
    cases e4 : x.k == 4
    case false =>
      go_wp2_with fail
      all_goals go_meet
      all_goals exact ⟨by rw [HS.out, e1, e4]; rfl, rfl⟩
    case true =>
      cases e5 : a - x.a == x.d
      case true =>
        go_wp2_with fail
        all_goals go_meet
        all_goals exact ⟨by rw [HS.out, e1, e4, e5]; rfl, rfl⟩
      case false =>
        go_wp2_with fail
        all_goals go_meet
        all_goals exact ⟨by rw [HS.out, e1, e4, e5]; rfl, rfl⟩
  case rest =>
  obtain ⟨rfl, rfl⟩ := hcut
  go_upto_region 7 with fail
  go_cut [12] from 59 to 67 (CutO w w1 x a b)
  case first =>
    go_wp2_with fail
    all_goals go_meet
    all_goals first
      | (rw [show (1000000 : Int) = minH x.h from by unfold minH; omega]; exact ⟨_, rfl, l_R_w1, Own.new _ _ _, X.alloc _, R.alloc _, gA.alloc _⟩)
      | (rw [show x.h + 1 = minH x.h from by unfold minH; omega]; exact ⟨_, rfl, l_R_w1, Own.new _ _ _, X.alloc _, R.alloc _, gA.alloc _⟩)
  case rest =>
  clear X R gA X0 X1 X2 X3 X4 X5 X6 X7 X8 X9 X10 X11 R0 R1 R2 R3 R4 R5 R6 R7 R8 R9 R10 R11
  obtain ⟨o, rfl, ho, O, X, R, gA⟩ := hcut
  generalize wc = wx at *
  obtain ⟨X0, X1, X2, X3, X4, X5, X6, X7, X8, X9, X10, X11⟩ := X.sixA
  obtain ⟨R0, R1, R2, R3, R4, R5, R6, R7, R8, R9, R10, R11⟩ := R.sixA
  obtain ⟨O0, O1, O2, O3, O4, O5, O6, O7, O8, O9, O10, O11⟩ := O.sixA
  have l_o := O.lt
  go_upto_region 9 with fail
  go_cut [69] from 70 to 94 (CutW wx (.bool (fwdB x a b)))
  case first =>
    have HS := Lib.hid (show fwdB x a b = (((x.k == 1) || (x.k == 2)) && ((a == x.b) || (a == x.b - 1)) && decide (x.b < b)) from by
      rw [Bool.eq_iff_iff]; simp [fwdB, and_assoc])
    cases e4 : x.k == 2
    case false =>
      go_wp2_with fail
      all_goals go_meet
      all_goals exact ⟨by rw [HS.out, e1, e4]; simp <;> omega, rfl⟩
    case true =>
      cases e5 : a == x.b
      case true =>
        go_wp2_with fail
        all_goals go_meet
        all_goals exact ⟨by rw [HS.out, e1, e4, e5]; simp <;> omega, rfl⟩
      case false =>
        cases e6 : a == x.b - 1
        all_goals
          go_wp2_with fail
          all_goals go_meet
          all_goals exact ⟨by rw [HS.out, e1, e4, e5, e6]; simp <;> omega, rfl⟩
  case rest =>
  obtain ⟨rfl, rfl⟩ := hcut
  cases b1 : fwdB x a b
  case true =>
    go_upto_region 17 with fail
    generalize hy : World.setCell _ _ _ = wy
    have O := O.set 0 (.int .i64 2)
    have R := R.far (p := ⟨o, 0, none⟩) (by dsimp only; omega) (.int .i64 2)
    have gA := gA.set (p := ⟨o, 0, none⟩) (by dsimp only; omega) (.int .i64 2)
    rw [hy] at O R gA
    clear hy
    clear X X0 X1 X2 X3 X4 X5 X6 X7 X8 X9 X10 X11 R0 R1 R2 R3 R4 R5 R6 R7 R8 R9 R10 R11 O0 O1 O2 O3 O4 O5 O6 O7 O8 O9 O10 O11
    replace O : Own wy o 29 (csS ⟨2, a, b, 0, minH x.h, x.t⟩) := O
    obtain ⟨O0, O1, O2, O3, O4, O5, O6, O7, O8, O9, O10, O11⟩ := O.sixA
    obtain ⟨R0, R1, R2, R3, R4, R5, R6, R7, R8, R9, R10, R11⟩ := R.sixA
    have l_r := R.lt
    have l_o2 := O.lt
    go_wp2
    generalize hw : World.setCell _ _ _ = wz
    have RR := R.store6 rfl hw
    have gB := gA.far6 hw (by omega)
    clear R0 R1 R2 R3 R4 R5 R6 R7 R8 R9 R10 R11
    obtain ⟨R0, R1, R2, R3, R4, R5, R6, R7, R8, R9, R10, R11⟩ := RR.sixA
    refine bodyPost_ret (v := .tuple #[strV ⟨2, a, b, 0, minH x.h, x.t⟩, .bool true]) (by simp [results, Tryd.results45, go_sem, R0, R1, R2, R3, R4, R5]) rfl ⟨ret_mt ⟨(show becF x a b = grwF x 2 0 a b from by simp [becF, h0, h1, b1]), by simp [mtcB, h0, h1, b1]⟩, gB⟩
  case false =>
  go_upto_region 11 with fail
  go_cut [96] from 97 to 121 (CutW wx (.bool (bwdB x a b)))
  case first =>
    have HS := Lib.hid (show bwdB x a b = (((x.k == 1) || (x.k == 3)) && ((b == x.a) || (b == x.a + 1)) && decide (a < x.a)) from by
      rw [Bool.eq_iff_iff]; simp [bwdB, and_assoc])
    cases e4 : x.k == 3
    case false =>
      go_wp2_with fail
      all_goals go_meet
      all_goals exact ⟨by rw [HS.out, e1, e4]; simp <;> omega, rfl⟩
    case true =>
      cases e5 : b == x.a
      case true =>
        go_wp2_with fail
        all_goals go_meet
        all_goals exact ⟨by rw [HS.out, e1, e4, e5]; simp <;> omega, rfl⟩
      case false =>
        cases e6 : b == x.a + 1
        all_goals
          go_wp2_with fail
          all_goals go_meet
          all_goals exact ⟨by rw [HS.out, e1, e4, e5, e6]; simp <;> omega, rfl⟩
  case rest =>
  obtain ⟨rfl, rfl⟩ := hcut
  cases b2 : bwdB x a b
  case true =>
    go_upto_region 17 with fail
    generalize hy : World.setCell _ _ _ = wy
    have O := O.set 0 (.int .i64 3)
    have R := R.far (p := ⟨o, 0, none⟩) (by dsimp only; omega) (.int .i64 3)
    have gA := gA.set (p := ⟨o, 0, none⟩) (by dsimp only; omega) (.int .i64 3)
    rw [hy] at O R gA
    clear hy
    clear X X0 X1 X2 X3 X4 X5 X6 X7 X8 X9 X10 X11 R0 R1 R2 R3 R4 R5 R6 R7 R8 R9 R10 R11 O0 O1 O2 O3 O4 O5 O6 O7 O8 O9 O10 O11
    replace O : Own wy o 29 (csS ⟨3, a, b, 0, minH x.h, x.t⟩) := O
    obtain ⟨O0, O1, O2, O3, O4, O5, O6, O7, O8, O9, O10, O11⟩ := O.sixA
    obtain ⟨R0, R1, R2, R3, R4, R5, R6, R7, R8, R9, R10, R11⟩ := R.sixA
    have l_r := R.lt
    have l_o2 := O.lt
    go_wp2
    generalize hw : World.setCell _ _ _ = wz
    have RR := R.store6 rfl hw
    have gB := gA.far6 hw (by omega)
    clear R0 R1 R2 R3 R4 R5 R6 R7 R8 R9 R10 R11
    obtain ⟨R0, R1, R2, R3, R4, R5, R6, R7, R8, R9, R10, R11⟩ := RR.sixA
    refine bodyPost_ret (v := .tuple #[strV ⟨3, a, b, 0, minH x.h, x.t⟩, .bool true]) (by simp [results, Tryd.results45, go_sem, R0, R1, R2, R3, R4, R5]) rfl ⟨ret_mt ⟨(show becF x a b = grwF x 3 0 a b from by simp [becF, h0, h1, b1, b2]), by simp [mtcB, h0, h1, b1, b2]⟩, gB⟩
  case false =>
  go_upto_region 13 with fail
  go_cut [11, 123] from 124 to 131 (CutV wx (.bool (strB x a)) (.bool (sdB x a b)))
  case first =>
    have HS := Lib.hid (show sdB x a b = (strB x a && decide (b - a ≤ absI (a - x.a))) from sd_len h0 a1)
    cases e4 : strB x a
    all_goals
      go_wp2_with fail
      all_goals go_meet
      all_goals exact ⟨by rw [e4], by rw [HS.out, e4]; simp, rfl⟩
  case rest =>
  obtain ⟨rfl, rfl, rfl⟩ := hcut
  cases b3 : sdB x a b
  case true =>
    go_upto_region 17 with fail
    generalize hy : World.setCell _ _ _ = wy
    have O := (O.set 0 (.int .i64 4)).set 3 (.int .i64 (a - x.a))
    have R := (R.far (p := ⟨o, 0, none⟩) (by dsimp only; omega) (.int .i64 4)).far (p := ⟨o, 3, none⟩) (by dsimp only; omega) (.int .i64 (a - x.a))
    have gA := (gA.set (p := ⟨o, 0, none⟩) (by dsimp only; omega) (.int .i64 4)).set (p := ⟨o, 3, none⟩) (by dsimp only; omega) (.int .i64 (a - x.a))
    rw [hy] at O R gA
    clear hy
    clear X X0 X1 X2 X3 X4 X5 X6 X7 X8 X9 X10 X11 R0 R1 R2 R3 R4 R5 R6 R7 R8 R9 R10 R11 O0 O1 O2 O3 O4 O5 O6 O7 O8 O9 O10 O11
    replace O : Own wy o 29 (csS ⟨4, a, b, a - x.a, minH x.h, x.t⟩) := O
    obtain ⟨O0, O1, O2, O3, O4, O5, O6, O7, O8, O9, O10, O11⟩ := O.sixA
    obtain ⟨R0, R1, R2, R3, R4, R5, R6, R7, R8, R9, R10, R11⟩ := R.sixA
    have l_r := R.lt
    have l_o2 := O.lt
    go_wp2
    generalize hw : World.setCell _ _ _ = wz
    have RR := R.store6 rfl hw
    have gB := gA.far6 hw (by omega)
    clear R0 R1 R2 R3 R4 R5 R6 R7 R8 R9 R10 R11
    obtain ⟨R0, R1, R2, R3, R4, R5, R6, R7, R8, R9, R10, R11⟩ := RR.sixA
    refine bodyPost_ret (v := .tuple #[strV ⟨4, a, b, a - x.a, minH x.h, x.t⟩, .bool true]) (by simp [results, Tryd.results45, go_sem, R0, R1, R2, R3, R4, R5]) rfl ⟨ret_mt ⟨(show becF x a b = grwF x 4 (a - x.a) a b from by simp [becF, h0, h1, b1, b2, b3]), by simp [mtcB, h0, h1, b1, b2, b3]⟩, gB⟩
  case false =>
  go_upto_region 15 with fail
  go_cut [135] from 136 to 145 (CutW wx (.bool (agnB x a b)))
  case first =>
    have HS := Lib.hid (show agnB x a b = (decide (x.a ≤ a) && decide (b ≤ x.b)) from by
      rw [Bool.eq_iff_iff]; simp [agnB])
    go_wp2_with fail
    all_goals go_meet
    all_goals exact ⟨by rw [HS.out]; simp <;> omega, rfl⟩
  case rest =>
  obtain ⟨rfl, rfl⟩ := hcut
  cases b4 : agnB x a b
  case true =>
    go_wp2
    generalize hw : World.setCell _ _ _ = wz
    have RR := R.store6 rfl hw
    have gB := gA.far6 hw (by omega)
    clear R0 R1 R2 R3 R4 R5 R6 R7 R8 R9 R10 R11
    obtain ⟨R0, R1, R2, R3, R4, R5, R6, R7, R8, R9, R10, R11⟩ := RR.sixA
    refine bodyPost_ret (v := .tuple #[strV x, .bool true]) (by simp [results, Tryd.results45, go_sem, R0, R1, R2, R3, R4, R5]) rfl ⟨ret_mt ⟨(by simp [becF, h0, h1, b1, b2, b3]), by simp [mtcB, h0, h1, b1, b2, b3, b4]⟩, gB⟩
  case false =>
    go_wp2
    generalize hw : World.setCell _ _ _ = wz
    have RR := R.store6 rfl hw
    have gB := gA.far6 hw (by omega)
    clear R0 R1 R2 R3 R4 R5 R6 R7 R8 R9 R10 R11
    obtain ⟨R0, R1, R2, R3, R4, R5, R6, R7, R8, R9, R10, R11⟩ := RR.sixA
    refine bodyPost_ret (v := .tuple #[strV x, .bool false]) (by simp [results, Tryd.results45, go_sem, R0, R1, R2, R3, R4, R5]) rfl ⟨ret_mt ⟨(by simp [becF, h0, h1, b1, b2, b3]), by simp [mtcB, h0, h1, b1, b2, b3, b4]⟩, gB⟩

end Go.Proofs.YtfljohgcbihhbaaDoor
