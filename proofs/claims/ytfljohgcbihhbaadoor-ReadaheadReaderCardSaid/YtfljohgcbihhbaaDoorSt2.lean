/- isRight, Matches, Sure (layer 6). -/
import Derived.Test.YtfljohgcbihhbaaDoorSt1
import Derived.Deep.RegionHeld3
import Derived.Deep.DeepCutAuto
import Derived.Deep.CutBlock
namespace Go.Proofs.YtfljohgcbihhbaaDoor
open Go.RowKit Go.Mine

theorem acc_true {a b : Int} (h : accB a b = true) : 0 ≤ a ∧ a < b ∧ b ≤ 256 := of_decide_eq_true h
theorem acc_false {a b : Int} (h : accB a b = false) : ¬(0 ≤ a ∧ a < b ∧ b ≤ 256) := of_decide_eq_false h
theorem cnt_true {a : Int} (h : cntB a = true) : 0 ≤ a ∧ a ≤ 1000000 := of_decide_eq_true h
theorem cnt_false {a : Int} (h : cntB a = false) : ¬(0 ≤ a ∧ a ≤ 1000000) := of_decide_eq_false h
theorem rgt_no {x : Str} (h : ¬RgtP x) : Ending.returned (.bool false) = .returned (.bool (rgtB x)) := by rw [rgtB, decide_eq_false h]
theorem rgt_yes {x : Str} (h : RgtP x) : Ending.returned (.bool true) = .returned (.bool (rgtB x)) := by rw [rgtB, decide_eq_true h]

theorem isRight_any (x : Str) (w : World) (hm : Mild x) : Calls Tryd.prog 43 #[strV x] w (RetG (.bool (rgtB x)) w) := by
  obtain ⟨m0, m1⟩ := hm
  have G : Grew w (w.alloc (.cells (csS x) 29)) := (Grew.refl _).alloc _
  cases h0 : accB x.a x.b
  case false =>
    go_enter Tryd.func43, Tryd.ntmps43
    go_wp2_with (go_at_call 55; (with_reducible refine (isAccess_any _ _ _).mono ?_); rw [h0]; rintro e w1 ⟨rfl, rfl⟩)
    go_ret
    exact ⟨rgt_no (fun h => acc_false h0 h.1), G⟩
  case true =>
    obtain ⟨a0, a1, a2⟩ := acc_true h0
    cases h1 : cntB x.h
    case false =>
      go_enter Tryd.func43, Tryd.ntmps43
      go_wp2_with (first | (go_at_call 55; (with_reducible refine (isAccess_any _ _ _).mono ?_); rw [h0]; rintro e w1 ⟨rfl, rfl⟩) | (go_at_call 62; (with_reducible refine (isCount_any _ _).mono ?_); rw [h1]; rintro e w1 ⟨rfl, rfl⟩))
      go_ret
      exact ⟨rgt_no (fun h => cnt_false h1 ⟨h.2.1, h.2.2.1⟩), G⟩
    case true =>
      obtain ⟨b0, b1⟩ := cnt_true h1
      cases h2 : cntB x.t
      case false =>
        go_enter Tryd.func43, Tryd.ntmps43
        go_wp2_with (first | (go_at_call 55; (with_reducible refine (isAccess_any _ _ _).mono ?_); rw [h0]; rintro e w1 ⟨rfl, rfl⟩) | (go_at_call 62; (with_reducible refine (isCount_any _ _).mono ?_); (first | rw [h1] | rw [h2]); rintro e w1 ⟨rfl, rfl⟩))
        go_ret
        exact ⟨rgt_no (fun h => cnt_false h2 ⟨h.2.2.2.1, h.2.2.2.2.1⟩), G⟩
      case true =>
        obtain ⟨c0, c1⟩ := cnt_true h2
        have hz := Lib.hid (show RgtP x ↔ (x.h = 0 ↔ x.k = 1) ∧ (((x.k = 1 ∨ x.k = 2 ∨ x.k = 3) ∧ x.d = 0) ∨ (x.k = 4 ∧ StpP x.d (x.b - x.a))) from
          ⟨fun h => h.2.2.2.2.2, fun h => ⟨⟨a0, a1, a2⟩, b0, b1, c0, c1, h⟩⟩)
        have hd := Lib.hid (show (x.h = 0 ↔ x.k = 1) → (x.k = 1 ∨ x.k = 2 ∨ x.k = 3) → rgtB x = (x.d == 0) from fun h h' => by
          rw [Bool.eq_iff_iff, rgtB, decide_eq_true_eq, hz.out, beq_iff_eq]
          exact ⟨fun h2 => by rcases h2.2 with h2 | h2 <;> omega, fun h2 => ⟨h, .inl ⟨h', h2⟩⟩⟩)
        have hs := Lib.hid (show (x.h = 0 ↔ x.k = 1) → x.k = 4 → rgtB x = stpB x.d (x.b - x.a) from fun h h' => by
          rw [Bool.eq_iff_iff, rgtB, decide_eq_true_eq, hz.out, stpB, decide_eq_true_eq]
          exact ⟨fun h2 => by (rcases h2.2 with h2 | h2); (· omega); exact h2.2, fun h2 => ⟨h, .inr ⟨h', h2⟩⟩⟩)
        have hn := Lib.hid (show ¬(x.k = 1 ∨ x.k = 2 ∨ x.k = 3) → x.k ≠ 4 → ¬RgtP x from fun h h' h2 => by rcases h2.2.2.2.2.2.2 with h2 | h2 <;> omega)
        have hp := Lib.hid (show ¬(x.h = 0 ↔ x.k = 1) → ¬RgtP x from fun h h' => h h'.2.2.2.2.2.1)
        cases eh : x.h == 0
        case true =>
          cases k1 : x.k == 1
          case false =>
            have E1 := Lib.hid (hp.out (by simp at eh k1; omega))
            go_enter Tryd.func43, Tryd.ntmps43
            go_wp2_with (first | (go_at_call 55; (with_reducible refine (isAccess_any _ _ _).mono ?_); rw [h0]; rintro e w1 ⟨rfl, rfl⟩) | (go_at_call 62; (with_reducible refine (isCount_any _ _).mono ?_); (first | rw [h1] | rw [h2]); rintro e w1 ⟨rfl, rfl⟩))
            go_ret
            exact ⟨rgt_no E1.out, G⟩
          case true =>
            have E1 := Lib.hid (hd.out (by simp at eh k1; omega) (.inl (by simpa using k1)))
            go_enter Tryd.func43, Tryd.ntmps43
            go_wp2_with (first | (go_at_call 55; (with_reducible refine (isAccess_any _ _ _).mono ?_); rw [h0]; rintro e w1 ⟨rfl, rfl⟩) | (go_at_call 62; (with_reducible refine (isCount_any _ _).mono ?_); (first | rw [h1] | rw [h2]); rintro e w1 ⟨rfl, rfl⟩))
            go_ret
            exact ⟨ret_bool (by rw [E1.out]), G⟩
        case false =>
          cases k1 : x.k == 1
          case true =>
            have E1 := Lib.hid (hp.out (by simp at eh k1; omega))
            go_enter Tryd.func43, Tryd.ntmps43
            go_wp2_with (first | (go_at_call 55; (with_reducible refine (isAccess_any _ _ _).mono ?_); rw [h0]; rintro e w1 ⟨rfl, rfl⟩) | (go_at_call 62; (with_reducible refine (isCount_any _ _).mono ?_); (first | rw [h1] | rw [h2]); rintro e w1 ⟨rfl, rfl⟩))
            go_ret
            exact ⟨rgt_no E1.out, G⟩
          case false =>
            cases k2 : x.k == 2
            case true =>
              have E1 := Lib.hid (hd.out (by simp at eh k1; omega) (.inr (.inl (by simpa using k2))))
              go_enter Tryd.func43, Tryd.ntmps43
              go_wp2_with (first | (go_at_call 55; (with_reducible refine (isAccess_any _ _ _).mono ?_); rw [h0]; rintro e w1 ⟨rfl, rfl⟩) | (go_at_call 62; (with_reducible refine (isCount_any _ _).mono ?_); (first | rw [h1] | rw [h2]); rintro e w1 ⟨rfl, rfl⟩))
              go_ret
              exact ⟨ret_bool (by rw [E1.out]), G⟩
            case false =>
              cases k3 : x.k == 3
              case true =>
                have E1 := Lib.hid (hd.out (by simp at eh k1; omega) (.inr (.inr (by simpa using k3))))
                go_enter Tryd.func43, Tryd.ntmps43
                go_wp2_with (first | (go_at_call 55; (with_reducible refine (isAccess_any _ _ _).mono ?_); rw [h0]; rintro e w1 ⟨rfl, rfl⟩) | (go_at_call 62; (with_reducible refine (isCount_any _ _).mono ?_); (first | rw [h1] | rw [h2]); rintro e w1 ⟨rfl, rfl⟩))
                go_ret
                exact ⟨ret_bool (by rw [E1.out]), G⟩
              case false =>
                cases k4 : x.k == 4
                case true =>
                  have E1 := Lib.hid (hs.out (by simp at eh k1; omega) (by simpa using k4))
                  go_enter Tryd.func43, Tryd.ntmps43
                  go_wp2_with (first | (go_at_call 55; (with_reducible refine (isAccess_any _ _ _).mono ?_); rw [h0]; rintro e w1 ⟨rfl, rfl⟩) | (go_at_call 62; (with_reducible refine (isCount_any _ _).mono ?_); (first | rw [h1] | rw [h2]); rintro e w1 ⟨rfl, rfl⟩) | (go_at_call 63; (with_reducible refine (isStep_any _ _ _ m0 m1).mono ?_); rintro e w1 ⟨rfl, rfl⟩))
                  go_ret
                  exact ⟨ret_bool (by rw [E1.out]), G⟩
                case false =>
                  have E1 := Lib.hid (hn.out (by simp at k1 k2 k3; omega) (by simpa using k4))
                  go_enter Tryd.func43, Tryd.ntmps43
                  go_wp2_with (first | (go_at_call 55; (with_reducible refine (isAccess_any _ _ _).mono ?_); rw [h0]; rintro e w1 ⟨rfl, rfl⟩) | (go_at_call 62; (with_reducible refine (isCount_any _ _).mono ?_); (first | rw [h1] | rw [h2]); rintro e w1 ⟨rfl, rfl⟩))
                  go_ret
                  exact ⟨rgt_no E1.out, G⟩

theorem isRight_v {v : Bool} (x : Str) (w : World) (hm : Mild x) (h : rgtB x = v) : Calls Tryd.prog 43 #[strV x] w (RetG (.bool v) w) := h ▸ isRight_any x w hm
theorem goesForward_v {v : Bool} (x : Str) (a b : Int) (w : World) (hb : 0 ≤ x.b ∧ x.b ≤ 256) (h : fwdB x a b = v) : Calls Tryd.prog 68 #[strV x, .int .i64 a, .int .i64 b] w (RetG (.bool v) w) := h ▸ goesForward_any x a b w hb
theorem goesBackward_v {v : Bool} (x : Str) (a b : Int) (w : World) (hb : 0 ≤ x.a ∧ x.a ≤ 256) (h : bwdB x a b = v) : Calls Tryd.prog 70 #[strV x, .int .i64 a, .int .i64 b] w (RetG (.bool v) w) := h ▸ goesBackward_any x a b w hb
theorem strides_v {v : Bool} (x : Str) (a b : Int) (w : World) (hx : 0 ≤ x.a ∧ x.a < x.b ∧ x.b ≤ 256) (ha : 0 ≤ a ∧ a < b ∧ b ≤ 256) (h : sdB x a b = v) : Calls Tryd.prog 71 #[strV x, .int .i64 a, .int .i64 b] w (RetG (.bool v) w) := h ▸ strides_any x a b w hx ha
theorem rgt_true {x : Str} (h : rgtB x = true) : RgtP x := of_decide_eq_true h

theorem becF_no {x : Str} {a b : Int} (h : (rgtB x && accB a b) = false) : becF x a b = x := by simp [becF, h]
theorem mtcB_no {x : Str} {a b : Int} (h : (rgtB x && accB a b) = false) : mtcB x a b = false := by simp [mtcB, h]
theorem accB_v {v : Bool} (a b : Int) (w : World) (h : accB a b = v) : Calls Tryd.prog 55 #[.int .i64 a, .int .i64 b] w (RetS (.bool v) w) := h ▸ isAccess_any a b w
set_option maxHeartbeats 1000000 in
theorem matches_any (x : Str) (a b : Int) (w : World) (hm : Mild x) : Calls Tryd.prog 59 #[strV x, .int .i64 a, .int .i64 b] w (RetG (.tuple #[strV (becF x a b), .bool (mtcB x a b)]) w) := by
  cases h0 : rgtB x
  case false =>
    rw [becF_no (by rw [h0]; rfl), mtcB_no (by rw [h0]; rfl)]
    go_enter Tryd.func59, Tryd.ntmps59
    go_upto_region 1 with fail
    have gA : Grew w ((w.alloc (.cells (csS x) 29)).alloc (.cells z6 29)) := ((Grew.refl w).alloc _).alloc _
    have X := (Own.new w 29 (csS x)).alloc (.cells z6 29)
    have R := Own.new2 w (.cells (csS x) 29) 29 z6
    generalize World.alloc (World.alloc w _) _ = w0 at *
    obtain ⟨X0, X1, X2, X3, X4, X5, X6, X7, X8, X9, X10, X11⟩ := X.sixA
    obtain ⟨R0, R1, R2, R3, R4, R5, R6, R7, R8, R9, R10, R11⟩ := R.sixA
    go_wp2_with fail
    with_reducible refine (isRight_v _ _ hm h0).mono ?_
    rintro e w1 ⟨rfl, g_w1⟩
    have s_w1 : Grew w0 w1 := by first | exact g_w1 | exact ((Grew.refl _).alloc _).trans g_w1 | exact (((Grew.refl _).alloc _).alloc _).trans g_w1 | exact (Grew.refl _).drew.trans g_w1 | exact ((Grew.refl _).alloc _).drew.trans g_w1 | exact ((Grew.refl _).drewN _).trans g_w1
    have z_w1 := s_w1.size
    replace X := X.grew s_w1
    clear X0 X1 X2 X3 X4 X5 X6 X7 X8 X9 X10 X11
    have l_X_w1 := X.lt
    replace R := R.grew s_w1
    clear R0 R1 R2 R3 R4 R5 R6 R7 R8 R9 R10 R11
    have l_R_w1 := R.lt
    obtain ⟨X0, X1, X2, X3, X4, X5, X6, X7, X8, X9, X10, X11⟩ := X.sixA
    obtain ⟨R0, R1, R2, R3, R4, R5, R6, R7, R8, R9, R10, R11⟩ := R.sixA
    replace gA := gA.trans s_w1
    clear g_w1 s_w1
    go_wp2
    generalize hw : World.setCell _ _ _ = wz
    replace R := R.store6 rfl hw
    replace gA := gA.far6 hw (by omega)
    clear R0 R1 R2 R3 R4 R5 R6 R7 R8 R9 R10 R11
    obtain ⟨R0, R1, R2, R3, R4, R5, R6, R7, R8, R9, R10, R11⟩ := R.sixA
    refine bodyPost_ret (v := .tuple #[strV x, .bool false]) (by simp [results, Tryd.results59, go_sem, R0, R1, R2, R3, R4, R5]) rfl ⟨rfl, ?_⟩
    exact gA
  case true =>
    cases h1 : accB a b
    case false =>
      rw [becF_no (by rw [h1]; simp), mtcB_no (by rw [h1]; simp)]
      go_enter Tryd.func59, Tryd.ntmps59
      go_upto_region 1 with fail
      have gA : Grew w ((w.alloc (.cells (csS x) 29)).alloc (.cells z6 29)) := ((Grew.refl w).alloc _).alloc _
      have X := (Own.new w 29 (csS x)).alloc (.cells z6 29)
      have R := Own.new2 w (.cells (csS x) 29) 29 z6
      generalize World.alloc (World.alloc w _) _ = w0 at *
      obtain ⟨X0, X1, X2, X3, X4, X5, X6, X7, X8, X9, X10, X11⟩ := X.sixA
      obtain ⟨R0, R1, R2, R3, R4, R5, R6, R7, R8, R9, R10, R11⟩ := R.sixA
      go_wp2_with fail
      with_reducible refine (isRight_v _ _ hm h0).mono ?_
      rintro e w1 ⟨rfl, g_w1⟩
      have s_w1 : Grew w0 w1 := by first | exact g_w1 | exact ((Grew.refl _).alloc _).trans g_w1 | exact (((Grew.refl _).alloc _).alloc _).trans g_w1 | exact (Grew.refl _).drew.trans g_w1 | exact ((Grew.refl _).alloc _).drew.trans g_w1 | exact ((Grew.refl _).drewN _).trans g_w1
      have z_w1 := s_w1.size
      replace X := X.grew s_w1
      clear X0 X1 X2 X3 X4 X5 X6 X7 X8 X9 X10 X11
      have l_X_w1 := X.lt
      replace R := R.grew s_w1
      clear R0 R1 R2 R3 R4 R5 R6 R7 R8 R9 R10 R11
      have l_R_w1 := R.lt
      obtain ⟨X0, X1, X2, X3, X4, X5, X6, X7, X8, X9, X10, X11⟩ := X.sixA
      obtain ⟨R0, R1, R2, R3, R4, R5, R6, R7, R8, R9, R10, R11⟩ := R.sixA
      replace gA := gA.trans s_w1
      clear g_w1 s_w1
      go_wp2_with (go_at_call 55; (with_reducible refine (accB_v _ _ _ h1).mono ?_); rintro e w2 ⟨rfl, rfl⟩)
      generalize hw : World.setCell _ _ _ = wz
      replace R := R.store6 rfl hw
      replace gA := gA.far6 hw (by omega)
      clear R0 R1 R2 R3 R4 R5 R6 R7 R8 R9 R10 R11
      obtain ⟨R0, R1, R2, R3, R4, R5, R6, R7, R8, R9, R10, R11⟩ := R.sixA
      refine bodyPost_ret (v := .tuple #[strV x, .bool false]) (by simp [results, Tryd.results59, go_sem, R0, R1, R2, R3, R4, R5]) rfl ⟨rfl, ?_⟩
      exact gA
    case true =>
      have HR := Lib.hid (rgt_true h0)
      obtain ⟨a0, a1, a2⟩ := acc_true h1
      obtain ⟨x0, x1, x2⟩ := (rgt_true h0).1
      have xh : 0 ≤ x.h ∧ x.h ≤ 1000000 := ⟨(rgt_true h0).2.1, (rgt_true h0).2.2.1⟩
      have HX := Lib.hid xh
      clear xh
      cases h2 : fwdB x a b
      case true =>
        have e1 : becF x a b = grwF x 2 0 a b := by simp [becF, h0, h1, h2]
        have e2 : mtcB x a b = true := by simp [mtcB, h0, h1, h2]
        rw [e1, e2]
        clear e1 e2
        go_enter Tryd.func59, Tryd.ntmps59
        go_upto_region 1 with fail
        have gA : Grew w ((w.alloc (.cells (csS x) 29)).alloc (.cells z6 29)) := ((Grew.refl w).alloc _).alloc _
        have X := (Own.new w 29 (csS x)).alloc (.cells z6 29)
        have R := Own.new2 w (.cells (csS x) 29) 29 z6
        generalize World.alloc (World.alloc w _) _ = w0 at *
        obtain ⟨X0, X1, X2, X3, X4, X5, X6, X7, X8, X9, X10, X11⟩ := X.sixA
        obtain ⟨R0, R1, R2, R3, R4, R5, R6, R7, R8, R9, R10, R11⟩ := R.sixA
        go_wp2_with fail
        with_reducible refine (isRight_v _ _ hm h0).mono ?_
        rintro e w1 ⟨rfl, g_w1⟩
        have s_w1 : Grew w0 w1 := by first | exact g_w1 | exact ((Grew.refl _).alloc _).trans g_w1 | exact (((Grew.refl _).alloc _).alloc _).trans g_w1 | exact (Grew.refl _).drew.trans g_w1 | exact ((Grew.refl _).alloc _).drew.trans g_w1 | exact ((Grew.refl _).drewN _).trans g_w1
        have z_w1 := s_w1.size
        replace X := X.grew s_w1
        clear X0 X1 X2 X3 X4 X5 X6 X7 X8 X9 X10 X11
        have l_X_w1 := X.lt
        replace R := R.grew s_w1
        clear R0 R1 R2 R3 R4 R5 R6 R7 R8 R9 R10 R11
        have l_R_w1 := R.lt
        obtain ⟨X0, X1, X2, X3, X4, X5, X6, X7, X8, X9, X10, X11⟩ := X.sixA
        obtain ⟨R0, R1, R2, R3, R4, R5, R6, R7, R8, R9, R10, R11⟩ := R.sixA
        replace gA := gA.trans s_w1
        clear g_w1 s_w1
        go_wp2_with (go_at_call 55; (with_reducible refine (accB_v _ _ _ h1).mono ?_); rintro e w2 ⟨rfl, rfl⟩)
        go_wp2_with fail
        with_reducible refine (goesForward_v _ _ _ _ ⟨by omega, by omega⟩ h2).mono ?_
        rintro e w2 ⟨rfl, g_w2⟩
        have s_w2 : Grew w1 w2 := by first | exact g_w2 | exact ((Grew.refl _).alloc _).trans g_w2 | exact (((Grew.refl _).alloc _).alloc _).trans g_w2 | exact (Grew.refl _).drew.trans g_w2 | exact ((Grew.refl _).alloc _).drew.trans g_w2 | exact ((Grew.refl _).drewN _).trans g_w2
        have z_w2 := s_w2.size
        replace X := X.grew s_w2
        clear X0 X1 X2 X3 X4 X5 X6 X7 X8 X9 X10 X11
        have l_X_w2 := X.lt
        replace R := R.grew s_w2
        clear R0 R1 R2 R3 R4 R5 R6 R7 R8 R9 R10 R11
        have l_R_w2 := R.lt
        obtain ⟨X0, X1, X2, X3, X4, X5, X6, X7, X8, X9, X10, X11⟩ := X.sixA
        obtain ⟨R0, R1, R2, R3, R4, R5, R6, R7, R8, R9, R10, R11⟩ := R.sixA
        replace gA := gA.trans s_w2
        clear g_w2 s_w2
        go_wp2_with fail
        with_reducible refine (grown_any _ _ _ _ _ _ HX.out).mono ?_
        rintro e w3 ⟨rfl, g_w3⟩
        have s_w3 : Grew w2 w3 := by first | exact g_w3 | exact ((Grew.refl _).alloc _).trans g_w3 | exact (((Grew.refl _).alloc _).alloc _).trans g_w3 | exact (Grew.refl _).drew.trans g_w3 | exact ((Grew.refl _).alloc _).drew.trans g_w3 | exact ((Grew.refl _).drewN _).trans g_w3
        have z_w3 := s_w3.size
        replace X := X.grew s_w3
        clear X0 X1 X2 X3 X4 X5 X6 X7 X8 X9 X10 X11
        have l_X_w3 := X.lt
        replace R := R.grew s_w3
        clear R0 R1 R2 R3 R4 R5 R6 R7 R8 R9 R10 R11
        have l_R_w3 := R.lt
        obtain ⟨X0, X1, X2, X3, X4, X5, X6, X7, X8, X9, X10, X11⟩ := X.sixA
        obtain ⟨R0, R1, R2, R3, R4, R5, R6, R7, R8, R9, R10, R11⟩ := R.sixA
        replace gA := gA.trans s_w3
        clear g_w3 s_w3
        go_wp2
        generalize hw : World.setCell _ _ _ = wz
        replace R := R.store6 rfl hw
        replace gA := gA.far6 hw (by omega)
        clear R0 R1 R2 R3 R4 R5 R6 R7 R8 R9 R10 R11
        obtain ⟨R0, R1, R2, R3, R4, R5, R6, R7, R8, R9, R10, R11⟩ := R.sixA
        refine bodyPost_ret (v := .tuple #[strV (grwF x 2 0 a b), .bool true]) (by simp [results, Tryd.results59, go_sem, R0, R1, R2, R3, R4, R5]) rfl ⟨rfl, ?_⟩
        exact gA
      case false =>
        cases h3 : bwdB x a b
        case true =>
          have e1 : becF x a b = grwF x 3 0 a b := by simp [becF, h0, h1, h2, h3]
          have e2 : mtcB x a b = true := by simp [mtcB, h0, h1, h2, h3]
          rw [e1, e2]
          clear e1 e2
          go_enter Tryd.func59, Tryd.ntmps59
          go_upto_region 1 with fail
          have gA : Grew w ((w.alloc (.cells (csS x) 29)).alloc (.cells z6 29)) := ((Grew.refl w).alloc _).alloc _
          have X := (Own.new w 29 (csS x)).alloc (.cells z6 29)
          have R := Own.new2 w (.cells (csS x) 29) 29 z6
          generalize World.alloc (World.alloc w _) _ = w0 at *
          obtain ⟨X0, X1, X2, X3, X4, X5, X6, X7, X8, X9, X10, X11⟩ := X.sixA
          obtain ⟨R0, R1, R2, R3, R4, R5, R6, R7, R8, R9, R10, R11⟩ := R.sixA
          go_wp2_with fail
          with_reducible refine (isRight_v _ _ hm h0).mono ?_
          rintro e w1 ⟨rfl, g_w1⟩
          have s_w1 : Grew w0 w1 := by first | exact g_w1 | exact ((Grew.refl _).alloc _).trans g_w1 | exact (((Grew.refl _).alloc _).alloc _).trans g_w1 | exact (Grew.refl _).drew.trans g_w1 | exact ((Grew.refl _).alloc _).drew.trans g_w1 | exact ((Grew.refl _).drewN _).trans g_w1
          have z_w1 := s_w1.size
          replace X := X.grew s_w1
          clear X0 X1 X2 X3 X4 X5 X6 X7 X8 X9 X10 X11
          have l_X_w1 := X.lt
          replace R := R.grew s_w1
          clear R0 R1 R2 R3 R4 R5 R6 R7 R8 R9 R10 R11
          have l_R_w1 := R.lt
          obtain ⟨X0, X1, X2, X3, X4, X5, X6, X7, X8, X9, X10, X11⟩ := X.sixA
          obtain ⟨R0, R1, R2, R3, R4, R5, R6, R7, R8, R9, R10, R11⟩ := R.sixA
          replace gA := gA.trans s_w1
          clear g_w1 s_w1
          go_wp2_with (go_at_call 55; (with_reducible refine (accB_v _ _ _ h1).mono ?_); rintro e w2 ⟨rfl, rfl⟩)
          go_wp2_with fail
          with_reducible refine (goesForward_v _ _ _ _ ⟨by omega, by omega⟩ h2).mono ?_
          rintro e w2 ⟨rfl, g_w2⟩
          have s_w2 : Grew w1 w2 := by first | exact g_w2 | exact ((Grew.refl _).alloc _).trans g_w2 | exact (((Grew.refl _).alloc _).alloc _).trans g_w2 | exact (Grew.refl _).drew.trans g_w2 | exact ((Grew.refl _).alloc _).drew.trans g_w2 | exact ((Grew.refl _).drewN _).trans g_w2
          have z_w2 := s_w2.size
          replace X := X.grew s_w2
          clear X0 X1 X2 X3 X4 X5 X6 X7 X8 X9 X10 X11
          have l_X_w2 := X.lt
          replace R := R.grew s_w2
          clear R0 R1 R2 R3 R4 R5 R6 R7 R8 R9 R10 R11
          have l_R_w2 := R.lt
          obtain ⟨X0, X1, X2, X3, X4, X5, X6, X7, X8, X9, X10, X11⟩ := X.sixA
          obtain ⟨R0, R1, R2, R3, R4, R5, R6, R7, R8, R9, R10, R11⟩ := R.sixA
          replace gA := gA.trans s_w2
          clear g_w2 s_w2
          go_wp2_with fail
          with_reducible refine (goesBackward_v _ _ _ _ ⟨by omega, by omega⟩ h3).mono ?_
          rintro e w3 ⟨rfl, g_w3⟩
          have s_w3 : Grew w2 w3 := by first | exact g_w3 | exact ((Grew.refl _).alloc _).trans g_w3 | exact (((Grew.refl _).alloc _).alloc _).trans g_w3 | exact (Grew.refl _).drew.trans g_w3 | exact ((Grew.refl _).alloc _).drew.trans g_w3 | exact ((Grew.refl _).drewN _).trans g_w3
          have z_w3 := s_w3.size
          replace X := X.grew s_w3
          clear X0 X1 X2 X3 X4 X5 X6 X7 X8 X9 X10 X11
          have l_X_w3 := X.lt
          replace R := R.grew s_w3
          clear R0 R1 R2 R3 R4 R5 R6 R7 R8 R9 R10 R11
          have l_R_w3 := R.lt
          obtain ⟨X0, X1, X2, X3, X4, X5, X6, X7, X8, X9, X10, X11⟩ := X.sixA
          obtain ⟨R0, R1, R2, R3, R4, R5, R6, R7, R8, R9, R10, R11⟩ := R.sixA
          replace gA := gA.trans s_w3
          clear g_w3 s_w3
          go_wp2_with fail
          with_reducible refine (grown_any _ _ _ _ _ _ HX.out).mono ?_
          rintro e w4 ⟨rfl, g_w4⟩
          have s_w4 : Grew w3 w4 := by first | exact g_w4 | exact ((Grew.refl _).alloc _).trans g_w4 | exact (((Grew.refl _).alloc _).alloc _).trans g_w4 | exact (Grew.refl _).drew.trans g_w4 | exact ((Grew.refl _).alloc _).drew.trans g_w4 | exact ((Grew.refl _).drewN _).trans g_w4
          have z_w4 := s_w4.size
          replace X := X.grew s_w4
          clear X0 X1 X2 X3 X4 X5 X6 X7 X8 X9 X10 X11
          have l_X_w4 := X.lt
          replace R := R.grew s_w4
          clear R0 R1 R2 R3 R4 R5 R6 R7 R8 R9 R10 R11
          have l_R_w4 := R.lt
          obtain ⟨X0, X1, X2, X3, X4, X5, X6, X7, X8, X9, X10, X11⟩ := X.sixA
          obtain ⟨R0, R1, R2, R3, R4, R5, R6, R7, R8, R9, R10, R11⟩ := R.sixA
          replace gA := gA.trans s_w4
          clear g_w4 s_w4
          go_wp2
          generalize hw : World.setCell _ _ _ = wz
          replace R := R.store6 rfl hw
          replace gA := gA.far6 hw (by omega)
          clear R0 R1 R2 R3 R4 R5 R6 R7 R8 R9 R10 R11
          obtain ⟨R0, R1, R2, R3, R4, R5, R6, R7, R8, R9, R10, R11⟩ := R.sixA
          refine bodyPost_ret (v := .tuple #[strV (grwF x 3 0 a b), .bool true]) (by simp [results, Tryd.results59, go_sem, R0, R1, R2, R3, R4, R5]) rfl ⟨rfl, ?_⟩
          exact gA
        case false =>
          cases h4 : sdB x a b
          case true =>
            have e1 : becF x a b = grwF x 4 (a - x.a) a b := by simp [becF, h0, h1, h2, h3, h4]
            have e2 : mtcB x a b = true := by simp [mtcB, h0, h1, h2, h3, h4]
            rw [e1, e2]
            clear e1 e2
            go_enter Tryd.func59, Tryd.ntmps59
            go_upto_region 1 with fail
            have gA : Grew w ((w.alloc (.cells (csS x) 29)).alloc (.cells z6 29)) := ((Grew.refl w).alloc _).alloc _
            have X := (Own.new w 29 (csS x)).alloc (.cells z6 29)
            have R := Own.new2 w (.cells (csS x) 29) 29 z6
            generalize World.alloc (World.alloc w _) _ = w0 at *
            obtain ⟨X0, X1, X2, X3, X4, X5, X6, X7, X8, X9, X10, X11⟩ := X.sixA
            obtain ⟨R0, R1, R2, R3, R4, R5, R6, R7, R8, R9, R10, R11⟩ := R.sixA
            go_wp2_with fail
            with_reducible refine (isRight_v _ _ hm h0).mono ?_
            rintro e w1 ⟨rfl, g_w1⟩
            have s_w1 : Grew w0 w1 := by first | exact g_w1 | exact ((Grew.refl _).alloc _).trans g_w1 | exact (((Grew.refl _).alloc _).alloc _).trans g_w1 | exact (Grew.refl _).drew.trans g_w1 | exact ((Grew.refl _).alloc _).drew.trans g_w1 | exact ((Grew.refl _).drewN _).trans g_w1
            have z_w1 := s_w1.size
            replace X := X.grew s_w1
            clear X0 X1 X2 X3 X4 X5 X6 X7 X8 X9 X10 X11
            have l_X_w1 := X.lt
            replace R := R.grew s_w1
            clear R0 R1 R2 R3 R4 R5 R6 R7 R8 R9 R10 R11
            have l_R_w1 := R.lt
            obtain ⟨X0, X1, X2, X3, X4, X5, X6, X7, X8, X9, X10, X11⟩ := X.sixA
            obtain ⟨R0, R1, R2, R3, R4, R5, R6, R7, R8, R9, R10, R11⟩ := R.sixA
            replace gA := gA.trans s_w1
            clear g_w1 s_w1
            go_wp2_with (go_at_call 55; (with_reducible refine (accB_v _ _ _ h1).mono ?_); rintro e w2 ⟨rfl, rfl⟩)
            go_wp2_with fail
            with_reducible refine (goesForward_v _ _ _ _ ⟨by omega, by omega⟩ h2).mono ?_
            rintro e w2 ⟨rfl, g_w2⟩
            have s_w2 : Grew w1 w2 := by first | exact g_w2 | exact ((Grew.refl _).alloc _).trans g_w2 | exact (((Grew.refl _).alloc _).alloc _).trans g_w2 | exact (Grew.refl _).drew.trans g_w2 | exact ((Grew.refl _).alloc _).drew.trans g_w2 | exact ((Grew.refl _).drewN _).trans g_w2
            have z_w2 := s_w2.size
            replace X := X.grew s_w2
            clear X0 X1 X2 X3 X4 X5 X6 X7 X8 X9 X10 X11
            have l_X_w2 := X.lt
            replace R := R.grew s_w2
            clear R0 R1 R2 R3 R4 R5 R6 R7 R8 R9 R10 R11
            have l_R_w2 := R.lt
            obtain ⟨X0, X1, X2, X3, X4, X5, X6, X7, X8, X9, X10, X11⟩ := X.sixA
            obtain ⟨R0, R1, R2, R3, R4, R5, R6, R7, R8, R9, R10, R11⟩ := R.sixA
            replace gA := gA.trans s_w2
            clear g_w2 s_w2
            go_wp2_with fail
            with_reducible refine (goesBackward_v _ _ _ _ ⟨by omega, by omega⟩ h3).mono ?_
            rintro e w3 ⟨rfl, g_w3⟩
            have s_w3 : Grew w2 w3 := by first | exact g_w3 | exact ((Grew.refl _).alloc _).trans g_w3 | exact (((Grew.refl _).alloc _).alloc _).trans g_w3 | exact (Grew.refl _).drew.trans g_w3 | exact ((Grew.refl _).alloc _).drew.trans g_w3 | exact ((Grew.refl _).drewN _).trans g_w3
            have z_w3 := s_w3.size
            replace X := X.grew s_w3
            clear X0 X1 X2 X3 X4 X5 X6 X7 X8 X9 X10 X11
            have l_X_w3 := X.lt
            replace R := R.grew s_w3
            clear R0 R1 R2 R3 R4 R5 R6 R7 R8 R9 R10 R11
            have l_R_w3 := R.lt
            obtain ⟨X0, X1, X2, X3, X4, X5, X6, X7, X8, X9, X10, X11⟩ := X.sixA
            obtain ⟨R0, R1, R2, R3, R4, R5, R6, R7, R8, R9, R10, R11⟩ := R.sixA
            replace gA := gA.trans s_w3
            clear g_w3 s_w3
            go_wp2_with fail
            with_reducible refine (strides_v _ _ _ _ ⟨by omega, by omega, by omega⟩ ⟨by omega, by omega, by omega⟩ h4).mono ?_
            rintro e w4 ⟨rfl, g_w4⟩
            have s_w4 : Grew w3 w4 := by first | exact g_w4 | exact ((Grew.refl _).alloc _).trans g_w4 | exact (((Grew.refl _).alloc _).alloc _).trans g_w4 | exact (Grew.refl _).drew.trans g_w4 | exact ((Grew.refl _).alloc _).drew.trans g_w4 | exact ((Grew.refl _).drewN _).trans g_w4
            have z_w4 := s_w4.size
            replace X := X.grew s_w4
            clear X0 X1 X2 X3 X4 X5 X6 X7 X8 X9 X10 X11
            have l_X_w4 := X.lt
            replace R := R.grew s_w4
            clear R0 R1 R2 R3 R4 R5 R6 R7 R8 R9 R10 R11
            have l_R_w4 := R.lt
            obtain ⟨X0, X1, X2, X3, X4, X5, X6, X7, X8, X9, X10, X11⟩ := X.sixA
            obtain ⟨R0, R1, R2, R3, R4, R5, R6, R7, R8, R9, R10, R11⟩ := R.sixA
            replace gA := gA.trans s_w4
            clear g_w4 s_w4
            go_wp2_with fail
            with_reducible refine (grown_any _ _ _ _ _ _ HX.out).mono ?_
            rintro e w5 ⟨rfl, g_w5⟩
            have s_w5 : Grew w4 w5 := by first | exact g_w5 | exact ((Grew.refl _).alloc _).trans g_w5 | exact (((Grew.refl _).alloc _).alloc _).trans g_w5 | exact (Grew.refl _).drew.trans g_w5 | exact ((Grew.refl _).alloc _).drew.trans g_w5 | exact ((Grew.refl _).drewN _).trans g_w5
            have z_w5 := s_w5.size
            replace X := X.grew s_w5
            clear X0 X1 X2 X3 X4 X5 X6 X7 X8 X9 X10 X11
            have l_X_w5 := X.lt
            replace R := R.grew s_w5
            clear R0 R1 R2 R3 R4 R5 R6 R7 R8 R9 R10 R11
            have l_R_w5 := R.lt
            obtain ⟨X0, X1, X2, X3, X4, X5, X6, X7, X8, X9, X10, X11⟩ := X.sixA
            obtain ⟨R0, R1, R2, R3, R4, R5, R6, R7, R8, R9, R10, R11⟩ := R.sixA
            replace gA := gA.trans s_w5
            clear g_w5 s_w5
            go_wp2
            generalize hw : World.setCell _ _ _ = wz
            replace R := R.store6 rfl hw
            replace gA := gA.far6 hw (by omega)
            clear R0 R1 R2 R3 R4 R5 R6 R7 R8 R9 R10 R11
            obtain ⟨R0, R1, R2, R3, R4, R5, R6, R7, R8, R9, R10, R11⟩ := R.sixA
            refine bodyPost_ret (v := .tuple #[strV (grwF x 4 (a - x.a) a b), .bool true]) (by simp [results, Tryd.results59, go_sem, R0, R1, R2, R3, R4, R5]) rfl ⟨rfl, ?_⟩
            exact gA
          case false =>
            have e1 : becF x a b = x := by simp [becF, h0, h1, h2, h3, h4]
            have e2 := Lib.hid (show mtcB x a b = agnB x a b from by simp [mtcB, h0, h1, h2, h3, h4])
            rw [e1, e2.out]
            clear e1
            have e3 := Lib.hid (show agnB x a b = (decide (x.a ≤ a) && decide (b ≤ x.b)) from by simp [agnB])
            clear e2
            cases h5 : decide (x.a ≤ a)
            all_goals
              rw [e3.out, h5]
              clear e3
              go_enter Tryd.func59, Tryd.ntmps59
              go_upto_region 1 with fail
              have gA : Grew w ((w.alloc (.cells (csS x) 29)).alloc (.cells z6 29)) := ((Grew.refl w).alloc _).alloc _
              have X := (Own.new w 29 (csS x)).alloc (.cells z6 29)
              have R := Own.new2 w (.cells (csS x) 29) 29 z6
              generalize World.alloc (World.alloc w _) _ = w0 at *
              obtain ⟨X0, X1, X2, X3, X4, X5, X6, X7, X8, X9, X10, X11⟩ := X.sixA
              obtain ⟨R0, R1, R2, R3, R4, R5, R6, R7, R8, R9, R10, R11⟩ := R.sixA
              go_wp2_with fail
              with_reducible refine (isRight_v _ _ hm h0).mono ?_
              rintro e w1 ⟨rfl, g_w1⟩
              have s_w1 : Grew w0 w1 := by first | exact g_w1 | exact ((Grew.refl _).alloc _).trans g_w1 | exact (((Grew.refl _).alloc _).alloc _).trans g_w1 | exact (Grew.refl _).drew.trans g_w1 | exact ((Grew.refl _).alloc _).drew.trans g_w1 | exact ((Grew.refl _).drewN _).trans g_w1
              have z_w1 := s_w1.size
              replace X := X.grew s_w1
              clear X0 X1 X2 X3 X4 X5 X6 X7 X8 X9 X10 X11
              have l_X_w1 := X.lt
              replace R := R.grew s_w1
              clear R0 R1 R2 R3 R4 R5 R6 R7 R8 R9 R10 R11
              have l_R_w1 := R.lt
              obtain ⟨X0, X1, X2, X3, X4, X5, X6, X7, X8, X9, X10, X11⟩ := X.sixA
              obtain ⟨R0, R1, R2, R3, R4, R5, R6, R7, R8, R9, R10, R11⟩ := R.sixA
              replace gA := gA.trans s_w1
              clear g_w1 s_w1
              go_wp2_with (go_at_call 55; (with_reducible refine (accB_v _ _ _ h1).mono ?_); rintro e w2 ⟨rfl, rfl⟩)
              go_wp2_with fail
              with_reducible refine (goesForward_v _ _ _ _ ⟨by omega, by omega⟩ h2).mono ?_
              rintro e w2 ⟨rfl, g_w2⟩
              have s_w2 : Grew w1 w2 := by first | exact g_w2 | exact ((Grew.refl _).alloc _).trans g_w2 | exact (((Grew.refl _).alloc _).alloc _).trans g_w2 | exact (Grew.refl _).drew.trans g_w2 | exact ((Grew.refl _).alloc _).drew.trans g_w2 | exact ((Grew.refl _).drewN _).trans g_w2
              have z_w2 := s_w2.size
              replace X := X.grew s_w2
              clear X0 X1 X2 X3 X4 X5 X6 X7 X8 X9 X10 X11
              have l_X_w2 := X.lt
              replace R := R.grew s_w2
              clear R0 R1 R2 R3 R4 R5 R6 R7 R8 R9 R10 R11
              have l_R_w2 := R.lt
              obtain ⟨X0, X1, X2, X3, X4, X5, X6, X7, X8, X9, X10, X11⟩ := X.sixA
              obtain ⟨R0, R1, R2, R3, R4, R5, R6, R7, R8, R9, R10, R11⟩ := R.sixA
              replace gA := gA.trans s_w2
              clear g_w2 s_w2
              go_wp2_with fail
              with_reducible refine (goesBackward_v _ _ _ _ ⟨by omega, by omega⟩ h3).mono ?_
              rintro e w3 ⟨rfl, g_w3⟩
              have s_w3 : Grew w2 w3 := by first | exact g_w3 | exact ((Grew.refl _).alloc _).trans g_w3 | exact (((Grew.refl _).alloc _).alloc _).trans g_w3 | exact (Grew.refl _).drew.trans g_w3 | exact ((Grew.refl _).alloc _).drew.trans g_w3 | exact ((Grew.refl _).drewN _).trans g_w3
              have z_w3 := s_w3.size
              replace X := X.grew s_w3
              clear X0 X1 X2 X3 X4 X5 X6 X7 X8 X9 X10 X11
              have l_X_w3 := X.lt
              replace R := R.grew s_w3
              clear R0 R1 R2 R3 R4 R5 R6 R7 R8 R9 R10 R11
              have l_R_w3 := R.lt
              obtain ⟨X0, X1, X2, X3, X4, X5, X6, X7, X8, X9, X10, X11⟩ := X.sixA
              obtain ⟨R0, R1, R2, R3, R4, R5, R6, R7, R8, R9, R10, R11⟩ := R.sixA
              replace gA := gA.trans s_w3
              clear g_w3 s_w3
              go_wp2_with fail
              with_reducible refine (strides_v _ _ _ _ ⟨by omega, by omega, by omega⟩ ⟨by omega, by omega, by omega⟩ h4).mono ?_
              rintro e w4 ⟨rfl, g_w4⟩
              have s_w4 : Grew w3 w4 := by first | exact g_w4 | exact ((Grew.refl _).alloc _).trans g_w4 | exact (((Grew.refl _).alloc _).alloc _).trans g_w4 | exact (Grew.refl _).drew.trans g_w4 | exact ((Grew.refl _).alloc _).drew.trans g_w4 | exact ((Grew.refl _).drewN _).trans g_w4
              have z_w4 := s_w4.size
              replace X := X.grew s_w4
              clear X0 X1 X2 X3 X4 X5 X6 X7 X8 X9 X10 X11
              have l_X_w4 := X.lt
              replace R := R.grew s_w4
              clear R0 R1 R2 R3 R4 R5 R6 R7 R8 R9 R10 R11
              have l_R_w4 := R.lt
              obtain ⟨X0, X1, X2, X3, X4, X5, X6, X7, X8, X9, X10, X11⟩ := X.sixA
              obtain ⟨R0, R1, R2, R3, R4, R5, R6, R7, R8, R9, R10, R11⟩ := R.sixA
              replace gA := gA.trans s_w4
              clear g_w4 s_w4
              go_wp2
              go_region
              all_goals go_wp2
              all_goals
                generalize hw : World.setCell _ _ _ = wz
                have RR := R.store6 rfl hw
                have gB := gA.far6 hw (by omega)
                clear R0 R1 R2 R3 R4 R5 R6 R7 R8 R9 R10 R11
                obtain ⟨R0, R1, R2, R3, R4, R5, R6, R7, R8, R9, R10, R11⟩ := RR.sixA
                refine bodyPost_ret (v := .tuple #[strV x, .bool _]) (by simp [results, Tryd.results59, go_sem, R0, R1, R2, R3, R4, R5]) rfl ⟨rfl, ?_⟩
                exact gB.drew
end Go.Proofs.YtfljohgcbihhbaaDoor
