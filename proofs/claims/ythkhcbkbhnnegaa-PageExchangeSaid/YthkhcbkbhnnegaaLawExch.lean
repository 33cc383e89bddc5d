/- PageExchange holds: writes to different sectors, and a write to one and a fill of the other, can be exchanged. -/
import Derived.Test.YthkhcbkbhnnegaaExch
namespace Go.Proofs.Ythkhcbkbhnnegaa
open Go.ChangeShapes Go.WideShapes Go.ChangeAt Go.RowKit Go.Mine

set_option maxHeartbeats 4000000 in
theorem exch_core (A : Option Addr) (c : Nat) (xs : List Int) (w : World) (hr : IntRow w A xs) (hm : xs.length ≤ maxLen) :
    Calls Try.prog 7 #[.slice A xs.length c] w (RetG (.bool true) w) := by
  have tp := Tp.made hr hm c 25
  have gA := Grew.refl w
  have HR := Lib.hid hr
  clear hr
  generalize hX : xs.length = X at *
  clear hX
  have hbA : w.heap.size ≤ w.heap.size := Nat.le_refl _
  go_enter Try.func7, Try.ntmps7
  go_wp2_with fail
  with_reducible refine (madePage_x _ _ _ tp (by simp)).mono ?_
  rintro e w1 ⟨d, v, t, rfl, t_w1, g_w1⟩
  have s_w1 : w.grownBy w1 (some (w.heap.size)) := by first | exact g_w1 | exact grown_trans (grown_alloc (grown_refl _ _) _) g_w1 | exact grown_trans (grown_alloc (grown_alloc (grown_refl _ _) _) _) g_w1 | exact grown_trans (grown_drew (grown_refl _ _)) g_w1 | exact grown_trans (grown_drew (grown_alloc (grown_refl _ _) _)) g_w1
  have z_w1 := s_w1.size
  replace gA := gA.past s_w1 hbA
  clear tp
  have tp := t_w1
  have l_tp_w1 := tp.lt
  clear g_w1 s_w1 t_w1
  by_cases hR : rightB d v t = true
  · go_wp2_with fail
    with_reducible refine (check_g _ _ _ _).mono ?_
    rintro e w2 ⟨rfl, g_w2⟩
    have s_w2 : Grew w1 w2 := by first | exact g_w2 | exact ((Grew.refl _).alloc _).trans g_w2 | exact (((Grew.refl _).alloc _).alloc _).trans g_w2 | exact (Grew.refl _).drew.trans g_w2 | exact ((Grew.refl _).alloc _).drew.trans g_w2
    have z_w2 := s_w2.size
    have P := (Own.new _ _ _).grew g_w2
    have l_P_w2 := P.lt
    obtain ⟨P0, P1, P2, P3, P4, P5⟩ := P.three
    replace gA := gA.trans s_w2
    replace tp := tp.grew s_w2
    clear g_w2 s_w2
    go_wp2_with fail
    with_reducible refine (bytes_x _ _ _ _ (by omega) (by omega) tp (by omega)).mono ?_
    rintro e w3 ⟨a, ha, rfl, t_w3, g_w3⟩
    have s_w3 : w2.grownBy w3 (some (w.heap.size)) := by first | exact g_w3 | exact grown_trans (grown_alloc (grown_refl _ _) _) g_w3 | exact grown_trans (grown_alloc (grown_alloc (grown_refl _ _) _) _) g_w3 | exact grown_trans (grown_drew (grown_refl _ _)) g_w3 | exact grown_trans (grown_drew (grown_alloc (grown_refl _ _) _)) g_w3
    have z_w3 := s_w3.size
    replace P := P.past s_w3 (by omega)
    clear P0 P1 P2 P3 P4 P5
    have l_P_w3 := P.lt
    obtain ⟨P0, P1, P2, P3, P4, P5⟩ := P.three
    replace gA := gA.past s_w3 hbA
    clear tp
    have tp := t_w3
    have l_tp_w3 := tp.lt
    clear g_w3 s_w3 t_w3
    go_wp2_with fail
    with_reducible refine (bytes_x _ _ _ _ (by omega) (by omega) tp (by omega)).mono ?_
    rintro e w4 ⟨b, hb, rfl, t_w4, g_w4⟩
    have s_w4 : w3.grownBy w4 (some (w.heap.size)) := by first | exact g_w4 | exact grown_trans (grown_alloc (grown_refl _ _) _) g_w4 | exact grown_trans (grown_alloc (grown_alloc (grown_refl _ _) _) _) g_w4 | exact grown_trans (grown_drew (grown_refl _ _)) g_w4 | exact grown_trans (grown_drew (grown_alloc (grown_refl _ _) _)) g_w4
    have z_w4 := s_w4.size
    replace P := P.past s_w4 (by omega)
    clear P0 P1 P2 P3 P4 P5
    have l_P_w4 := P.lt
    obtain ⟨P0, P1, P2, P3, P4, P5⟩ := P.three
    replace gA := gA.past s_w4 hbA
    clear tp
    have tp := t_w4
    have l_tp_w4 := tp.lt
    clear g_w4 s_w4 t_w4
    go_wp2_with fail
    with_reducible refine (ex_w0 _ _ _ _ _ hR ha).mono ?_
    rintro e w5 ⟨rfl, g_w5⟩
    have s_w5 : Grew w4 w5 := by first | exact g_w5 | exact ((Grew.refl _).alloc _).trans g_w5 | exact (((Grew.refl _).alloc _).alloc _).trans g_w5 | exact (Grew.refl _).drew.trans g_w5 | exact ((Grew.refl _).alloc _).drew.trans g_w5
    have z_w5 := s_w5.size
    replace P := P.grew s_w5
    clear P0 P1 P2 P3 P4 P5
    have l_P_w5 := P.lt
    obtain ⟨P0, P1, P2, P3, P4, P5⟩ := P.three
    replace gA := gA.trans s_w5
    replace tp := tp.grew s_w5
    clear g_w5 s_w5
    go_wp2_with fail
    with_reducible refine (ex_x2 _ _ _ _ _ _ hR ha hb).mono ?_
    rintro e w6 ⟨rfl, g_w6⟩
    have s_w6 : Grew w5 w6 := by first | exact g_w6 | exact ((Grew.refl _).alloc _).trans g_w6 | exact (((Grew.refl _).alloc _).alloc _).trans g_w6 | exact (Grew.refl _).drew.trans g_w6 | exact ((Grew.refl _).alloc _).drew.trans g_w6
    have z_w6 := s_w6.size
    replace P := P.grew s_w6
    clear P0 P1 P2 P3 P4 P5
    have l_P_w6 := P.lt
    have X := (Own.new _ _ _).grew g_w6
    have l_X_w6 := X.lt
    obtain ⟨P0, P1, P2, P3, P4, P5⟩ := P.three
    obtain ⟨X0, X1, X2, X3, X4, X5⟩ := X.three
    replace gA := gA.trans s_w6
    replace tp := tp.grew s_w6
    clear g_w6 s_w6
    go_wp2_with fail
    generalize hw_w7 : World.setCell (World.setCell (World.setCell w6 _ _) _ _) _ _ = w7
    have l0_w7 := X.lt
    replace P := P.far3 hw_w7 (by omega)
    clear P0 P1 P2 P3 P4 P5
    have l_P_w7 := P.lt
    replace X := X.store3 hw_w7
    clear X0 X1 X2 X3 X4 X5
    have l_X_w7 := X.lt
    obtain ⟨P0, P1, P2, P3, P4, P5⟩ := P.three
    obtain ⟨X0, X1, X2, X3, X4, X5⟩ := X.three
    replace gA := gA.far3 hw_w7 (by omega)
    replace tp := tp.far3 hw_w7 (by omega)
    have l_tp_w7 := tp.lt
    clear hw_w7 l0_w7
    go_wp2_with fail
    with_reducible refine (ex_w8 _ _ _ _ _ hR hb).mono ?_
    rintro e w8 ⟨rfl, g_w8⟩
    have s_w8 : Grew w7 w8 := by first | exact g_w8 | exact ((Grew.refl _).alloc _).trans g_w8 | exact (((Grew.refl _).alloc _).alloc _).trans g_w8 | exact (Grew.refl _).drew.trans g_w8 | exact ((Grew.refl _).alloc _).drew.trans g_w8
    have z_w8 := s_w8.size
    replace P := P.grew s_w8
    clear P0 P1 P2 P3 P4 P5
    have l_P_w8 := P.lt
    replace X := X.grew s_w8
    clear X0 X1 X2 X3 X4 X5
    have l_X_w8 := X.lt
    obtain ⟨P0, P1, P2, P3, P4, P5⟩ := P.three
    obtain ⟨X0, X1, X2, X3, X4, X5⟩ := X.three
    replace gA := gA.trans s_w8
    replace tp := tp.grew s_w8
    clear g_w8 s_w8
    go_wp2_with fail
    with_reducible refine (ex_y2 _ _ _ _ _ _ hR ha hb).mono ?_
    rintro e w9 ⟨rfl, g_w9⟩
    have s_w9 : Grew w8 w9 := by first | exact g_w9 | exact ((Grew.refl _).alloc _).trans g_w9 | exact (((Grew.refl _).alloc _).alloc _).trans g_w9 | exact (Grew.refl _).drew.trans g_w9 | exact ((Grew.refl _).alloc _).drew.trans g_w9
    have z_w9 := s_w9.size
    replace P := P.grew s_w9
    clear P0 P1 P2 P3 P4 P5
    have l_P_w9 := P.lt
    replace X := X.grew s_w9
    clear X0 X1 X2 X3 X4 X5
    have l_X_w9 := X.lt
    have Y := (Own.new _ _ _).grew g_w9
    have l_Y_w9 := Y.lt
    obtain ⟨P0, P1, P2, P3, P4, P5⟩ := P.three
    obtain ⟨X0, X1, X2, X3, X4, X5⟩ := X.three
    obtain ⟨Y0, Y1, Y2, Y3, Y4, Y5⟩ := Y.three
    replace gA := gA.trans s_w9
    replace tp := tp.grew s_w9
    clear g_w9 s_w9
    go_wp2_with fail
    generalize hw_w10 : World.setCell (World.setCell (World.setCell w9 _ _) _ _) _ _ = w10
    have l0_w10 := Y.lt
    replace P := P.far3 hw_w10 (by omega)
    clear P0 P1 P2 P3 P4 P5
    have l_P_w10 := P.lt
    replace X := X.far3 hw_w10 (by omega)
    clear X0 X1 X2 X3 X4 X5
    have l_X_w10 := X.lt
    replace Y := Y.store3 hw_w10
    clear Y0 Y1 Y2 Y3 Y4 Y5
    have l_Y_w10 := Y.lt
    obtain ⟨P0, P1, P2, P3, P4, P5⟩ := P.three
    obtain ⟨X0, X1, X2, X3, X4, X5⟩ := X.three
    obtain ⟨Y0, Y1, Y2, Y3, Y4, Y5⟩ := Y.three
    replace gA := gA.far3 hw_w10 (by omega)
    replace tp := tp.far3 hw_w10 (by omega)
    have l_tp_w10 := tp.lt
    clear hw_w10 l0_w10
    go_wp2_with fail
    with_reducible refine (bytes_x _ _ _ _ (by omega) (by omega) tp (by omega)).mono ?_
    rintro e w11 ⟨k, hk, rfl, t_w11, g_w11⟩
    have s_w11 : w10.grownBy w11 (some (w.heap.size)) := by first | exact g_w11 | exact grown_trans (grown_alloc (grown_refl _ _) _) g_w11 | exact grown_trans (grown_alloc (grown_alloc (grown_refl _ _) _) _) g_w11 | exact grown_trans (grown_drew (grown_refl _ _)) g_w11 | exact grown_trans (grown_drew (grown_alloc (grown_refl _ _) _)) g_w11
    have z_w11 := s_w11.size
    replace P := P.past s_w11 (by omega)
    clear P0 P1 P2 P3 P4 P5
    have l_P_w11 := P.lt
    replace X := X.past s_w11 (by omega)
    clear X0 X1 X2 X3 X4 X5
    have l_X_w11 := X.lt
    replace Y := Y.past s_w11 (by omega)
    clear Y0 Y1 Y2 Y3 Y4 Y5
    have l_Y_w11 := Y.lt
    obtain ⟨P0, P1, P2, P3, P4, P5⟩ := P.three
    obtain ⟨X0, X1, X2, X3, X4, X5⟩ := X.three
    obtain ⟨Y0, Y1, Y2, Y3, Y4, Y5⟩ := Y.three
    replace gA := gA.past s_w11 hbA
    clear tp
    have tp := t_w11
    have l_tp_w11 := tp.lt
    clear g_w11 s_w11 t_w11
    go_wp2_with fail
    with_reducible refine (ex_w0 _ _ _ _ _ hR ha).mono ?_
    rintro e w12 ⟨rfl, g_w12⟩
    have s_w12 : Grew w11 w12 := by first | exact g_w12 | exact ((Grew.refl _).alloc _).trans g_w12 | exact (((Grew.refl _).alloc _).alloc _).trans g_w12 | exact (Grew.refl _).drew.trans g_w12 | exact ((Grew.refl _).alloc _).drew.trans g_w12
    have z_w12 := s_w12.size
    replace P := P.grew s_w12
    clear P0 P1 P2 P3 P4 P5
    have l_P_w12 := P.lt
    replace X := X.grew s_w12
    clear X0 X1 X2 X3 X4 X5
    have l_X_w12 := X.lt
    replace Y := Y.grew s_w12
    clear Y0 Y1 Y2 Y3 Y4 Y5
    have l_Y_w12 := Y.lt
    obtain ⟨P0, P1, P2, P3, P4, P5⟩ := P.three
    obtain ⟨X0, X1, X2, X3, X4, X5⟩ := X.three
    obtain ⟨Y0, Y1, Y2, Y3, Y4, Y5⟩ := Y.three
    replace gA := gA.trans s_w12
    replace tp := tp.grew s_w12
    clear g_w12 s_w12
    go_wp2_with fail
    with_reducible refine (ex_u2 _ _ _ _ _ _ hR ha hk).mono ?_
    rintro e w13 ⟨rfl, g_w13⟩
    have s_w13 : Grew w12 w13 := by first | exact g_w13 | exact ((Grew.refl _).alloc _).trans g_w13 | exact (((Grew.refl _).alloc _).alloc _).trans g_w13 | exact (Grew.refl _).drew.trans g_w13 | exact ((Grew.refl _).alloc _).drew.trans g_w13
    have z_w13 := s_w13.size
    replace P := P.grew s_w13
    clear P0 P1 P2 P3 P4 P5
    have l_P_w13 := P.lt
    replace X := X.grew s_w13
    clear X0 X1 X2 X3 X4 X5
    have l_X_w13 := X.lt
    replace Y := Y.grew s_w13
    clear Y0 Y1 Y2 Y3 Y4 Y5
    have l_Y_w13 := Y.lt
    have U := (Own.new _ _ _).grew g_w13
    have l_U_w13 := U.lt
    obtain ⟨P0, P1, P2, P3, P4, P5⟩ := P.three
    obtain ⟨X0, X1, X2, X3, X4, X5⟩ := X.three
    obtain ⟨Y0, Y1, Y2, Y3, Y4, Y5⟩ := Y.three
    obtain ⟨U0, U1, U2, U3, U4, U5⟩ := U.three
    replace gA := gA.trans s_w13
    replace tp := tp.grew s_w13
    clear g_w13 s_w13
    go_wp2_with fail
    generalize hw_w14 : World.setCell (World.setCell (World.setCell w13 _ _) _ _) _ _ = w14
    have l0_w14 := U.lt
    replace P := P.far3 hw_w14 (by omega)
    clear P0 P1 P2 P3 P4 P5
    have l_P_w14 := P.lt
    replace X := X.far3 hw_w14 (by omega)
    clear X0 X1 X2 X3 X4 X5
    have l_X_w14 := X.lt
    replace Y := Y.far3 hw_w14 (by omega)
    clear Y0 Y1 Y2 Y3 Y4 Y5
    have l_Y_w14 := Y.lt
    replace U := U.store3 hw_w14
    clear U0 U1 U2 U3 U4 U5
    have l_U_w14 := U.lt
    obtain ⟨P0, P1, P2, P3, P4, P5⟩ := P.three
    obtain ⟨X0, X1, X2, X3, X4, X5⟩ := X.three
    obtain ⟨Y0, Y1, Y2, Y3, Y4, Y5⟩ := Y.three
    obtain ⟨U0, U1, U2, U3, U4, U5⟩ := U.three
    replace gA := gA.far3 hw_w14 (by omega)
    replace tp := tp.far3 hw_w14 (by omega)
    have l_tp_w14 := tp.lt
    clear hw_w14 l0_w14
    go_wp2_with fail
    with_reducible refine (ex_f2 _ _ _ _ _ hR hk).mono ?_
    rintro e w15 ⟨rfl, g_w15⟩
    have s_w15 : Grew w14 w15 := by first | exact g_w15 | exact ((Grew.refl _).alloc _).trans g_w15 | exact (((Grew.refl _).alloc _).alloc _).trans g_w15 | exact (Grew.refl _).drew.trans g_w15 | exact ((Grew.refl _).alloc _).drew.trans g_w15
    have z_w15 := s_w15.size
    replace P := P.grew s_w15
    clear P0 P1 P2 P3 P4 P5
    have l_P_w15 := P.lt
    replace X := X.grew s_w15
    clear X0 X1 X2 X3 X4 X5
    have l_X_w15 := X.lt
    replace Y := Y.grew s_w15
    clear Y0 Y1 Y2 Y3 Y4 Y5
    have l_Y_w15 := Y.lt
    replace U := U.grew s_w15
    clear U0 U1 U2 U3 U4 U5
    have l_U_w15 := U.lt
    obtain ⟨P0, P1, P2, P3, P4, P5⟩ := P.three
    obtain ⟨X0, X1, X2, X3, X4, X5⟩ := X.three
    obtain ⟨Y0, Y1, Y2, Y3, Y4, Y5⟩ := Y.three
    obtain ⟨U0, U1, U2, U3, U4, U5⟩ := U.three
    replace gA := gA.trans s_w15
    replace tp := tp.grew s_w15
    clear g_w15 s_w15
    go_wp2_with fail
    with_reducible refine (ex_v2 _ _ _ _ _ _ hR ha hk).mono ?_
    rintro e w16 ⟨rfl, g_w16⟩
    have s_w16 : Grew w15 w16 := by first | exact g_w16 | exact ((Grew.refl _).alloc _).trans g_w16 | exact (((Grew.refl _).alloc _).alloc _).trans g_w16 | exact (Grew.refl _).drew.trans g_w16 | exact ((Grew.refl _).alloc _).drew.trans g_w16
    have z_w16 := s_w16.size
    replace X := X.grew s_w16
    clear X0 X1 X2 X3 X4 X5
    have l_X_w16 := X.lt
    replace Y := Y.grew s_w16
    clear Y0 Y1 Y2 Y3 Y4 Y5
    have l_Y_w16 := Y.lt
    replace U := U.grew s_w16
    clear U0 U1 U2 U3 U4 U5
    have l_U_w16 := U.lt
    have V := (Own.new _ _ _).grew g_w16
    have l_V_w16 := V.lt
    obtain ⟨X0, X1, X2, X3, X4, X5⟩ := X.three
    obtain ⟨Y0, Y1, Y2, Y3, Y4, Y5⟩ := Y.three
    obtain ⟨U0, U1, U2, U3, U4, U5⟩ := U.three
    obtain ⟨V0, V1, V2, V3, V4, V5⟩ := V.three
    replace gA := gA.trans s_w16
    replace tp := tp.grew s_w16
    clear g_w16 s_w16
    go_wp2_with fail
    generalize hw_w17 : World.setCell (World.setCell (World.setCell w16 _ _) _ _) _ _ = w17
    have l0_w17 := V.lt
    replace X := X.far3 hw_w17 (by omega)
    clear X0 X1 X2 X3 X4 X5
    have l_X_w17 := X.lt
    replace Y := Y.far3 hw_w17 (by omega)
    clear Y0 Y1 Y2 Y3 Y4 Y5
    have l_Y_w17 := Y.lt
    replace U := U.far3 hw_w17 (by omega)
    clear U0 U1 U2 U3 U4 U5
    have l_U_w17 := U.lt
    replace V := V.store3 hw_w17
    clear V0 V1 V2 V3 V4 V5
    have l_V_w17 := V.lt
    obtain ⟨X0, X1, X2, X3, X4, X5⟩ := X.three
    obtain ⟨Y0, Y1, Y2, Y3, Y4, Y5⟩ := Y.three
    obtain ⟨U0, U1, U2, U3, U4, U5⟩ := U.three
    obtain ⟨V0, V1, V2, V3, V4, V5⟩ := V.three
    replace gA := gA.far3 hw_w17 (by omega)
    replace tp := tp.far3 hw_w17 (by omega)
    have l_tp_w17 := tp.lt
    clear hw_w17 l0_w17
    go_wp2_with fail
    with_reducible refine (awake_any _).mono ?_
    rintro e w18 ⟨rfl, g_w18⟩
    have s_w18 : Grew w17 w18 := by first | exact g_w18 | exact ((Grew.refl _).alloc _).trans g_w18 | exact (((Grew.refl _).alloc _).alloc _).trans g_w18 | exact (Grew.refl _).drew.trans g_w18 | exact ((Grew.refl _).alloc _).drew.trans g_w18
    have z_w18 := s_w18.size
    replace gA := gA.trans s_w18
    replace tp := tp.grew s_w18
    clear g_w18 s_w18
    go_wp2
    go_ret
    exact ⟨rfl, gA⟩
  · have hR' : rightB d v t = false := by simpa using hR
    clear hR
    go_wp2_with fail
    with_reducible refine (check_g _ _ _ _).mono ?_
    rintro e w2 ⟨rfl, g_w2⟩
    have s_w2 : Grew w1 w2 := by first | exact g_w2 | exact ((Grew.refl _).alloc _).trans g_w2 | exact (((Grew.refl _).alloc _).alloc _).trans g_w2 | exact (Grew.refl _).drew.trans g_w2 | exact ((Grew.refl _).alloc _).drew.trans g_w2
    have z_w2 := s_w2.size
    replace gA := gA.trans s_w2
    replace tp := tp.grew s_w2
    clear g_w2 s_w2
    go_wp2_with fail
    with_reducible refine (awake_any _).mono ?_
    rintro e w3 ⟨rfl, g_w3⟩
    have s_w3 : Grew w2 w3 := by first | exact g_w3 | exact ((Grew.refl _).alloc _).trans g_w3 | exact (((Grew.refl _).alloc _).alloc _).trans g_w3 | exact (Grew.refl _).drew.trans g_w3 | exact ((Grew.refl _).alloc _).drew.trans g_w3
    have z_w3 := s_w3.size
    replace gA := gA.trans s_w3
    replace tp := tp.grew s_w3
    clear g_w3 s_w3
    go_wp2
    go_ret
    exact ⟨rfl, gA⟩

theorem Try.own : ownKnob Try.prog.godebug = none := by kernel_rfl
theorem Try.laidOut : laidOutB Try.prog = true := by kernel_rfl

theorem pageExchange_contract (W : World) (base : Nat) (args : Array Value) (H : Type) (enc : TypeId × Value → H) (ds : List (DataW H)) (p : List MemPlace)
    (hval : ∀ (j : Nat) t v, Try.f7.params[j]? = some t → args[j]? = some v → Value.okWide Try.prog W .any base t v)
    (hA : DataW.TrodAll enc Try.prog W 0 (fun _ => true) true Try.f7.params.toList args.toList ds p) :
    (∃ d, ds = [d]) ∧ Calls Try.prog 7 args W fun e W' => e = .returned (.bool true) ∧ Below W.heap.size W W' := by
  rw [Try.params7] at hval hA
  obtain ⟨v, d, h1, h2, h3⟩ := one_arg hA
  subst h1 h2
  obtain ⟨A, c, xs, rfl, hr, hm⟩ := open_introw Try.underlying22 Try.underlying3 (by kernel_rfl) (hval 0 _ _ rfl rfl) h3
  exact ⟨⟨_, rfl⟩, (exch_core A c xs W hr hm).mono fun _ _ h => h⟩

set_option maxRecDepth 100000 in
theorem pageExchange_lifted (os : Os) (started : os.Started) (H : Type) (enc : TypeId × Value → H) :
    ReturnsInHanded {} Try.checked os 7 .any (Rows.pageExchangeSpec.pre6 enc Try.prog Try.f7 Rows.pageExchangeRow.domain false) (Rows.pageExchangeSpec.post enc Try.prog Try.f7 false true false false) := by
  refine returnsInHanded_of_change (C := Try.checked) Try.own started (by kernel_rfl) Try.func7
    (ChangeSpec.witness6 (enc := enc) (C := Try.checked) false ⟨#[], #[.slice none 0 0], []⟩ 8 (by kernel_rfl) (by kernel_rfl) (by kernel_rfl) (by kernel_rfl)) ?_
  intro W base args ds gs before hval hW _ _
  obtain ⟨p, q, hA, hV, hrest⟩ := id hW
  obtain ⟨⟨d, rfl⟩, hc⟩ := pageExchange_contract W base args H enc ds p hval hA
  obtain ⟨rfl, -⟩ := trodVars_none hV
  refine hc.mono fun e W' ⟨he, hb⟩ => ⟨_, he, ?_⟩
  exact law_close (tb := 4) Try.laidOut (by rw [Try.params7]; decide +kernel) Try.underlying4 rfl rfl hW rfl rfl rfl hb

theorem pageExchange_holds : Rows.PageExchangeSaid :=
  OpenClaim.holds_of_wide 7 Try.f7 rfl rfl rfl rfl rfl rfl rfl ⟨rfl, rfl, rfl, rfl, rfl⟩ rfl rfl rfl rfl rfl (by kernel_rfl) Try.func7 (by kernel_rfl)
    (of_decide_eq_true (by kernel_rfl)) (by unfold Func.isWrapper; first | (rw [if_pos (by decide +kernel)]; kernel_rfl) | (rw [if_neg (by decide +kernel)]; exact ⟨rfl, rfl⟩))
    (fun os started H enc _ => pageExchange_lifted os started H enc)
end Go.Proofs.Ythkhcbkbhnnegaa
