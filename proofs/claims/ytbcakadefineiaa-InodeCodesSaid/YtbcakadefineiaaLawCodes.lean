/- InodeCodes holds: what inodes are as sectors, what is decoded and chosen, and what tears make of sectors, is what the document says. -/
import Derived.Test.YtbcakadefineiaaRefI2
import Derived.Test.YtbcakadefineiaaSector
import Derived.Test.YtbcakadefineiaaAwake3
import Derived.Deep.DrawnRows
namespace Go.Proofs.Ytbcakadefineiaa
attribute [local go_sem ↓] Go.wp_at_zero Go.wp_at_succ
open Go.ChangeShapes Go.WideShapes Go.ChangeAt Go.RowKit Go.Mine

set_option maxRecDepth 100000 in
set_option maxHeartbeats 20000000 in
theorem codes_core (A : Option Addr) (c : Nat) (xs : List Int) (n : Int) (w : World) (hr : IntRow w A xs) (hm : xs.length ≤ maxLen) (hn : (Lit.int .i64 n).wf = true) :
    Calls Try.prog 3 #[.slice A xs.length c, .int .i64 n] w (RetG (.bool true) w) := by
  have tp := Tp.made hr hm c 25
  have gA := Grew.refl w
  have HR := Lib.hid hr
  clear hr hn
  generalize hX : xs.length = X at *
  clear hX
  have hbA : w.heap.size ≤ w.heap.size := Nat.le_refl _
  go_enter Try.func3, Try.ntmps3
  go_wp2_with fail
  with_reducible refine (cut_any _ _ _ (by omega) (by omega)).mono ?_
  rintro e w' ⟨rfl, rfl⟩
  obtain ⟨cF0, cF1⟩ := cut_lt n 10 (by omega)
  generalize cut n 10 = cF at *
  go_wp2_with fail
  with_reducible refine (drawn_x _ _ _ tp (by simp)).mono ?_
  rintro e w1 ⟨q, z, x, rfl, t_w1, g_w1⟩
  have s_w1 : w.grownBy w1 (some (w.heap.size)) := by first | exact g_w1 | exact grown_trans (grown_alloc (grown_refl _ _) _) g_w1 | exact grown_trans (grown_alloc (grown_alloc (grown_refl _ _) _) _) g_w1 | exact grown_trans (grown_drew (grown_refl _ _)) g_w1 | exact grown_trans (grown_drew (grown_alloc (grown_refl _ _) _)) g_w1
  have z_w1 := s_w1.size
  replace gA := gA.past s_w1 hbA
  clear tp
  have tp := t_w1
  have l_tp_w1 := tp.lt
  clear g_w1 s_w1 t_w1
  go_wp2_with fail
  with_reducible refine (cut_any _ _ _ (by omega) (by omega)).mono ?_
  rintro e w' ⟨rfl, rfl⟩
  generalize cut _ 8 = cG at *
  go_wp2_with fail
  with_reducible refine (sector_x _ _ _ _ (tp.alloc _) (by simp; omega)).mono ?_
  rintro e w2 ⟨a, rfl, t_w2, g_w2⟩
  have s_w2 : w1.grownBy w2 (some (w.heap.size)) := by first | exact g_w2 | exact grown_trans (grown_alloc (grown_refl _ _) _) g_w2 | exact grown_trans (grown_alloc (grown_alloc (grown_refl _ _) _) _) g_w2 | exact grown_trans (grown_drew (grown_refl _ _)) g_w2 | exact grown_trans (grown_drew (grown_alloc (grown_refl _ _) _)) g_w2
  have z_w2 := s_w2.size
  have X := (Own.new w1 _ _).past g_w2 (by omega)
  have l_X_w2 := X.lt
  obtain ⟨X0, X1, X2, X3, X4, X5⟩ := X.three
  replace gA := gA.past s_w2 hbA
  clear tp
  have tp := t_w2
  have l_tp_w2 := tp.lt
  clear g_w2 s_w2 t_w2
  go_wp2_with fail
  with_reducible refine (sector_x _ _ _ _ tp (by omega)).mono ?_
  rintro e w3 ⟨b, rfl, t_w3, g_w3⟩
  have s_w3 : w2.grownBy w3 (some (w.heap.size)) := by first | exact g_w3 | exact grown_trans (grown_alloc (grown_refl _ _) _) g_w3 | exact grown_trans (grown_alloc (grown_alloc (grown_refl _ _) _) _) g_w3 | exact grown_trans (grown_drew (grown_refl _ _)) g_w3 | exact grown_trans (grown_drew (grown_alloc (grown_refl _ _) _)) g_w3
  have z_w3 := s_w3.size
  replace X := X.past s_w3 (by omega)
  clear X0 X1 X2 X3 X4 X5
  have l_X_w3 := X.lt
  obtain ⟨X0, X1, X2, X3, X4, X5⟩ := X.three
  replace gA := gA.past s_w3 hbA
  clear tp
  have tp := t_w3
  have l_tp_w3 := tp.lt
  clear g_w3 s_w3 t_w3
  by_cases hfg : cF - 1 = cG
  · have e1 : (cF - 1 != cG) = false := by simpa using hfg
    have HFG := Lib.hid hfg
    clear hfg
    go_wp2_with fail
    with_reducible refine (encode_all _ _ _ _ _).mono ?_
    rintro e w4 ⟨rfl, g_w4⟩
    have s_w4 : Grew w3 w4 := by first | exact g_w4 | exact ((Grew.refl _).alloc _).trans g_w4 | exact (((Grew.refl _).alloc _).alloc _).trans g_w4 | exact (Grew.refl _).drew.trans g_w4 | exact ((Grew.refl _).alloc _).drew.trans g_w4 | exact ((Grew.refl _).drewN _).trans g_w4
    have z_w4 := s_w4.size
    replace X := X.grew s_w4
    clear X0 X1 X2 X3 X4 X5
    have l_X_w4 := X.lt
    obtain ⟨X0, X1, X2, X3, X4, X5⟩ := X.three
    replace gA := gA.trans s_w4
    replace tp := tp.grew s_w4
    clear g_w4 s_w4
    go_wp2_with fail
    with_reducible refine (rEncode_all _ _ _ _ _).mono ?_
    rintro e w5 ⟨rfl, g_w5⟩
    have s_w5 : Grew w4 w5 := by first | exact g_w5 | exact ((Grew.refl _).alloc _).trans g_w5 | exact (((Grew.refl _).alloc _).alloc _).trans g_w5 | exact (Grew.refl _).drew.trans g_w5 | exact ((Grew.refl _).alloc _).drew.trans g_w5 | exact ((Grew.refl _).drewN _).trans g_w5
    have z_w5 := s_w5.size
    replace X := X.grew s_w5
    clear X0 X1 X2 X3 X4 X5
    have l_X_w5 := X.lt
    obtain ⟨X0, X1, X2, X3, X4, X5⟩ := X.three
    replace gA := gA.trans s_w5
    replace tp := tp.grew s_w5
    clear g_w5 s_w5
    go_wp2_with fail
    with_reducible refine (decode_all _ _ _).mono ?_
    rintro e w6 ⟨rfl, g_w6⟩
    have s_w6 : Grew w5 w6 := by first | exact g_w6 | exact ((Grew.refl _).alloc _).trans g_w6 | exact (((Grew.refl _).alloc _).alloc _).trans g_w6 | exact (Grew.refl _).drew.trans g_w6 | exact ((Grew.refl _).alloc _).drew.trans g_w6 | exact ((Grew.refl _).drewN _).trans g_w6
    have z_w6 := s_w6.size
    replace X := X.grew s_w6
    clear X0 X1 X2 X3 X4 X5
    have l_X_w6 := X.lt
    obtain ⟨X0, X1, X2, X3, X4, X5⟩ := X.three
    replace gA := gA.trans s_w6
    replace tp := tp.grew s_w6
    clear g_w6 s_w6
    go_wp2_with fail
    with_reducible refine (rDecode_all _ _ _).mono ?_
    rintro e w7 ⟨rfl, g_w7⟩
    have s_w7 : Grew w6 w7 := by first | exact g_w7 | exact ((Grew.refl _).alloc _).trans g_w7 | exact (((Grew.refl _).alloc _).alloc _).trans g_w7 | exact (Grew.refl _).drew.trans g_w7 | exact ((Grew.refl _).alloc _).drew.trans g_w7 | exact ((Grew.refl _).drewN _).trans g_w7
    have z_w7 := s_w7.size
    replace X := X.grew s_w7
    clear X0 X1 X2 X3 X4 X5
    have l_X_w7 := X.lt
    have A := (Own.new w6 _ _).grew g_w7
    have l_A_w7 := A.lt
    obtain ⟨X0, X1, X2, X3, X4, X5⟩ := X.three
    obtain ⟨A0, A1, A2, A3, A4, A5⟩ := A.three
    replace gA := gA.trans s_w7
    replace tp := tp.grew s_w7
    clear g_w7 s_w7
    go_wp2_with fail
    with_reducible refine (choose_all _ _ _ _).mono ?_
    rintro e w8 ⟨rfl, g_w8⟩
    have s_w8 : Grew w7 w8 := by first | exact g_w8 | exact ((Grew.refl _).alloc _).trans g_w8 | exact (((Grew.refl _).alloc _).alloc _).trans g_w8 | exact (Grew.refl _).drew.trans g_w8 | exact ((Grew.refl _).alloc _).drew.trans g_w8 | exact ((Grew.refl _).drewN _).trans g_w8
    have z_w8 := s_w8.size
    replace X := X.grew s_w8
    clear X0 X1 X2 X3 X4 X5
    have l_X_w8 := X.lt
    replace A := A.grew s_w8
    clear A0 A1 A2 A3 A4 A5
    have l_A_w8 := A.lt
    have B := (Own.new w7 _ _).grew g_w8
    have l_B_w8 := B.lt
    obtain ⟨X0, X1, X2, X3, X4, X5⟩ := X.three
    obtain ⟨A0, A1, A2, A3, A4, A5⟩ := A.three
    obtain ⟨B0, B1, B2, B3, B4, B5⟩ := B.three
    replace gA := gA.trans s_w8
    replace tp := tp.grew s_w8
    clear g_w8 s_w8
    go_wp2_with fail
    with_reducible refine (rChoose_all _ _ _ _).mono ?_
    rintro e w9 ⟨rfl, g_w9⟩
    have s_w9 : Grew w8 w9 := by first | exact g_w9 | exact ((Grew.refl _).alloc _).trans g_w9 | exact (((Grew.refl _).alloc _).alloc _).trans g_w9 | exact (Grew.refl _).drew.trans g_w9 | exact ((Grew.refl _).alloc _).drew.trans g_w9 | exact ((Grew.refl _).drewN _).trans g_w9
    have z_w9 := s_w9.size
    replace X := X.grew s_w9
    clear X0 X1 X2 X3 X4 X5
    have l_X_w9 := X.lt
    replace A := A.grew s_w9
    clear A0 A1 A2 A3 A4 A5
    have l_A_w9 := A.lt
    replace B := B.grew s_w9
    clear B0 B1 B2 B3 B4 B5
    have l_B_w9 := B.lt
    have C := (Own.new w8 _ _).grew g_w9
    have l_C_w9 := C.lt
    obtain ⟨X0, X1, X2, X3, X4, X5⟩ := X.three
    obtain ⟨A0, A1, A2, A3, A4, A5⟩ := A.three
    obtain ⟨B0, B1, B2, B3, B4, B5⟩ := B.three
    obtain ⟨C0, C1, C2, C3, C4, C5⟩ := C.three
    replace gA := gA.trans s_w9
    replace tp := tp.grew s_w9
    clear g_w9 s_w9
    go_wp2_with fail
    with_reducible refine (next_all _ _ _ _).mono ?_
    rintro e w10 ⟨rfl, g_w10⟩
    have s_w10 : Grew w9 w10 := by first | exact g_w10 | exact ((Grew.refl _).alloc _).trans g_w10 | exact (((Grew.refl _).alloc _).alloc _).trans g_w10 | exact (Grew.refl _).drew.trans g_w10 | exact ((Grew.refl _).alloc _).drew.trans g_w10 | exact ((Grew.refl _).drewN _).trans g_w10
    have z_w10 := s_w10.size
    replace X := X.grew s_w10
    clear X0 X1 X2 X3 X4 X5
    have l_X_w10 := X.lt
    replace A := A.grew s_w10
    clear A0 A1 A2 A3 A4 A5
    have l_A_w10 := A.lt
    replace B := B.grew s_w10
    clear B0 B1 B2 B3 B4 B5
    have l_B_w10 := B.lt
    replace C := C.grew s_w10
    clear C0 C1 C2 C3 C4 C5
    have l_C_w10 := C.lt
    have D := (Own.new w9 _ _).grew g_w10
    have l_D_w10 := D.lt
    obtain ⟨X0, X1, X2, X3, X4, X5⟩ := X.three
    obtain ⟨A0, A1, A2, A3, A4, A5⟩ := A.three
    obtain ⟨B0, B1, B2, B3, B4, B5⟩ := B.three
    obtain ⟨C0, C1, C2, C3, C4, C5⟩ := C.three
    obtain ⟨D0, D1, D2, D3, D4, D5⟩ := D.three
    replace gA := gA.trans s_w10
    replace tp := tp.grew s_w10
    clear g_w10 s_w10
    go_wp2_with fail
    with_reducible refine (rNext_all _ _ _ _).mono ?_
    rintro e w11 ⟨rfl, g_w11⟩
    have s_w11 : Grew w10 w11 := by first | exact g_w11 | exact ((Grew.refl _).alloc _).trans g_w11 | exact (((Grew.refl _).alloc _).alloc _).trans g_w11 | exact (Grew.refl _).drew.trans g_w11 | exact ((Grew.refl _).alloc _).drew.trans g_w11 | exact ((Grew.refl _).drewN _).trans g_w11
    have z_w11 := s_w11.size
    replace A := A.grew s_w11
    clear A0 A1 A2 A3 A4 A5
    have l_A_w11 := A.lt
    replace B := B.grew s_w11
    clear B0 B1 B2 B3 B4 B5
    have l_B_w11 := B.lt
    replace C := C.grew s_w11
    clear C0 C1 C2 C3 C4 C5
    have l_C_w11 := C.lt
    replace D := D.grew s_w11
    clear D0 D1 D2 D3 D4 D5
    have l_D_w11 := D.lt
    have E := (Own.new w10 _ _).grew g_w11
    have l_E_w11 := E.lt
    obtain ⟨A0, A1, A2, A3, A4, A5⟩ := A.three
    obtain ⟨B0, B1, B2, B3, B4, B5⟩ := B.three
    obtain ⟨C0, C1, C2, C3, C4, C5⟩ := C.three
    obtain ⟨D0, D1, D2, D3, D4, D5⟩ := D.three
    obtain ⟨E0, E1, E2, E3, E4, E5⟩ := E.three
    replace gA := gA.trans s_w11
    replace tp := tp.grew s_w11
    clear g_w11 s_w11
    go_wp2_with fail
    with_reducible refine (next_x _ _ _ _ (by omega) (by omega) (tp.alloc _)).mono ?_
    rintro e w12 ⟨h, h0, h1, rfl, t_w12, g_w12⟩
    have s_w12 : w11.grownBy w12 (some (w.heap.size)) := by first | exact g_w12 | exact grown_trans (grown_alloc (grown_refl _ _) _) g_w12 | exact grown_trans (grown_alloc (grown_alloc (grown_refl _ _) _) _) g_w12 | exact grown_trans (grown_drew (grown_refl _ _)) g_w12 | exact grown_trans (grown_drew (grown_alloc (grown_refl _ _) _)) g_w12
    have z_w12 := s_w12.size
    replace A := A.past s_w12 (by omega)
    clear A0 A1 A2 A3 A4 A5
    have l_A_w12 := A.lt
    replace B := B.past s_w12 (by omega)
    clear B0 B1 B2 B3 B4 B5
    have l_B_w12 := B.lt
    replace C := C.past s_w12 (by omega)
    clear C0 C1 C2 C3 C4 C5
    have l_C_w12 := C.lt
    replace D := D.past s_w12 (by omega)
    clear D0 D1 D2 D3 D4 D5
    have l_D_w12 := D.lt
    replace E := E.past s_w12 (by omega)
    clear E0 E1 E2 E3 E4 E5
    have l_E_w12 := E.lt
    have F := (Own.new w11 _ _).past g_w12 (by omega)
    have l_F_w12 := F.lt
    obtain ⟨A0, A1, A2, A3, A4, A5⟩ := A.three
    obtain ⟨B0, B1, B2, B3, B4, B5⟩ := B.three
    obtain ⟨C0, C1, C2, C3, C4, C5⟩ := C.three
    obtain ⟨D0, D1, D2, D3, D4, D5⟩ := D.three
    obtain ⟨E0, E1, E2, E3, E4, E5⟩ := E.three
    obtain ⟨F0, F1, F2, F3, F4, F5⟩ := F.three
    replace gA := gA.past s_w12 hbA
    clear tp
    have tp := t_w12
    have l_tp_w12 := tp.lt
    clear g_w12 s_w12 t_w12
    clear tp
    go_wp2_with fail
    with_reducible refine (torn_all _ _ _ _).mono ?_
    rintro e w13 ⟨rfl, g_w13⟩
    have s_w13 : Grew w12 w13 := by first | exact g_w13 | exact ((Grew.refl _).alloc _).trans g_w13 | exact (((Grew.refl _).alloc _).alloc _).trans g_w13 | exact (Grew.refl _).drew.trans g_w13 | exact ((Grew.refl _).alloc _).drew.trans g_w13 | exact ((Grew.refl _).drewN _).trans g_w13
    have z_w13 := s_w13.size
    replace A := A.grew s_w13
    clear A0 A1 A2 A3 A4 A5
    have l_A_w13 := A.lt
    replace B := B.grew s_w13
    clear B0 B1 B2 B3 B4 B5
    have l_B_w13 := B.lt
    replace C := C.grew s_w13
    clear C0 C1 C2 C3 C4 C5
    have l_C_w13 := C.lt
    replace D := D.grew s_w13
    clear D0 D1 D2 D3 D4 D5
    have l_D_w13 := D.lt
    replace E := E.grew s_w13
    clear E0 E1 E2 E3 E4 E5
    have l_E_w13 := E.lt
    replace F := F.grew s_w13
    clear F0 F1 F2 F3 F4 F5
    have l_F_w13 := F.lt
    obtain ⟨A0, A1, A2, A3, A4, A5⟩ := A.three
    obtain ⟨B0, B1, B2, B3, B4, B5⟩ := B.three
    obtain ⟨C0, C1, C2, C3, C4, C5⟩ := C.three
    obtain ⟨D0, D1, D2, D3, D4, D5⟩ := D.three
    obtain ⟨E0, E1, E2, E3, E4, E5⟩ := E.three
    obtain ⟨F0, F1, F2, F3, F4, F5⟩ := F.three
    replace gA := gA.trans s_w13
    clear g_w13 s_w13
    go_wp2_with fail
    with_reducible refine (rTorn_all _ _ _ _).mono ?_
    rintro e w14 ⟨rfl, g_w14⟩
    have s_w14 : Grew w13 w14 := by first | exact g_w14 | exact ((Grew.refl _).alloc _).trans g_w14 | exact (((Grew.refl _).alloc _).alloc _).trans g_w14 | exact (Grew.refl _).drew.trans g_w14 | exact ((Grew.refl _).alloc _).drew.trans g_w14 | exact ((Grew.refl _).drewN _).trans g_w14
    have z_w14 := s_w14.size
    replace A := A.grew s_w14
    clear A0 A1 A2 A3 A4 A5
    have l_A_w14 := A.lt
    replace B := B.grew s_w14
    clear B0 B1 B2 B3 B4 B5
    have l_B_w14 := B.lt
    replace C := C.grew s_w14
    clear C0 C1 C2 C3 C4 C5
    have l_C_w14 := C.lt
    replace D := D.grew s_w14
    clear D0 D1 D2 D3 D4 D5
    have l_D_w14 := D.lt
    replace E := E.grew s_w14
    clear E0 E1 E2 E3 E4 E5
    have l_E_w14 := E.lt
    replace F := F.grew s_w14
    clear F0 F1 F2 F3 F4 F5
    have l_F_w14 := F.lt
    obtain ⟨A0, A1, A2, A3, A4, A5⟩ := A.three
    obtain ⟨B0, B1, B2, B3, B4, B5⟩ := B.three
    obtain ⟨C0, C1, C2, C3, C4, C5⟩ := C.three
    obtain ⟨D0, D1, D2, D3, D4, D5⟩ := D.three
    obtain ⟨E0, E1, E2, E3, E4, E5⟩ := E.three
    obtain ⟨F0, F1, F2, F3, F4, F5⟩ := F.three
    replace gA := gA.trans s_w14
    clear g_w14 s_w14
    go_wp2_with fail
    with_reducible refine (awake_any _).mono ?_
    rintro e w15 ⟨rfl, g_w15⟩
    have s_w15 : Grew w14 w15 := by first | exact g_w15 | exact ((Grew.refl _).alloc _).trans g_w15 | exact (((Grew.refl _).alloc _).alloc _).trans g_w15 | exact (Grew.refl _).drew.trans g_w15 | exact ((Grew.refl _).alloc _).drew.trans g_w15 | exact ((Grew.refl _).drewN _).trans g_w15
    have z_w15 := s_w15.size
    replace A := A.grew s_w15
    clear A0 A1 A2 A3 A4 A5
    have l_A_w15 := A.lt
    replace B := B.grew s_w15
    clear B0 B1 B2 B3 B4 B5
    have l_B_w15 := B.lt
    replace C := C.grew s_w15
    clear C0 C1 C2 C3 C4 C5
    have l_C_w15 := C.lt
    replace D := D.grew s_w15
    clear D0 D1 D2 D3 D4 D5
    have l_D_w15 := D.lt
    replace E := E.grew s_w15
    clear E0 E1 E2 E3 E4 E5
    have l_E_w15 := E.lt
    replace F := F.grew s_w15
    clear F0 F1 F2 F3 F4 F5
    have l_F_w15 := F.lt
    obtain ⟨A0, A1, A2, A3, A4, A5⟩ := A.three
    obtain ⟨B0, B1, B2, B3, B4, B5⟩ := B.three
    obtain ⟨C0, C1, C2, C3, C4, C5⟩ := C.three
    obtain ⟨D0, D1, D2, D3, D4, D5⟩ := D.three
    obtain ⟨E0, E1, E2, E3, E4, E5⟩ := E.three
    obtain ⟨F0, F1, F2, F3, F4, F5⟩ := F.three
    replace gA := gA.trans s_w15
    clear g_w15 s_w15
    go_wp2
    go_ret
    exact ⟨rfl, gA⟩
  · have e1 : (cF - 1 != cG) = true := by simpa using hfg
    clear hfg
    go_wp2_with fail
    with_reducible refine (cut_any _ _ _ (by omega) (by omega)).mono ?_
    rintro e w' ⟨rfl, rfl⟩
    generalize cut n 3 = c3 at *
    by_cases h3 : 0 < c3
    · skip
      go_wp2_with fail
      with_reducible refine (encode_all _ _ _ _ _).mono ?_
      rintro e w4 ⟨rfl, g_w4⟩
      have s_w4 : Grew w3 w4 := by first | exact g_w4 | exact ((Grew.refl _).alloc _).trans g_w4 | exact (((Grew.refl _).alloc _).alloc _).trans g_w4 | exact (Grew.refl _).drew.trans g_w4 | exact ((Grew.refl _).alloc _).drew.trans g_w4 | exact ((Grew.refl _).drewN _).trans g_w4
      have z_w4 := s_w4.size
      replace X := X.grew s_w4
      clear X0 X1 X2 X3 X4 X5
      have l_X_w4 := X.lt
      obtain ⟨X0, X1, X2, X3, X4, X5⟩ := X.three
      replace gA := gA.trans s_w4
      replace tp := tp.grew s_w4
      clear g_w4 s_w4
      go_wp2_with fail
      with_reducible refine (rEncode_all _ _ _ _ _).mono ?_
      rintro e w5 ⟨rfl, g_w5⟩
      have s_w5 : Grew w4 w5 := by first | exact g_w5 | exact ((Grew.refl _).alloc _).trans g_w5 | exact (((Grew.refl _).alloc _).alloc _).trans g_w5 | exact (Grew.refl _).drew.trans g_w5 | exact ((Grew.refl _).alloc _).drew.trans g_w5 | exact ((Grew.refl _).drewN _).trans g_w5
      have z_w5 := s_w5.size
      replace X := X.grew s_w5
      clear X0 X1 X2 X3 X4 X5
      have l_X_w5 := X.lt
      obtain ⟨X0, X1, X2, X3, X4, X5⟩ := X.three
      replace gA := gA.trans s_w5
      replace tp := tp.grew s_w5
      clear g_w5 s_w5
      go_wp2_with fail
      with_reducible refine (decode_all _ _ _).mono ?_
      rintro e w6 ⟨rfl, g_w6⟩
      have s_w6 : Grew w5 w6 := by first | exact g_w6 | exact ((Grew.refl _).alloc _).trans g_w6 | exact (((Grew.refl _).alloc _).alloc _).trans g_w6 | exact (Grew.refl _).drew.trans g_w6 | exact ((Grew.refl _).alloc _).drew.trans g_w6 | exact ((Grew.refl _).drewN _).trans g_w6
      have z_w6 := s_w6.size
      replace X := X.grew s_w6
      clear X0 X1 X2 X3 X4 X5
      have l_X_w6 := X.lt
      obtain ⟨X0, X1, X2, X3, X4, X5⟩ := X.three
      replace gA := gA.trans s_w6
      replace tp := tp.grew s_w6
      clear g_w6 s_w6
      go_wp2_with fail
      with_reducible refine (rDecode_all _ _ _).mono ?_
      rintro e w7 ⟨rfl, g_w7⟩
      have s_w7 : Grew w6 w7 := by first | exact g_w7 | exact ((Grew.refl _).alloc _).trans g_w7 | exact (((Grew.refl _).alloc _).alloc _).trans g_w7 | exact (Grew.refl _).drew.trans g_w7 | exact ((Grew.refl _).alloc _).drew.trans g_w7 | exact ((Grew.refl _).drewN _).trans g_w7
      have z_w7 := s_w7.size
      replace X := X.grew s_w7
      clear X0 X1 X2 X3 X4 X5
      have l_X_w7 := X.lt
      have A := (Own.new w6 _ _).grew g_w7
      have l_A_w7 := A.lt
      obtain ⟨X0, X1, X2, X3, X4, X5⟩ := X.three
      obtain ⟨A0, A1, A2, A3, A4, A5⟩ := A.three
      replace gA := gA.trans s_w7
      replace tp := tp.grew s_w7
      clear g_w7 s_w7
      go_wp2_with fail
      with_reducible refine (choose_all _ _ _ _).mono ?_
      rintro e w8 ⟨rfl, g_w8⟩
      have s_w8 : Grew w7 w8 := by first | exact g_w8 | exact ((Grew.refl _).alloc _).trans g_w8 | exact (((Grew.refl _).alloc _).alloc _).trans g_w8 | exact (Grew.refl _).drew.trans g_w8 | exact ((Grew.refl _).alloc _).drew.trans g_w8 | exact ((Grew.refl _).drewN _).trans g_w8
      have z_w8 := s_w8.size
      replace X := X.grew s_w8
      clear X0 X1 X2 X3 X4 X5
      have l_X_w8 := X.lt
      replace A := A.grew s_w8
      clear A0 A1 A2 A3 A4 A5
      have l_A_w8 := A.lt
      have B := (Own.new w7 _ _).grew g_w8
      have l_B_w8 := B.lt
      obtain ⟨X0, X1, X2, X3, X4, X5⟩ := X.three
      obtain ⟨A0, A1, A2, A3, A4, A5⟩ := A.three
      obtain ⟨B0, B1, B2, B3, B4, B5⟩ := B.three
      replace gA := gA.trans s_w8
      replace tp := tp.grew s_w8
      clear g_w8 s_w8
      go_wp2_with fail
      with_reducible refine (rChoose_all _ _ _ _).mono ?_
      rintro e w9 ⟨rfl, g_w9⟩
      have s_w9 : Grew w8 w9 := by first | exact g_w9 | exact ((Grew.refl _).alloc _).trans g_w9 | exact (((Grew.refl _).alloc _).alloc _).trans g_w9 | exact (Grew.refl _).drew.trans g_w9 | exact ((Grew.refl _).alloc _).drew.trans g_w9 | exact ((Grew.refl _).drewN _).trans g_w9
      have z_w9 := s_w9.size
      replace X := X.grew s_w9
      clear X0 X1 X2 X3 X4 X5
      have l_X_w9 := X.lt
      replace A := A.grew s_w9
      clear A0 A1 A2 A3 A4 A5
      have l_A_w9 := A.lt
      replace B := B.grew s_w9
      clear B0 B1 B2 B3 B4 B5
      have l_B_w9 := B.lt
      have C := (Own.new w8 _ _).grew g_w9
      have l_C_w9 := C.lt
      obtain ⟨X0, X1, X2, X3, X4, X5⟩ := X.three
      obtain ⟨A0, A1, A2, A3, A4, A5⟩ := A.three
      obtain ⟨B0, B1, B2, B3, B4, B5⟩ := B.three
      obtain ⟨C0, C1, C2, C3, C4, C5⟩ := C.three
      replace gA := gA.trans s_w9
      replace tp := tp.grew s_w9
      clear g_w9 s_w9
      go_wp2_with fail
      with_reducible refine (next_all _ _ _ _).mono ?_
      rintro e w10 ⟨rfl, g_w10⟩
      have s_w10 : Grew w9 w10 := by first | exact g_w10 | exact ((Grew.refl _).alloc _).trans g_w10 | exact (((Grew.refl _).alloc _).alloc _).trans g_w10 | exact (Grew.refl _).drew.trans g_w10 | exact ((Grew.refl _).alloc _).drew.trans g_w10 | exact ((Grew.refl _).drewN _).trans g_w10
      have z_w10 := s_w10.size
      replace X := X.grew s_w10
      clear X0 X1 X2 X3 X4 X5
      have l_X_w10 := X.lt
      replace A := A.grew s_w10
      clear A0 A1 A2 A3 A4 A5
      have l_A_w10 := A.lt
      replace B := B.grew s_w10
      clear B0 B1 B2 B3 B4 B5
      have l_B_w10 := B.lt
      replace C := C.grew s_w10
      clear C0 C1 C2 C3 C4 C5
      have l_C_w10 := C.lt
      have D := (Own.new w9 _ _).grew g_w10
      have l_D_w10 := D.lt
      obtain ⟨X0, X1, X2, X3, X4, X5⟩ := X.three
      obtain ⟨A0, A1, A2, A3, A4, A5⟩ := A.three
      obtain ⟨B0, B1, B2, B3, B4, B5⟩ := B.three
      obtain ⟨C0, C1, C2, C3, C4, C5⟩ := C.three
      obtain ⟨D0, D1, D2, D3, D4, D5⟩ := D.three
      replace gA := gA.trans s_w10
      replace tp := tp.grew s_w10
      clear g_w10 s_w10
      go_wp2_with fail
      with_reducible refine (rNext_all _ _ _ _).mono ?_
      rintro e w11 ⟨rfl, g_w11⟩
      have s_w11 : Grew w10 w11 := by first | exact g_w11 | exact ((Grew.refl _).alloc _).trans g_w11 | exact (((Grew.refl _).alloc _).alloc _).trans g_w11 | exact (Grew.refl _).drew.trans g_w11 | exact ((Grew.refl _).alloc _).drew.trans g_w11 | exact ((Grew.refl _).drewN _).trans g_w11
      have z_w11 := s_w11.size
      replace A := A.grew s_w11
      clear A0 A1 A2 A3 A4 A5
      have l_A_w11 := A.lt
      replace B := B.grew s_w11
      clear B0 B1 B2 B3 B4 B5
      have l_B_w11 := B.lt
      replace C := C.grew s_w11
      clear C0 C1 C2 C3 C4 C5
      have l_C_w11 := C.lt
      replace D := D.grew s_w11
      clear D0 D1 D2 D3 D4 D5
      have l_D_w11 := D.lt
      have E := (Own.new w10 _ _).grew g_w11
      have l_E_w11 := E.lt
      obtain ⟨A0, A1, A2, A3, A4, A5⟩ := A.three
      obtain ⟨B0, B1, B2, B3, B4, B5⟩ := B.three
      obtain ⟨C0, C1, C2, C3, C4, C5⟩ := C.three
      obtain ⟨D0, D1, D2, D3, D4, D5⟩ := D.three
      obtain ⟨E0, E1, E2, E3, E4, E5⟩ := E.three
      replace gA := gA.trans s_w11
      replace tp := tp.grew s_w11
      clear g_w11 s_w11
      go_wp2_with fail
      with_reducible refine (next_x _ _ _ _ (by omega) (by omega) (tp.alloc _)).mono ?_
      rintro e w12 ⟨h, h0, h1, rfl, t_w12, g_w12⟩
      have s_w12 : w11.grownBy w12 (some (w.heap.size)) := by first | exact g_w12 | exact grown_trans (grown_alloc (grown_refl _ _) _) g_w12 | exact grown_trans (grown_alloc (grown_alloc (grown_refl _ _) _) _) g_w12 | exact grown_trans (grown_drew (grown_refl _ _)) g_w12 | exact grown_trans (grown_drew (grown_alloc (grown_refl _ _) _)) g_w12
      have z_w12 := s_w12.size
      replace A := A.past s_w12 (by omega)
      clear A0 A1 A2 A3 A4 A5
      have l_A_w12 := A.lt
      replace B := B.past s_w12 (by omega)
      clear B0 B1 B2 B3 B4 B5
      have l_B_w12 := B.lt
      replace C := C.past s_w12 (by omega)
      clear C0 C1 C2 C3 C4 C5
      have l_C_w12 := C.lt
      replace D := D.past s_w12 (by omega)
      clear D0 D1 D2 D3 D4 D5
      have l_D_w12 := D.lt
      replace E := E.past s_w12 (by omega)
      clear E0 E1 E2 E3 E4 E5
      have l_E_w12 := E.lt
      have F := (Own.new w11 _ _).past g_w12 (by omega)
      have l_F_w12 := F.lt
      obtain ⟨A0, A1, A2, A3, A4, A5⟩ := A.three
      obtain ⟨B0, B1, B2, B3, B4, B5⟩ := B.three
      obtain ⟨C0, C1, C2, C3, C4, C5⟩ := C.three
      obtain ⟨D0, D1, D2, D3, D4, D5⟩ := D.three
      obtain ⟨E0, E1, E2, E3, E4, E5⟩ := E.three
      obtain ⟨F0, F1, F2, F3, F4, F5⟩ := F.three
      replace gA := gA.past s_w12 hbA
      clear tp
      have tp := t_w12
      have l_tp_w12 := tp.lt
      clear g_w12 s_w12 t_w12
      clear tp
      go_wp2_with fail
      with_reducible refine (torn_all _ _ _ _).mono ?_
      rintro e w13 ⟨rfl, g_w13⟩
      have s_w13 : Grew w12 w13 := by first | exact g_w13 | exact ((Grew.refl _).alloc _).trans g_w13 | exact (((Grew.refl _).alloc _).alloc _).trans g_w13 | exact (Grew.refl _).drew.trans g_w13 | exact ((Grew.refl _).alloc _).drew.trans g_w13 | exact ((Grew.refl _).drewN _).trans g_w13
      have z_w13 := s_w13.size
      replace A := A.grew s_w13
      clear A0 A1 A2 A3 A4 A5
      have l_A_w13 := A.lt
      replace B := B.grew s_w13
      clear B0 B1 B2 B3 B4 B5
      have l_B_w13 := B.lt
      replace C := C.grew s_w13
      clear C0 C1 C2 C3 C4 C5
      have l_C_w13 := C.lt
      replace D := D.grew s_w13
      clear D0 D1 D2 D3 D4 D5
      have l_D_w13 := D.lt
      replace E := E.grew s_w13
      clear E0 E1 E2 E3 E4 E5
      have l_E_w13 := E.lt
      replace F := F.grew s_w13
      clear F0 F1 F2 F3 F4 F5
      have l_F_w13 := F.lt
      obtain ⟨A0, A1, A2, A3, A4, A5⟩ := A.three
      obtain ⟨B0, B1, B2, B3, B4, B5⟩ := B.three
      obtain ⟨C0, C1, C2, C3, C4, C5⟩ := C.three
      obtain ⟨D0, D1, D2, D3, D4, D5⟩ := D.three
      obtain ⟨E0, E1, E2, E3, E4, E5⟩ := E.three
      obtain ⟨F0, F1, F2, F3, F4, F5⟩ := F.three
      replace gA := gA.trans s_w13
      clear g_w13 s_w13
      go_wp2_with fail
      with_reducible refine (rTorn_all _ _ _ _).mono ?_
      rintro e w14 ⟨rfl, g_w14⟩
      have s_w14 : Grew w13 w14 := by first | exact g_w14 | exact ((Grew.refl _).alloc _).trans g_w14 | exact (((Grew.refl _).alloc _).alloc _).trans g_w14 | exact (Grew.refl _).drew.trans g_w14 | exact ((Grew.refl _).alloc _).drew.trans g_w14 | exact ((Grew.refl _).drewN _).trans g_w14
      have z_w14 := s_w14.size
      replace A := A.grew s_w14
      clear A0 A1 A2 A3 A4 A5
      have l_A_w14 := A.lt
      replace B := B.grew s_w14
      clear B0 B1 B2 B3 B4 B5
      have l_B_w14 := B.lt
      replace C := C.grew s_w14
      clear C0 C1 C2 C3 C4 C5
      have l_C_w14 := C.lt
      replace D := D.grew s_w14
      clear D0 D1 D2 D3 D4 D5
      have l_D_w14 := D.lt
      replace E := E.grew s_w14
      clear E0 E1 E2 E3 E4 E5
      have l_E_w14 := E.lt
      replace F := F.grew s_w14
      clear F0 F1 F2 F3 F4 F5
      have l_F_w14 := F.lt
      obtain ⟨A0, A1, A2, A3, A4, A5⟩ := A.three
      obtain ⟨B0, B1, B2, B3, B4, B5⟩ := B.three
      obtain ⟨C0, C1, C2, C3, C4, C5⟩ := C.three
      obtain ⟨D0, D1, D2, D3, D4, D5⟩ := D.three
      obtain ⟨E0, E1, E2, E3, E4, E5⟩ := E.three
      obtain ⟨F0, F1, F2, F3, F4, F5⟩ := F.three
      replace gA := gA.trans s_w14
      clear g_w14 s_w14
      go_wp2_with fail
      with_reducible refine (awake_any _).mono ?_
      rintro e w15 ⟨rfl, g_w15⟩
      have s_w15 : Grew w14 w15 := by first | exact g_w15 | exact ((Grew.refl _).alloc _).trans g_w15 | exact (((Grew.refl _).alloc _).alloc _).trans g_w15 | exact (Grew.refl _).drew.trans g_w15 | exact ((Grew.refl _).alloc _).drew.trans g_w15 | exact ((Grew.refl _).drewN _).trans g_w15
      have z_w15 := s_w15.size
      replace A := A.grew s_w15
      clear A0 A1 A2 A3 A4 A5
      have l_A_w15 := A.lt
      replace B := B.grew s_w15
      clear B0 B1 B2 B3 B4 B5
      have l_B_w15 := B.lt
      replace C := C.grew s_w15
      clear C0 C1 C2 C3 C4 C5
      have l_C_w15 := C.lt
      replace D := D.grew s_w15
      clear D0 D1 D2 D3 D4 D5
      have l_D_w15 := D.lt
      replace E := E.grew s_w15
      clear E0 E1 E2 E3 E4 E5
      have l_E_w15 := E.lt
      replace F := F.grew s_w15
      clear F0 F1 F2 F3 F4 F5
      have l_F_w15 := F.lt
      obtain ⟨A0, A1, A2, A3, A4, A5⟩ := A.three
      obtain ⟨B0, B1, B2, B3, B4, B5⟩ := B.three
      obtain ⟨C0, C1, C2, C3, C4, C5⟩ := C.three
      obtain ⟨D0, D1, D2, D3, D4, D5⟩ := D.three
      obtain ⟨E0, E1, E2, E3, E4, E5⟩ := E.three
      obtain ⟨F0, F1, F2, F3, F4, F5⟩ := F.three
      replace gA := gA.trans s_w15
      clear g_w15 s_w15
      go_wp2
      go_ret
      exact ⟨rfl, gA⟩
    · have h4 : c3 ≤ 0 := by omega
      go_wp2_with fail
      with_reducible refine (encode_all _ _ _ _ _).mono ?_
      rintro e w4 ⟨rfl, g_w4⟩
      have s_w4 : Grew w3 w4 := by first | exact g_w4 | exact ((Grew.refl _).alloc _).trans g_w4 | exact (((Grew.refl _).alloc _).alloc _).trans g_w4 | exact (Grew.refl _).drew.trans g_w4 | exact ((Grew.refl _).alloc _).drew.trans g_w4 | exact ((Grew.refl _).drewN _).trans g_w4
      have z_w4 := s_w4.size
      replace X := X.grew s_w4
      clear X0 X1 X2 X3 X4 X5
      have l_X_w4 := X.lt
      obtain ⟨X0, X1, X2, X3, X4, X5⟩ := X.three
      replace gA := gA.trans s_w4
      replace tp := tp.grew s_w4
      clear g_w4 s_w4
      go_wp2_with fail
      with_reducible refine (rEncode_all _ _ _ _ _).mono ?_
      rintro e w5 ⟨rfl, g_w5⟩
      have s_w5 : Grew w4 w5 := by first | exact g_w5 | exact ((Grew.refl _).alloc _).trans g_w5 | exact (((Grew.refl _).alloc _).alloc _).trans g_w5 | exact (Grew.refl _).drew.trans g_w5 | exact ((Grew.refl _).alloc _).drew.trans g_w5 | exact ((Grew.refl _).drewN _).trans g_w5
      have z_w5 := s_w5.size
      replace X := X.grew s_w5
      clear X0 X1 X2 X3 X4 X5
      have l_X_w5 := X.lt
      obtain ⟨X0, X1, X2, X3, X4, X5⟩ := X.three
      replace gA := gA.trans s_w5
      replace tp := tp.grew s_w5
      clear g_w5 s_w5
      go_wp2_with fail
      with_reducible refine (decode_all _ _ _).mono ?_
      rintro e w6 ⟨rfl, g_w6⟩
      have s_w6 : Grew w5 w6 := by first | exact g_w6 | exact ((Grew.refl _).alloc _).trans g_w6 | exact (((Grew.refl _).alloc _).alloc _).trans g_w6 | exact (Grew.refl _).drew.trans g_w6 | exact ((Grew.refl _).alloc _).drew.trans g_w6 | exact ((Grew.refl _).drewN _).trans g_w6
      have z_w6 := s_w6.size
      replace X := X.grew s_w6
      clear X0 X1 X2 X3 X4 X5
      have l_X_w6 := X.lt
      obtain ⟨X0, X1, X2, X3, X4, X5⟩ := X.three
      replace gA := gA.trans s_w6
      replace tp := tp.grew s_w6
      clear g_w6 s_w6
      go_wp2_with fail
      with_reducible refine (rDecode_all _ _ _).mono ?_
      rintro e w7 ⟨rfl, g_w7⟩
      have s_w7 : Grew w6 w7 := by first | exact g_w7 | exact ((Grew.refl _).alloc _).trans g_w7 | exact (((Grew.refl _).alloc _).alloc _).trans g_w7 | exact (Grew.refl _).drew.trans g_w7 | exact ((Grew.refl _).alloc _).drew.trans g_w7 | exact ((Grew.refl _).drewN _).trans g_w7
      have z_w7 := s_w7.size
      replace X := X.grew s_w7
      clear X0 X1 X2 X3 X4 X5
      have l_X_w7 := X.lt
      have A := (Own.new w6 _ _).grew g_w7
      have l_A_w7 := A.lt
      obtain ⟨X0, X1, X2, X3, X4, X5⟩ := X.three
      obtain ⟨A0, A1, A2, A3, A4, A5⟩ := A.three
      replace gA := gA.trans s_w7
      replace tp := tp.grew s_w7
      clear g_w7 s_w7
      go_wp2_with fail
      with_reducible refine (choose_all _ _ _ _).mono ?_
      rintro e w8 ⟨rfl, g_w8⟩
      have s_w8 : Grew w7 w8 := by first | exact g_w8 | exact ((Grew.refl _).alloc _).trans g_w8 | exact (((Grew.refl _).alloc _).alloc _).trans g_w8 | exact (Grew.refl _).drew.trans g_w8 | exact ((Grew.refl _).alloc _).drew.trans g_w8 | exact ((Grew.refl _).drewN _).trans g_w8
      have z_w8 := s_w8.size
      replace X := X.grew s_w8
      clear X0 X1 X2 X3 X4 X5
      have l_X_w8 := X.lt
      replace A := A.grew s_w8
      clear A0 A1 A2 A3 A4 A5
      have l_A_w8 := A.lt
      have B := (Own.new w7 _ _).grew g_w8
      have l_B_w8 := B.lt
      obtain ⟨X0, X1, X2, X3, X4, X5⟩ := X.three
      obtain ⟨A0, A1, A2, A3, A4, A5⟩ := A.three
      obtain ⟨B0, B1, B2, B3, B4, B5⟩ := B.three
      replace gA := gA.trans s_w8
      replace tp := tp.grew s_w8
      clear g_w8 s_w8
      go_wp2_with fail
      with_reducible refine (rChoose_all _ _ _ _).mono ?_
      rintro e w9 ⟨rfl, g_w9⟩
      have s_w9 : Grew w8 w9 := by first | exact g_w9 | exact ((Grew.refl _).alloc _).trans g_w9 | exact (((Grew.refl _).alloc _).alloc _).trans g_w9 | exact (Grew.refl _).drew.trans g_w9 | exact ((Grew.refl _).alloc _).drew.trans g_w9 | exact ((Grew.refl _).drewN _).trans g_w9
      have z_w9 := s_w9.size
      replace X := X.grew s_w9
      clear X0 X1 X2 X3 X4 X5
      have l_X_w9 := X.lt
      replace A := A.grew s_w9
      clear A0 A1 A2 A3 A4 A5
      have l_A_w9 := A.lt
      replace B := B.grew s_w9
      clear B0 B1 B2 B3 B4 B5
      have l_B_w9 := B.lt
      have C := (Own.new w8 _ _).grew g_w9
      have l_C_w9 := C.lt
      obtain ⟨X0, X1, X2, X3, X4, X5⟩ := X.three
      obtain ⟨A0, A1, A2, A3, A4, A5⟩ := A.three
      obtain ⟨B0, B1, B2, B3, B4, B5⟩ := B.three
      obtain ⟨C0, C1, C2, C3, C4, C5⟩ := C.three
      replace gA := gA.trans s_w9
      replace tp := tp.grew s_w9
      clear g_w9 s_w9
      go_wp2_with fail
      with_reducible refine (next_all _ _ _ _).mono ?_
      rintro e w10 ⟨rfl, g_w10⟩
      have s_w10 : Grew w9 w10 := by first | exact g_w10 | exact ((Grew.refl _).alloc _).trans g_w10 | exact (((Grew.refl _).alloc _).alloc _).trans g_w10 | exact (Grew.refl _).drew.trans g_w10 | exact ((Grew.refl _).alloc _).drew.trans g_w10 | exact ((Grew.refl _).drewN _).trans g_w10
      have z_w10 := s_w10.size
      replace X := X.grew s_w10
      clear X0 X1 X2 X3 X4 X5
      have l_X_w10 := X.lt
      replace A := A.grew s_w10
      clear A0 A1 A2 A3 A4 A5
      have l_A_w10 := A.lt
      replace B := B.grew s_w10
      clear B0 B1 B2 B3 B4 B5
      have l_B_w10 := B.lt
      replace C := C.grew s_w10
      clear C0 C1 C2 C3 C4 C5
      have l_C_w10 := C.lt
      have D := (Own.new w9 _ _).grew g_w10
      have l_D_w10 := D.lt
      obtain ⟨X0, X1, X2, X3, X4, X5⟩ := X.three
      obtain ⟨A0, A1, A2, A3, A4, A5⟩ := A.three
      obtain ⟨B0, B1, B2, B3, B4, B5⟩ := B.three
      obtain ⟨C0, C1, C2, C3, C4, C5⟩ := C.three
      obtain ⟨D0, D1, D2, D3, D4, D5⟩ := D.three
      replace gA := gA.trans s_w10
      replace tp := tp.grew s_w10
      clear g_w10 s_w10
      go_wp2_with fail
      with_reducible refine (rNext_all _ _ _ _).mono ?_
      rintro e w11 ⟨rfl, g_w11⟩
      have s_w11 : Grew w10 w11 := by first | exact g_w11 | exact ((Grew.refl _).alloc _).trans g_w11 | exact (((Grew.refl _).alloc _).alloc _).trans g_w11 | exact (Grew.refl _).drew.trans g_w11 | exact ((Grew.refl _).alloc _).drew.trans g_w11 | exact ((Grew.refl _).drewN _).trans g_w11
      have z_w11 := s_w11.size
      replace A := A.grew s_w11
      clear A0 A1 A2 A3 A4 A5
      have l_A_w11 := A.lt
      replace B := B.grew s_w11
      clear B0 B1 B2 B3 B4 B5
      have l_B_w11 := B.lt
      replace C := C.grew s_w11
      clear C0 C1 C2 C3 C4 C5
      have l_C_w11 := C.lt
      replace D := D.grew s_w11
      clear D0 D1 D2 D3 D4 D5
      have l_D_w11 := D.lt
      have E := (Own.new w10 _ _).grew g_w11
      have l_E_w11 := E.lt
      obtain ⟨A0, A1, A2, A3, A4, A5⟩ := A.three
      obtain ⟨B0, B1, B2, B3, B4, B5⟩ := B.three
      obtain ⟨C0, C1, C2, C3, C4, C5⟩ := C.three
      obtain ⟨D0, D1, D2, D3, D4, D5⟩ := D.three
      obtain ⟨E0, E1, E2, E3, E4, E5⟩ := E.three
      replace gA := gA.trans s_w11
      replace tp := tp.grew s_w11
      clear g_w11 s_w11
      go_wp2_with fail
      with_reducible refine (next_x _ _ _ _ (by omega) (by omega) (tp.alloc _)).mono ?_
      rintro e w12 ⟨h, h0, h1, rfl, t_w12, g_w12⟩
      have s_w12 : w11.grownBy w12 (some (w.heap.size)) := by first | exact g_w12 | exact grown_trans (grown_alloc (grown_refl _ _) _) g_w12 | exact grown_trans (grown_alloc (grown_alloc (grown_refl _ _) _) _) g_w12 | exact grown_trans (grown_drew (grown_refl _ _)) g_w12 | exact grown_trans (grown_drew (grown_alloc (grown_refl _ _) _)) g_w12
      have z_w12 := s_w12.size
      replace A := A.past s_w12 (by omega)
      clear A0 A1 A2 A3 A4 A5
      have l_A_w12 := A.lt
      replace B := B.past s_w12 (by omega)
      clear B0 B1 B2 B3 B4 B5
      have l_B_w12 := B.lt
      replace C := C.past s_w12 (by omega)
      clear C0 C1 C2 C3 C4 C5
      have l_C_w12 := C.lt
      replace D := D.past s_w12 (by omega)
      clear D0 D1 D2 D3 D4 D5
      have l_D_w12 := D.lt
      replace E := E.past s_w12 (by omega)
      clear E0 E1 E2 E3 E4 E5
      have l_E_w12 := E.lt
      have F := (Own.new w11 _ _).past g_w12 (by omega)
      have l_F_w12 := F.lt
      obtain ⟨A0, A1, A2, A3, A4, A5⟩ := A.three
      obtain ⟨B0, B1, B2, B3, B4, B5⟩ := B.three
      obtain ⟨C0, C1, C2, C3, C4, C5⟩ := C.three
      obtain ⟨D0, D1, D2, D3, D4, D5⟩ := D.three
      obtain ⟨E0, E1, E2, E3, E4, E5⟩ := E.three
      obtain ⟨F0, F1, F2, F3, F4, F5⟩ := F.three
      replace gA := gA.past s_w12 hbA
      clear tp
      have tp := t_w12
      have l_tp_w12 := tp.lt
      clear g_w12 s_w12 t_w12
      clear tp
      go_wp2_with fail
      with_reducible refine (torn_all _ _ _ _).mono ?_
      rintro e w13 ⟨rfl, g_w13⟩
      have s_w13 : Grew w12 w13 := by first | exact g_w13 | exact ((Grew.refl _).alloc _).trans g_w13 | exact (((Grew.refl _).alloc _).alloc _).trans g_w13 | exact (Grew.refl _).drew.trans g_w13 | exact ((Grew.refl _).alloc _).drew.trans g_w13 | exact ((Grew.refl _).drewN _).trans g_w13
      have z_w13 := s_w13.size
      replace A := A.grew s_w13
      clear A0 A1 A2 A3 A4 A5
      have l_A_w13 := A.lt
      replace B := B.grew s_w13
      clear B0 B1 B2 B3 B4 B5
      have l_B_w13 := B.lt
      replace C := C.grew s_w13
      clear C0 C1 C2 C3 C4 C5
      have l_C_w13 := C.lt
      replace D := D.grew s_w13
      clear D0 D1 D2 D3 D4 D5
      have l_D_w13 := D.lt
      replace E := E.grew s_w13
      clear E0 E1 E2 E3 E4 E5
      have l_E_w13 := E.lt
      replace F := F.grew s_w13
      clear F0 F1 F2 F3 F4 F5
      have l_F_w13 := F.lt
      obtain ⟨A0, A1, A2, A3, A4, A5⟩ := A.three
      obtain ⟨B0, B1, B2, B3, B4, B5⟩ := B.three
      obtain ⟨C0, C1, C2, C3, C4, C5⟩ := C.three
      obtain ⟨D0, D1, D2, D3, D4, D5⟩ := D.three
      obtain ⟨E0, E1, E2, E3, E4, E5⟩ := E.three
      obtain ⟨F0, F1, F2, F3, F4, F5⟩ := F.three
      replace gA := gA.trans s_w13
      clear g_w13 s_w13
      go_wp2_with fail
      with_reducible refine (rTorn_all _ _ _ _).mono ?_
      rintro e w14 ⟨rfl, g_w14⟩
      have s_w14 : Grew w13 w14 := by first | exact g_w14 | exact ((Grew.refl _).alloc _).trans g_w14 | exact (((Grew.refl _).alloc _).alloc _).trans g_w14 | exact (Grew.refl _).drew.trans g_w14 | exact ((Grew.refl _).alloc _).drew.trans g_w14 | exact ((Grew.refl _).drewN _).trans g_w14
      have z_w14 := s_w14.size
      replace A := A.grew s_w14
      clear A0 A1 A2 A3 A4 A5
      have l_A_w14 := A.lt
      replace B := B.grew s_w14
      clear B0 B1 B2 B3 B4 B5
      have l_B_w14 := B.lt
      replace C := C.grew s_w14
      clear C0 C1 C2 C3 C4 C5
      have l_C_w14 := C.lt
      replace D := D.grew s_w14
      clear D0 D1 D2 D3 D4 D5
      have l_D_w14 := D.lt
      replace E := E.grew s_w14
      clear E0 E1 E2 E3 E4 E5
      have l_E_w14 := E.lt
      replace F := F.grew s_w14
      clear F0 F1 F2 F3 F4 F5
      have l_F_w14 := F.lt
      obtain ⟨A0, A1, A2, A3, A4, A5⟩ := A.three
      obtain ⟨B0, B1, B2, B3, B4, B5⟩ := B.three
      obtain ⟨C0, C1, C2, C3, C4, C5⟩ := C.three
      obtain ⟨D0, D1, D2, D3, D4, D5⟩ := D.three
      obtain ⟨E0, E1, E2, E3, E4, E5⟩ := E.three
      obtain ⟨F0, F1, F2, F3, F4, F5⟩ := F.three
      replace gA := gA.trans s_w14
      clear g_w14 s_w14
      go_wp2_with fail
      with_reducible refine (awake_any _).mono ?_
      rintro e w15 ⟨rfl, g_w15⟩
      have s_w15 : Grew w14 w15 := by first | exact g_w15 | exact ((Grew.refl _).alloc _).trans g_w15 | exact (((Grew.refl _).alloc _).alloc _).trans g_w15 | exact (Grew.refl _).drew.trans g_w15 | exact ((Grew.refl _).alloc _).drew.trans g_w15 | exact ((Grew.refl _).drewN _).trans g_w15
      have z_w15 := s_w15.size
      replace A := A.grew s_w15
      clear A0 A1 A2 A3 A4 A5
      have l_A_w15 := A.lt
      replace B := B.grew s_w15
      clear B0 B1 B2 B3 B4 B5
      have l_B_w15 := B.lt
      replace C := C.grew s_w15
      clear C0 C1 C2 C3 C4 C5
      have l_C_w15 := C.lt
      replace D := D.grew s_w15
      clear D0 D1 D2 D3 D4 D5
      have l_D_w15 := D.lt
      replace E := E.grew s_w15
      clear E0 E1 E2 E3 E4 E5
      have l_E_w15 := E.lt
      replace F := F.grew s_w15
      clear F0 F1 F2 F3 F4 F5
      have l_F_w15 := F.lt
      obtain ⟨A0, A1, A2, A3, A4, A5⟩ := A.three
      obtain ⟨B0, B1, B2, B3, B4, B5⟩ := B.three
      obtain ⟨C0, C1, C2, C3, C4, C5⟩ := C.three
      obtain ⟨D0, D1, D2, D3, D4, D5⟩ := D.three
      obtain ⟨E0, E1, E2, E3, E4, E5⟩ := E.three
      obtain ⟨F0, F1, F2, F3, F4, F5⟩ := F.three
      replace gA := gA.trans s_w15
      clear g_w15 s_w15
      go_wp2
      go_ret
      exact ⟨rfl, gA⟩

theorem Try.own : ownKnob Try.prog.godebug = none := by kernel_rfl
theorem Try.laidOut : laidOutB Try.prog = true := by kernel_rfl

theorem inodeCodes_contract (W : World) (base : Nat) (args : Array Value) (H : Type) (enc : TypeId × Value → H) (ds : List (DataW H)) (p : List MemPlace)
    (hval : ∀ (j : Nat) t v, Try.f3.params[j]? = some t → args[j]? = some v → Value.okWide Try.prog W .any base t v)
    (hA : DataW.TrodAll enc Try.prog W 0 (fun _ => true) true Try.f3.params.toList args.toList ds p) :
    (∃ d0 d1, ds = [d0, d1]) ∧ Calls Try.prog 3 args W fun e W' => e = .returned (.bool true) ∧ Below W.heap.size W W' := by
  rw [Try.params3] at hval hA
  obtain ⟨v0, v1, d0, d1, p0, p1, ha, hd, hp, h0, h1⟩ := args_2 hA
  subst ha hd
  obtain ⟨A0, c0, xs0, rfl, hr0, hm0⟩ := open_introw Try.underlying22 Try.underlying3 (by kernel_rfl) (hval 0 _ _ rfl rfl) h0
  obtain ⟨n1, rfl, -, -, hw1⟩ := open_int Try.underlying3 (hval 1 _ _ rfl rfl) h1
  exact ⟨⟨_, _, rfl⟩, (codes_core A0 c0 xs0 n1 W hr0 hm0 hw1).mono fun _ _ h => h⟩

set_option maxRecDepth 100000 in
theorem inodeCodes_lifted (os : Os) (started : os.Started) (H : Type) (enc : TypeId × Value → H) :
    ReturnsInHanded {} Try.checked os 3 .any (Rows.inodeCodesSpec.pre6 enc Try.prog Try.f3 Rows.inodeCodesRow.domain false) (Rows.inodeCodesSpec.post enc Try.prog Try.f3 false true false false) := by
  refine returnsInHanded_of_change (C := Try.checked) Try.own started (by kernel_rfl) Try.func3
    (ChangeSpec.witness6 (enc := enc) (C := Try.checked) false ⟨#[], #[.slice none 0 0, .int .i64 0], []⟩ 8 (by kernel_rfl) (by kernel_rfl) (by kernel_rfl) (by kernel_rfl)) ?_
  intro W base args ds gs before hval hW _ _
  obtain ⟨p, q, hA, hV, hrest⟩ := id hW
  obtain ⟨⟨d0, d1, rfl⟩, hc⟩ := inodeCodes_contract W base args H enc ds p hval hA
  obtain ⟨rfl, -⟩ := trodVars_none hV
  refine hc.mono fun e W' ⟨he, hb⟩ => ⟨_, he, ?_⟩
  exact law_close (tb := 4) Try.laidOut (by rw [Try.params3]; decide +kernel) Try.underlying4 rfl rfl hW rfl rfl rfl hb

theorem inodeCodes_holds : Rows.InodeCodesSaid :=
  OpenClaim.holds_of_wide 3 Try.f3 rfl rfl rfl rfl rfl rfl rfl ⟨rfl, rfl, rfl, rfl, rfl⟩ rfl rfl rfl rfl rfl (by kernel_rfl) Try.func3 (by kernel_rfl)
    (of_decide_eq_true (by kernel_rfl)) (by unfold Func.isWrapper; first | (rw [if_pos (by decide +kernel)]; kernel_rfl) | (rw [if_neg (by decide +kernel)]; exact ⟨rfl, rfl⟩))
    (fun os started H enc _ => inodeCodes_lifted os started H enc)
end Go.Proofs.Ytbcakadefineiaa
