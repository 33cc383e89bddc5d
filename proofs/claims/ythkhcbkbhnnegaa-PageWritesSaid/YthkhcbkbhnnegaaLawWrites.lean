/- PageWrites holds: filling, writing, cleaning and soiling make of a page what the document says, or its error. -/
import Derived.Test.YthkhcbkbhnnegaaRef4
import Derived.Test.YthkhcbkbhnnegaaOdd
import Derived.Test.YthkhcbkbhnnegaaMadePage
import Derived.Test.YthkhcbkbhnnegaaAwake2
import Derived.Deep.DeepCutAuto
namespace Go.Proofs.Ythkhcbkbhnnegaa
open Go.ChangeShapes Go.WideShapes Go.ChangeAt Go.RowKit Go.Mine

/-- What stands behind the choice of the place. -/
def WritesCut (w : World) (b4 : Nat) (d : ByteArray) (v t : Int) (v6 : Value) (wx : World) : Prop :=
  ∃ z : Int, v6 = .int .i64 z ∧ Own wx b4 27 #[.string d, .int .i64 v, .int .i64 t] ∧ Tp (w.heap.size + 1) wx w.heap.size ∧ Grew w wx

set_option maxRecDepth 100000 in
set_option maxHeartbeats 4000000 in
theorem writes_core (A : Option Addr) (c : Nat) (xs : List Int) (w : World) (hr : IntRow w A xs) (hm : xs.length ≤ maxLen) :
    Calls Try.prog 4 #[.slice A xs.length c] w (RetG (.bool true) w) := by
  have tp := Tp.made hr hm c 25
  have gA := Grew.refl w
  have HR := Lib.hid hr
  clear hr
  generalize hX : xs.length = X at *
  clear hX
  have hbA : w.heap.size ≤ w.heap.size := Nat.le_refl _
  go_enter Try.func4, Try.ntmps4
  go_wp2_with fail
  with_reducible refine (madePage_x _ _ _ tp (by simp)).mono ?_
  rintro e w1 ⟨d, v, t, rfl, t_w1, g_w1⟩
  have s_w1 : w.grownBy w1 (some (w.heap.size)) := by first | exact g_w1 | exact grown_trans (grown_alloc (grown_refl _ _) _) g_w1 | exact grown_trans (grown_alloc (grown_alloc (grown_refl _ _) _) _) g_w1 | exact grown_trans (grown_drew (grown_refl _ _)) g_w1 | exact grown_trans (grown_drew (grown_alloc (grown_refl _ _) _)) g_w1
  have z_w1 := s_w1.size
  replace gA := gA.past s_w1 hbA
  clear tp
  have tp := t_w1
  have l_tp_w1 := tp.lt
  clear g_w1 s_w1 t_w1
  go_wp2_with fail
  with_reducible refine (next_x _ _ _ _ (by omega) (by omega) (tp.alloc _)).mono ?_
  rintro e w2 ⟨q2, q20, q21, rfl, t_w2, g_w2⟩
  have s_w2 : w1.grownBy w2 (some (w.heap.size)) := by first | exact g_w2 | exact grown_trans (grown_alloc (grown_refl _ _) _) g_w2 | exact grown_trans (grown_alloc (grown_alloc (grown_refl _ _) _) _) g_w2 | exact grown_trans (grown_drew (grown_refl _ _)) g_w2 | exact grown_trans (grown_drew (grown_alloc (grown_refl _ _) _)) g_w2
  have z_w2 := s_w2.size
  have P := (Own.new w1 _ _).past g_w2 (by omega)
  have l_P_w2 := P.lt
  obtain ⟨P0, P1, P2, P3, P4, P5⟩ := P.three
  replace gA := gA.past s_w2 hbA
  clear tp
  have tp := t_w2
  have l_tp_w2 := tp.lt
  clear g_w2 s_w2 t_w2
  go_wp2_with fail
  with_reducible refine (next_x _ _ _ _ (by omega) (by omega) tp).mono ?_
  rintro e w3 ⟨q3, q30, q31, rfl, t_w3, g_w3⟩
  have s_w3 : w2.grownBy w3 (some (w.heap.size)) := by first | exact g_w3 | exact grown_trans (grown_alloc (grown_refl _ _) _) g_w3 | exact grown_trans (grown_alloc (grown_alloc (grown_refl _ _) _) _) g_w3 | exact grown_trans (grown_drew (grown_refl _ _)) g_w3 | exact grown_trans (grown_drew (grown_alloc (grown_refl _ _) _)) g_w3
  have z_w3 := s_w3.size
  replace P := P.past s_w3 (by omega)
  clear P0 P1 P2 P3 P4 P5
  have l_P_w3 := P.lt
  obtain ⟨P0, P1, P2, P3, P4, P5⟩ := P.three
  replace gA := gA.past s_w3 hbA
  clear tp
  have tp := t_w3
  have l_tp_w3 := tp.lt
  clear g_w3 s_w3 t_w3
  go_wp2_with fail
  with_reducible refine (next_x _ _ _ _ (by omega) (by omega) tp).mono ?_
  rintro e w4 ⟨q4, q40, q41, rfl, t_w4, g_w4⟩
  have s_w4 : w3.grownBy w4 (some (w.heap.size)) := by first | exact g_w4 | exact grown_trans (grown_alloc (grown_refl _ _) _) g_w4 | exact grown_trans (grown_alloc (grown_alloc (grown_refl _ _) _) _) g_w4 | exact grown_trans (grown_drew (grown_refl _ _)) g_w4 | exact grown_trans (grown_drew (grown_alloc (grown_refl _ _) _)) g_w4
  have z_w4 := s_w4.size
  replace P := P.past s_w4 (by omega)
  clear P0 P1 P2 P3 P4 P5
  have l_P_w4 := P.lt
  obtain ⟨P0, P1, P2, P3, P4, P5⟩ := P.three
  replace gA := gA.past s_w4 hbA
  clear tp
  have tp := t_w4
  have l_tp_w4 := tp.lt
  clear g_w4 s_w4 t_w4
  go_upto_if 38 with fail
  go_cut [6] (WritesCut w w1.heap.size d v t)
  case first =>
    by_cases e4 : q4 = 0
    · subst e4
      go_wp2_with fail
      with_reducible refine (odd_x _ _ _ tp (by omega)).mono ?_
      rintro e w5 ⟨z, rfl, t_w5, g_w5⟩
      have s_w5 : w4.grownBy w5 (some (w.heap.size)) := by first | exact g_w5 | exact grown_trans (grown_alloc (grown_refl _ _) _) g_w5 | exact grown_trans (grown_alloc (grown_alloc (grown_refl _ _) _) _) g_w5 | exact grown_trans (grown_drew (grown_refl _ _)) g_w5 | exact grown_trans (grown_drew (grown_alloc (grown_refl _ _) _)) g_w5
      have z_w5 := s_w5.size
      replace P := P.past s_w5 (by omega)
      clear P0 P1 P2 P3 P4 P5
      have l_P_w5 := P.lt
      obtain ⟨P0, P1, P2, P3, P4, P5⟩ := P.three
      replace gA := gA.past s_w5 hbA
      clear tp
      have tp := t_w5
      have l_tp_w5 := tp.lt
      clear g_w5 s_w5 t_w5
      go_wp2_with fail
      go_meet
      exact ⟨z, rfl, P, tp, gA⟩
    · have e5 : (q4 == 0) = false := by simpa using e4
      clear e4
      go_wp2_with fail
      go_meet
      exact ⟨_, rfl, P, tp, gA⟩
  case rest =>
    clear gA tp P P0 P1 P2 P3 P4 P5
    obtain ⟨z, rfl, P, tp, gA⟩ := hcut
    have l_P_wc := P.lt
    obtain ⟨P0, P1, P2, P3, P4, P5⟩ := P.three
    go_wp2_with fail
    with_reducible refine (next_x _ _ _ _ (by omega) (by omega) (tp.alloc _)).mono ?_
    rintro e w6 ⟨q5, q50, q51, rfl, t6, g6⟩
    have S := (Own.new wc _ _).past g6 (by omega)
    have s6 : wc.grownBy w6 (some w.heap.size) := grown_trans (grown_alloc (grown_refl _ _) _) g6
    replace P := P.past s6 (by omega)
    replace gA := gA.past s6 hbA
    have l_P_w6 := P.lt
    clear tp P0 P1 P2 P3 P4 P5 g6 s6
    have tp := t6
    have l_tp_w6 := tp.lt
    clear t6
    obtain ⟨P0, P1, P2, P3, P4, P5⟩ := P.three
    obtain ⟨p5, rfl⟩ := Int.eq_ofNat_of_zero_le q50
    obtain ⟨z5, hc5, hm5⟩ := int_at S (by decide +kernel) p5 (by simp; omega)
    have b5 : 0 ≤ z5 ∧ z5 ≤ 64 := by simp at hm5; omega
    obtain ⟨b50, b51⟩ := b5
    clear S hm5
    go_wp2_with fail
    with_reducible refine (bytes_x _ _ _ _ b50 b51 tp (by omega)).mono ?_
    rintro e w7 ⟨x, -, rfl, t_w7, g_w7⟩
    have s_w7 : w6.grownBy w7 (some (w.heap.size)) := by first | exact g_w7 | exact grown_trans (grown_alloc (grown_refl _ _) _) g_w7 | exact grown_trans (grown_alloc (grown_alloc (grown_refl _ _) _) _) g_w7 | exact grown_trans (grown_drew (grown_refl _ _)) g_w7 | exact grown_trans (grown_drew (grown_alloc (grown_refl _ _) _)) g_w7
    have z_w7 := s_w7.size
    replace P := P.past s_w7 (by omega)
    clear P0 P1 P2 P3 P4 P5
    have l_P_w7 := P.lt
    obtain ⟨P0, P1, P2, P3, P4, P5⟩ := P.three
    replace gA := gA.past s_w7 hbA
    clear tp
    have tp := t_w7
    have l_tp_w7 := tp.lt
    clear g_w7 s_w7 t_w7
    clear hc5
    go_wp2_with fail
    with_reducible refine (next_x _ _ _ _ (by omega) (by omega) tp).mono ?_
    rintro e w8 ⟨q8, q80, q81, rfl, t_w8, g_w8⟩
    have s_w8 : w7.grownBy w8 (some (w.heap.size)) := by first | exact g_w8 | exact grown_trans (grown_alloc (grown_refl _ _) _) g_w8 | exact grown_trans (grown_alloc (grown_alloc (grown_refl _ _) _) _) g_w8 | exact grown_trans (grown_drew (grown_refl _ _)) g_w8 | exact grown_trans (grown_drew (grown_alloc (grown_refl _ _) _)) g_w8
    have z_w8 := s_w8.size
    replace P := P.past s_w8 (by omega)
    clear P0 P1 P2 P3 P4 P5
    have l_P_w8 := P.lt
    obtain ⟨P0, P1, P2, P3, P4, P5⟩ := P.three
    replace gA := gA.past s_w8 hbA
    clear tp
    have tp := t_w8
    have l_tp_w8 := tp.lt
    clear g_w8 s_w8 t_w8
    go_wp2_with fail
    with_reducible refine (bytes_x _ _ _ _ q80 (by omega) tp (by omega)).mono ?_
    rintro e w9 ⟨y, -, rfl, t_w9, g_w9⟩
    have s_w9 : w8.grownBy w9 (some (w.heap.size)) := by first | exact g_w9 | exact grown_trans (grown_alloc (grown_refl _ _) _) g_w9 | exact grown_trans (grown_alloc (grown_alloc (grown_refl _ _) _) _) g_w9 | exact grown_trans (grown_drew (grown_refl _ _)) g_w9 | exact grown_trans (grown_drew (grown_alloc (grown_refl _ _) _)) g_w9
    have z_w9 := s_w9.size
    replace P := P.past s_w9 (by omega)
    clear P0 P1 P2 P3 P4 P5
    have l_P_w9 := P.lt
    obtain ⟨P0, P1, P2, P3, P4, P5⟩ := P.three
    replace gA := gA.past s_w9 hbA
    clear tp
    have tp := t_w9
    have l_tp_w9 := tp.lt
    clear g_w9 s_w9 t_w9
    clear tp
    go_wp2_with fail
    with_reducible refine (fill_all _ _ _ _ _ _).mono ?_
    rintro e w10 ⟨rfl, g_w10⟩
    have s_w10 : Grew w9 w10 := by first | exact g_w10 | exact ((Grew.refl _).alloc _).trans g_w10 | exact (((Grew.refl _).alloc _).alloc _).trans g_w10 | exact (Grew.refl _).drew.trans g_w10 | exact ((Grew.refl _).alloc _).drew.trans g_w10 | exact ((Grew.refl _).drewN _).trans g_w10
    have z_w10 := s_w10.size
    replace P := P.grew s_w10
    clear P0 P1 P2 P3 P4 P5
    have l_P_w10 := P.lt
    obtain ⟨P0, P1, P2, P3, P4, P5⟩ := P.three
    replace gA := gA.trans s_w10
    clear g_w10 s_w10
    go_wp2_with fail
    with_reducible refine (rFill_all _ _ _ _ _ _).mono ?_
    rintro e w11 ⟨rfl, g_w11⟩
    have s_w11 : Grew w10 w11 := by first | exact g_w11 | exact ((Grew.refl _).alloc _).trans g_w11 | exact (((Grew.refl _).alloc _).alloc _).trans g_w11 | exact (Grew.refl _).drew.trans g_w11 | exact ((Grew.refl _).alloc _).drew.trans g_w11 | exact ((Grew.refl _).drewN _).trans g_w11
    have z_w11 := s_w11.size
    replace P := P.grew s_w11
    clear P0 P1 P2 P3 P4 P5
    have l_P_w11 := P.lt
    have A := (Own.new w10 _ _).grew g_w11
    have l_A_w11 := A.lt
    obtain ⟨P0, P1, P2, P3, P4, P5⟩ := P.three
    obtain ⟨A0, A1, A2, A3, A4, A5⟩ := A.three
    replace gA := gA.trans s_w11
    clear g_w11 s_w11
    go_wp2_with fail
    with_reducible refine (write_all _ _ _ _ _ _).mono ?_
    rintro e w12 ⟨rfl, g_w12⟩
    have s_w12 : Grew w11 w12 := by first | exact g_w12 | exact ((Grew.refl _).alloc _).trans g_w12 | exact (((Grew.refl _).alloc _).alloc _).trans g_w12 | exact (Grew.refl _).drew.trans g_w12 | exact ((Grew.refl _).alloc _).drew.trans g_w12 | exact ((Grew.refl _).drewN _).trans g_w12
    have z_w12 := s_w12.size
    replace P := P.grew s_w12
    clear P0 P1 P2 P3 P4 P5
    have l_P_w12 := P.lt
    replace A := A.grew s_w12
    clear A0 A1 A2 A3 A4 A5
    have l_A_w12 := A.lt
    have B := (Own.new w11 _ _).grew g_w12
    have l_B_w12 := B.lt
    obtain ⟨P0, P1, P2, P3, P4, P5⟩ := P.three
    obtain ⟨A0, A1, A2, A3, A4, A5⟩ := A.three
    obtain ⟨B0, B1, B2, B3, B4, B5⟩ := B.three
    replace gA := gA.trans s_w12
    clear g_w12 s_w12
    go_wp2_with fail
    with_reducible refine (rWrite_all _ _ _ _ _ _).mono ?_
    rintro e w13 ⟨rfl, g_w13⟩
    have s_w13 : Grew w12 w13 := by first | exact g_w13 | exact ((Grew.refl _).alloc _).trans g_w13 | exact (((Grew.refl _).alloc _).alloc _).trans g_w13 | exact (Grew.refl _).drew.trans g_w13 | exact ((Grew.refl _).alloc _).drew.trans g_w13 | exact ((Grew.refl _).drewN _).trans g_w13
    have z_w13 := s_w13.size
    replace P := P.grew s_w13
    clear P0 P1 P2 P3 P4 P5
    have l_P_w13 := P.lt
    replace A := A.grew s_w13
    clear A0 A1 A2 A3 A4 A5
    have l_A_w13 := A.lt
    replace B := B.grew s_w13
    clear B0 B1 B2 B3 B4 B5
    have l_B_w13 := B.lt
    have C := (Own.new w12 _ _).grew g_w13
    have l_C_w13 := C.lt
    obtain ⟨P0, P1, P2, P3, P4, P5⟩ := P.three
    obtain ⟨A0, A1, A2, A3, A4, A5⟩ := A.three
    obtain ⟨B0, B1, B2, B3, B4, B5⟩ := B.three
    obtain ⟨C0, C1, C2, C3, C4, C5⟩ := C.three
    replace gA := gA.trans s_w13
    clear g_w13 s_w13
    go_wp2_with fail
    with_reducible refine (clean_all _ _ _ _ _).mono ?_
    rintro e w14 ⟨rfl, g_w14⟩
    have s_w14 : Grew w13 w14 := by first | exact g_w14 | exact ((Grew.refl _).alloc _).trans g_w14 | exact (((Grew.refl _).alloc _).alloc _).trans g_w14 | exact (Grew.refl _).drew.trans g_w14 | exact ((Grew.refl _).alloc _).drew.trans g_w14 | exact ((Grew.refl _).drewN _).trans g_w14
    have z_w14 := s_w14.size
    replace P := P.grew s_w14
    clear P0 P1 P2 P3 P4 P5
    have l_P_w14 := P.lt
    replace A := A.grew s_w14
    clear A0 A1 A2 A3 A4 A5
    have l_A_w14 := A.lt
    replace B := B.grew s_w14
    clear B0 B1 B2 B3 B4 B5
    have l_B_w14 := B.lt
    replace C := C.grew s_w14
    clear C0 C1 C2 C3 C4 C5
    have l_C_w14 := C.lt
    have D := (Own.new w13 _ _).grew g_w14
    have l_D_w14 := D.lt
    obtain ⟨P0, P1, P2, P3, P4, P5⟩ := P.three
    obtain ⟨A0, A1, A2, A3, A4, A5⟩ := A.three
    obtain ⟨B0, B1, B2, B3, B4, B5⟩ := B.three
    obtain ⟨C0, C1, C2, C3, C4, C5⟩ := C.three
    obtain ⟨D0, D1, D2, D3, D4, D5⟩ := D.three
    replace gA := gA.trans s_w14
    clear g_w14 s_w14
    go_wp2_with fail
    with_reducible refine (rClean_all _ _ _ _ _).mono ?_
    rintro e w15 ⟨rfl, g_w15⟩
    have s_w15 : Grew w14 w15 := by first | exact g_w15 | exact ((Grew.refl _).alloc _).trans g_w15 | exact (((Grew.refl _).alloc _).alloc _).trans g_w15 | exact (Grew.refl _).drew.trans g_w15 | exact ((Grew.refl _).alloc _).drew.trans g_w15 | exact ((Grew.refl _).drewN _).trans g_w15
    have z_w15 := s_w15.size
    replace P := P.grew s_w15
    clear P0 P1 P2 P3 P4 P5
    have l_P_w15 := P.lt
    replace A := A.grew s_w15
    clear A0 A1 A2 A3 A4 A5
    have l_A_w15 := A.lt
    replace B := B.grew s_w15
    clear B0 B1 B2 B3 B4 B5
    have l_B_w15 := B.lt
    replace C := C.grew s_w15
    clear C0 C1 C2 C3 C4 C5
    have l_C_w15 := C.lt
    replace D := D.grew s_w15
    clear D0 D1 D2 D3 D4 D5
    have l_D_w15 := D.lt
    have E := (Own.new w14 _ _).grew g_w15
    have l_E_w15 := E.lt
    obtain ⟨P0, P1, P2, P3, P4, P5⟩ := P.three
    obtain ⟨A0, A1, A2, A3, A4, A5⟩ := A.three
    obtain ⟨B0, B1, B2, B3, B4, B5⟩ := B.three
    obtain ⟨C0, C1, C2, C3, C4, C5⟩ := C.three
    obtain ⟨D0, D1, D2, D3, D4, D5⟩ := D.three
    obtain ⟨E0, E1, E2, E3, E4, E5⟩ := E.three
    replace gA := gA.trans s_w15
    clear g_w15 s_w15
    go_wp2_with fail
    with_reducible refine (soil_all _ _ _ _ _).mono ?_
    rintro e w16 ⟨rfl, g_w16⟩
    have s_w16 : Grew w15 w16 := by first | exact g_w16 | exact ((Grew.refl _).alloc _).trans g_w16 | exact (((Grew.refl _).alloc _).alloc _).trans g_w16 | exact (Grew.refl _).drew.trans g_w16 | exact ((Grew.refl _).alloc _).drew.trans g_w16 | exact ((Grew.refl _).drewN _).trans g_w16
    have z_w16 := s_w16.size
    replace P := P.grew s_w16
    clear P0 P1 P2 P3 P4 P5
    have l_P_w16 := P.lt
    replace A := A.grew s_w16
    clear A0 A1 A2 A3 A4 A5
    have l_A_w16 := A.lt
    replace B := B.grew s_w16
    clear B0 B1 B2 B3 B4 B5
    have l_B_w16 := B.lt
    replace C := C.grew s_w16
    clear C0 C1 C2 C3 C4 C5
    have l_C_w16 := C.lt
    replace D := D.grew s_w16
    clear D0 D1 D2 D3 D4 D5
    have l_D_w16 := D.lt
    replace E := E.grew s_w16
    clear E0 E1 E2 E3 E4 E5
    have l_E_w16 := E.lt
    have F := (Own.new w15 _ _).grew g_w16
    have l_F_w16 := F.lt
    obtain ⟨P0, P1, P2, P3, P4, P5⟩ := P.three
    obtain ⟨A0, A1, A2, A3, A4, A5⟩ := A.three
    obtain ⟨B0, B1, B2, B3, B4, B5⟩ := B.three
    obtain ⟨C0, C1, C2, C3, C4, C5⟩ := C.three
    obtain ⟨D0, D1, D2, D3, D4, D5⟩ := D.three
    obtain ⟨E0, E1, E2, E3, E4, E5⟩ := E.three
    obtain ⟨F0, F1, F2, F3, F4, F5⟩ := F.three
    replace gA := gA.trans s_w16
    clear g_w16 s_w16
    go_wp2_with fail
    with_reducible refine (rSoil_all _ _ _ _ _).mono ?_
    rintro e w17 ⟨rfl, g_w17⟩
    have s_w17 : Grew w16 w17 := by first | exact g_w17 | exact ((Grew.refl _).alloc _).trans g_w17 | exact (((Grew.refl _).alloc _).alloc _).trans g_w17 | exact (Grew.refl _).drew.trans g_w17 | exact ((Grew.refl _).alloc _).drew.trans g_w17 | exact ((Grew.refl _).drewN _).trans g_w17
    have z_w17 := s_w17.size
    replace A := A.grew s_w17
    clear A0 A1 A2 A3 A4 A5
    have l_A_w17 := A.lt
    replace B := B.grew s_w17
    clear B0 B1 B2 B3 B4 B5
    have l_B_w17 := B.lt
    replace C := C.grew s_w17
    clear C0 C1 C2 C3 C4 C5
    have l_C_w17 := C.lt
    replace D := D.grew s_w17
    clear D0 D1 D2 D3 D4 D5
    have l_D_w17 := D.lt
    replace E := E.grew s_w17
    clear E0 E1 E2 E3 E4 E5
    have l_E_w17 := E.lt
    replace F := F.grew s_w17
    clear F0 F1 F2 F3 F4 F5
    have l_F_w17 := F.lt
    have G := (Own.new w16 _ _).grew g_w17
    have l_G_w17 := G.lt
    obtain ⟨A0, A1, A2, A3, A4, A5⟩ := A.three
    obtain ⟨B0, B1, B2, B3, B4, B5⟩ := B.three
    obtain ⟨C0, C1, C2, C3, C4, C5⟩ := C.three
    obtain ⟨D0, D1, D2, D3, D4, D5⟩ := D.three
    obtain ⟨E0, E1, E2, E3, E4, E5⟩ := E.three
    obtain ⟨F0, F1, F2, F3, F4, F5⟩ := F.three
    obtain ⟨G0, G1, G2, G3, G4, G5⟩ := G.three
    replace gA := gA.trans s_w17
    clear g_w17 s_w17
    go_wp2_with fail
    with_reducible refine (awake_any _).mono ?_
    rintro e w18 ⟨rfl, g_w18⟩
    have s_w18 : Grew w17 w18 := by first | exact g_w18 | exact ((Grew.refl _).alloc _).trans g_w18 | exact (((Grew.refl _).alloc _).alloc _).trans g_w18 | exact (Grew.refl _).drew.trans g_w18 | exact ((Grew.refl _).alloc _).drew.trans g_w18 | exact ((Grew.refl _).drewN _).trans g_w18
    have z_w18 := s_w18.size
    replace A := A.grew s_w18
    clear A0 A1 A2 A3 A4 A5
    have l_A_w18 := A.lt
    replace B := B.grew s_w18
    clear B0 B1 B2 B3 B4 B5
    have l_B_w18 := B.lt
    replace C := C.grew s_w18
    clear C0 C1 C2 C3 C4 C5
    have l_C_w18 := C.lt
    replace D := D.grew s_w18
    clear D0 D1 D2 D3 D4 D5
    have l_D_w18 := D.lt
    replace E := E.grew s_w18
    clear E0 E1 E2 E3 E4 E5
    have l_E_w18 := E.lt
    replace F := F.grew s_w18
    clear F0 F1 F2 F3 F4 F5
    have l_F_w18 := F.lt
    replace G := G.grew s_w18
    clear G0 G1 G2 G3 G4 G5
    have l_G_w18 := G.lt
    have I := (Own.new w17 _ _).grew g_w18
    have l_I_w18 := I.lt
    obtain ⟨A0, A1, A2, A3, A4, A5⟩ := A.three
    obtain ⟨B0, B1, B2, B3, B4, B5⟩ := B.three
    obtain ⟨C0, C1, C2, C3, C4, C5⟩ := C.three
    obtain ⟨D0, D1, D2, D3, D4, D5⟩ := D.three
    obtain ⟨E0, E1, E2, E3, E4, E5⟩ := E.three
    obtain ⟨F0, F1, F2, F3, F4, F5⟩ := F.three
    obtain ⟨G0, G1, G2, G3, G4, G5⟩ := G.three
    obtain ⟨I0, I1, I2, I3, I4, I5⟩ := I.three
    replace gA := gA.trans s_w18
    clear g_w18 s_w18
    go_wp2
    go_ret
    exact ⟨rfl, gA⟩

theorem Try.own : ownKnob Try.prog.godebug = none := by kernel_rfl
theorem Try.laidOut : laidOutB Try.prog = true := by kernel_rfl

theorem pageWrites_contract (W : World) (base : Nat) (args : Array Value) (H : Type) (enc : TypeId × Value → H) (ds : List (DataW H)) (p : List MemPlace)
    (hval : ∀ (j : Nat) t v, Try.f4.params[j]? = some t → args[j]? = some v → Value.okWide Try.prog W .any base t v)
    (hA : DataW.TrodAll enc Try.prog W 0 (fun _ => true) true Try.f4.params.toList args.toList ds p) :
    (∃ d0, ds = [d0]) ∧ Calls Try.prog 4 args W fun e W' => e = .returned (.bool true) ∧ Below W.heap.size W W' := by
  rw [Try.params4] at hval hA
  obtain ⟨v0, d0, p0, ha, hd, hp, h0⟩ := args_1 hA
  subst ha hd
  obtain ⟨A0, c0, xs0, rfl, hr0, hm0⟩ := open_introw Try.underlying22 Try.underlying3 (by kernel_rfl) (hval 0 _ _ rfl rfl) h0
  exact ⟨⟨_, rfl⟩, (writes_core A0 c0 xs0 W hr0 hm0).mono fun _ _ h => h⟩

set_option maxRecDepth 100000 in
theorem pageWrites_lifted (os : Os) (started : os.Started) (H : Type) (enc : TypeId × Value → H) :
    ReturnsInHanded {} Try.checked os 4 .any (Rows.pageWritesSpec.pre6 enc Try.prog Try.f4 Rows.pageWritesRow.domain false) (Rows.pageWritesSpec.post enc Try.prog Try.f4 false true false false) := by
  refine returnsInHanded_of_change (C := Try.checked) Try.own started (by kernel_rfl) Try.func4
    (ChangeSpec.witness6 (enc := enc) (C := Try.checked) false ⟨#[], #[.slice none 0 0], []⟩ 8 (by kernel_rfl) (by kernel_rfl) (by kernel_rfl) (by kernel_rfl)) ?_
  intro W base args ds gs before hval hW _ _
  obtain ⟨p, q, hA, hV, hrest⟩ := id hW
  obtain ⟨⟨d0, rfl⟩, hc⟩ := pageWrites_contract W base args H enc ds p hval hA
  obtain ⟨rfl, -⟩ := trodVars_none hV
  refine hc.mono fun e W' ⟨he, hb⟩ => ⟨_, he, ?_⟩
  exact law_close (tb := 4) Try.laidOut (by rw [Try.params4]; decide +kernel) Try.underlying4 rfl rfl hW rfl rfl rfl hb

theorem pageWrites_holds : Rows.PageWritesSaid :=
  OpenClaim.holds_of_wide 4 Try.f4 rfl rfl rfl rfl rfl rfl rfl ⟨rfl, rfl, rfl, rfl, rfl⟩ rfl rfl rfl rfl rfl (by kernel_rfl) Try.func4 (by kernel_rfl)
    (of_decide_eq_true (by kernel_rfl)) (by unfold Func.isWrapper; first | (rw [if_pos (by decide +kernel)]; kernel_rfl) | (rw [if_neg (by decide +kernel)]; exact ⟨rfl, rfl⟩))
    (fun os started H enc _ => pageWrites_lifted os started H enc)
end Go.Proofs.Ythkhcbkbhnnegaa
