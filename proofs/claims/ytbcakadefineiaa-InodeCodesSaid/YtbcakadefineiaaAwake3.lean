/- awake of layer 3: it answers true. -/
import Derived.Test.YtbcakadefineiaaIno4
namespace Go.Proofs.Ytbcakadefineiaa
open Go.RowKit Go.Mine

abbrev awS : ByteArray := { data := #[0, 1, 16, 1, 255, 254, 239, 254] }
theorem aw_enc (w : World) : Calls Try.prog 11 #[inoV 1 16 1, .int .i64 0] w (RetG (.tuple #[.string awS, .int .i64 0]) w) :=
  (encode_all 1 16 1 0 w).mono fun _ _ k => retG_of (by rw [show encS 1 16 1 0 = awS from by decide +kernel, show encE 1 16 1 0 = 0 from by decide +kernel]) k
theorem aw_dec (w : World) : Calls Try.prog 13 #[.string awS, .int .i64 0] w (RetG (.tuple #[inoV 1 16 1, .bool true]) w) :=
  (decode_all awS 0 w).mono fun _ _ k => retG_of (by rw [show dQ awS 0 = 1 from by decide +kernel, show dZ awS 0 = 16 from by decide +kernel, show dB awS 0 = 1 from by decide +kernel, show dOK awS 0 = true from by decide +kernel]) k
theorem aw_no (w : World) : Calls Try.prog 13 #[.string awS, .int .i64 1] w (RetG (.tuple #[inoV 0 0 0, .bool false]) w) :=
  (decode_all awS 1 w).mono fun _ _ k => retG_of (by rw [show dQ awS 1 = 0 from by decide +kernel, show dZ awS 1 = 0 from by decide +kernel, show dB awS 1 = 0 from by decide +kernel, show dOK awS 1 = false from by decide +kernel]) k
theorem aw_choose (w : World) : Calls Try.prog 15 #[.string { data := #[] }, .string awS, .int .i64 0] w (RetG (.tuple #[inoV 1 16 1, .int .i64 1, .bool true]) w) :=
  (choose_all _ awS 0 w).mono fun _ _ k => retG_of (by rw [show chQ { data := #[] } awS 0 = 1 from by decide +kernel, show chZ { data := #[] } awS 0 = 16 from by decide +kernel, show chX { data := #[] } awS 0 = 1 from by decide +kernel, show chI { data := #[] } awS 0 = 1 from by decide +kernel, show chO { data := #[] } awS 0 = true from by decide +kernel]) k
theorem aw_next (w : World) : Calls Try.prog 17 #[inoV 1 16 1] w (RetG (.tuple #[inoV 2 16 1, .int .i64 0]) w) :=
  (next_all 1 16 1 w).mono fun _ _ k => retG_of (by rw [show nxQ 1 16 1 = 2 from by decide +kernel, show nxZ 1 16 1 = 16 from by decide +kernel, show nxB 1 16 1 = 1 from by decide +kernel, show nxE 1 16 1 = 0 from by decide +kernel]) k
theorem aw_torn (w : World) : Calls Try.prog 20 #[.string awS, .string awS, .int .i64 1] w (RetG (.tuple #[.string awS, .int .i64 0]) w) :=
  (torn_all awS awS 1 w).mono fun _ _ k => retG_of (by rw [show tnS awS awS 1 = awS from by decide +kernel, show tnE awS awS 1 = 0 from by decide +kernel]) k

set_option maxHeartbeats 2000000 in
theorem awake_any (w : World) : Calls Try.prog 22 #[] w (RetG (.bool true) w) := by
  have gA := Grew.refl w
  go_enter Try.func22, Try.ntmps22
  go_wp2_with fail
  with_reducible refine (aw_enc _).mono ?_
  rintro e w1 ⟨rfl, g_w1⟩
  have s_w1 : Grew w w1 := by first | exact g_w1 | exact ((Grew.refl _).alloc _).trans g_w1 | exact (((Grew.refl _).alloc _).alloc _).trans g_w1 | exact (Grew.refl _).drew.trans g_w1 | exact ((Grew.refl _).alloc _).drew.trans g_w1 | exact ((Grew.refl _).drewN _).trans g_w1
  have z_w1 := s_w1.size
  replace gA := gA.trans s_w1
  clear g_w1 s_w1
  go_wp2_with fail
  with_reducible refine (aw_dec _).mono ?_
  rintro e w2 ⟨rfl, g_w2⟩
  have s_w2 : Grew w1 w2 := by first | exact g_w2 | exact ((Grew.refl _).alloc _).trans g_w2 | exact (((Grew.refl _).alloc _).alloc _).trans g_w2 | exact (Grew.refl _).drew.trans g_w2 | exact ((Grew.refl _).alloc _).drew.trans g_w2 | exact ((Grew.refl _).drewN _).trans g_w2
  have z_w2 := s_w2.size
  replace gA := gA.trans s_w2
  clear g_w2 s_w2
  go_wp2_with fail
  with_reducible refine (aw_no _).mono ?_
  rintro e w3 ⟨rfl, g_w3⟩
  have s_w3 : Grew w2 w3 := by first | exact g_w3 | exact ((Grew.refl _).alloc _).trans g_w3 | exact (((Grew.refl _).alloc _).alloc _).trans g_w3 | exact (Grew.refl _).drew.trans g_w3 | exact ((Grew.refl _).alloc _).drew.trans g_w3 | exact ((Grew.refl _).drewN _).trans g_w3
  have z_w3 := s_w3.size
  have A := (Own.new w2 _ _).grew g_w3
  have l_A_w3 := A.lt
  obtain ⟨A0, A1, A2, A3, A4, A5⟩ := A.three
  replace gA := gA.trans s_w3
  clear g_w3 s_w3
  go_wp2_with fail
  with_reducible refine (aw_choose _).mono ?_
  rintro e w4 ⟨rfl, g_w4⟩
  have s_w4 : Grew w3 w4 := by first | exact g_w4 | exact ((Grew.refl _).alloc _).trans g_w4 | exact (((Grew.refl _).alloc _).alloc _).trans g_w4 | exact (Grew.refl _).drew.trans g_w4 | exact ((Grew.refl _).alloc _).drew.trans g_w4 | exact ((Grew.refl _).drewN _).trans g_w4
  have z_w4 := s_w4.size
  replace A := A.grew s_w4
  clear A0 A1 A2 A3 A4 A5
  have l_A_w4 := A.lt
  obtain ⟨A0, A1, A2, A3, A4, A5⟩ := A.three
  replace gA := gA.trans s_w4
  clear g_w4 s_w4
  go_wp2_with fail
  with_reducible refine (aw_next _).mono ?_
  rintro e w5 ⟨rfl, g_w5⟩
  have s_w5 : Grew w4 w5 := by first | exact g_w5 | exact ((Grew.refl _).alloc _).trans g_w5 | exact (((Grew.refl _).alloc _).alloc _).trans g_w5 | exact (Grew.refl _).drew.trans g_w5 | exact ((Grew.refl _).alloc _).drew.trans g_w5 | exact ((Grew.refl _).drewN _).trans g_w5
  have z_w5 := s_w5.size
  replace A := A.grew s_w5
  clear A0 A1 A2 A3 A4 A5
  have l_A_w5 := A.lt
  have B := (Own.new w4 _ _).grew g_w5
  have l_B_w5 := B.lt
  obtain ⟨A0, A1, A2, A3, A4, A5⟩ := A.three
  obtain ⟨B0, B1, B2, B3, B4, B5⟩ := B.three
  replace gA := gA.trans s_w5
  clear g_w5 s_w5
  go_wp2_with fail
  with_reducible refine (aw_torn _).mono ?_
  rintro e w6 ⟨rfl, g_w6⟩
  have s_w6 : Grew w5 w6 := by first | exact g_w6 | exact ((Grew.refl _).alloc _).trans g_w6 | exact (((Grew.refl _).alloc _).alloc _).trans g_w6 | exact (Grew.refl _).drew.trans g_w6 | exact ((Grew.refl _).alloc _).drew.trans g_w6 | exact ((Grew.refl _).drewN _).trans g_w6
  have z_w6 := s_w6.size
  replace A := A.grew s_w6
  clear A0 A1 A2 A3 A4 A5
  have l_A_w6 := A.lt
  replace B := B.grew s_w6
  clear B0 B1 B2 B3 B4 B5
  have l_B_w6 := B.lt
  have C := (Own.new w5 _ _).grew g_w6
  have l_C_w6 := C.lt
  obtain ⟨A0, A1, A2, A3, A4, A5⟩ := A.three
  obtain ⟨B0, B1, B2, B3, B4, B5⟩ := B.three
  obtain ⟨C0, C1, C2, C3, C4, C5⟩ := C.three
  replace gA := gA.trans s_w6
  clear g_w6 s_w6
  go_wp2
  go_ret
  exact ⟨rfl, gA⟩
end Go.Proofs.Ytbcakadefineiaa
