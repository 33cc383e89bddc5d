/- awake of layer 2: it answers true. -/
import Derived.Test.YtokbkidoapgamaaPage4
namespace Go.Proofs.Ytokbkidoapgamaa
open Go.RowKit Go.Mine

theorem retG_val {a b : Value} {w : World} {e : Ending} {w' : World} (h : a = b) (k : RetG a w e w') : RetG b w e w' := h ▸ k
theorem page_eq {d d' : ByteArray} {v v' t t' : Int} (h1 : d = d') (h2 : v = v') (h3 : t = t') : pageV d v t = pageV d' v' t' := by rw [h1, h2, h3]
theorem res_eq {a b : Value} {x y : Int} (h1 : a = b) (h2 : x = y) : Value.tuple #[a, .int .i64 x] = .tuple #[b, .int .i64 y] := by rw [h1, h2]
theorem str_eq {a b : ByteArray} (h : a = b) : Value.string a = .string b := by rw [h]

def awP : ByteArray := ⟨#[0, 0, 0, 0, 0, 0, 0, 0, 97, 98, 99, 100, 101, 102, 103, 104]⟩
def awQ : ByteArray := ⟨#[48, 49, 50, 51, 52, 53, 54, 55, 97, 98, 99, 100, 101, 102, 103, 104]⟩
theorem awQ_size : awQ.size = 16 := rfl
theorem awQ_nine : awQ.extract 0 9 = ⟨#[48, 49, 50, 51, 52, 53, 54, 55, 97]⟩ := by decide +kernel

theorem aw_write (w : World) : Calls Try.prog 10 #[pageV zeroP 0 0, .int .i64 8, .string { data := #[97, 98, 99, 100, 101, 102, 103, 104] }] w (RetG (.tuple #[pageV awP 2 2, .int .i64 0]) w) :=
  (write_ok zeroP { data := #[97, 98, 99, 100, 101, 102, 103, 104] } 0 0 8 w (by decide +kernel)).mono fun _ _ h => retG_val (res_eq (page_eq (by decide +kernel) (by decide +kernel) (by decide +kernel)) rfl) h
theorem aw_read (w : World) : Calls Try.prog 11 #[pageV awP 2 2, .int .i64 9, .int .i64 3] w (RetG (.tuple #[.string { data := #[98, 99, 100] }, .int .i64 0]) w) :=
  (read_ok awP 2 2 9 3 w (by decide +kernel)).mono fun _ _ h => retG_val (res_eq (str_eq (by decide +kernel)) rfl) h
theorem aw_busy (w : World) : Calls Try.prog 11 #[pageV awP 2 2, .int .i64 0, .int .i64 1] w (RetG (.tuple #[.string { data := #[] }, .int .i64 7]) w) :=
  (read_bad awP 2 2 0 1 w (by decide +kernel)).mono fun _ _ h => retG_val (res_eq rfl (by decide +kernel)) h
theorem aw_fill (w : World) : Calls Try.prog 8 #[pageV awP 2 2, .int .i64 3, .string { data := #[48, 49, 50, 51, 52, 53, 54, 55, 56, 57, 48, 49, 50, 51, 52, 53] }] w (RetG (.tuple #[pageV awQ 3 2, .int .i64 0]) w) :=
  (fill_ok awP { data := #[48, 49, 50, 51, 52, 53, 54, 55, 56, 57, 48, 49, 50, 51, 52, 53] } 2 2 3 w (by decide +kernel) rfl).mono fun _ _ h => retG_val (res_eq (page_eq (by decide +kernel) (by decide +kernel) rfl) rfl) h
theorem aw_needs (w : World) : Calls Try.prog 9 #[pageV zeroP 0 0, .int .i64 7, .int .i64 2, .bool true] w (RetG (.tuple #[.int .i64 3, .int .i64 0]) w) :=
  (needs_ok zeroP 0 0 7 2 true w (by decide +kernel) (by decide +kernel)).mono fun _ _ ⟨h, k⟩ => ⟨h.trans (ret_val (res_eq (by rw [show needN 0 7 2 true = 3 from by decide +kernel]) rfl)), k ▸ ((Grew.refl _).alloc _).alloc _⟩
theorem aw_clean (w : World) : Calls Try.prog 24 #[pageV awP 2 2, .int .i64 2] w (RetG (.tuple #[pageV awP 2 0, .int .i64 0]) w) :=
  (clean_ok awP 2 2 2 w (by decide +kernel)).mono fun _ _ h => retG_val (res_eq (page_eq rfl rfl (by decide +kernel)) rfl) h
theorem aw_soil (w : World) : Calls Try.prog 25 #[pageV awP 2 0, .int .i64 3] w (RetG (.tuple #[pageV awP 2 2, .int .i64 0]) w) :=
  (soil_ok awP 2 0 3 w (by decide +kernel)).mono fun _ _ h => retG_val (res_eq (page_eq rfl rfl (by decide +kernel)) rfl) h
theorem aw_check (w : World) : Calls Try.prog 14 #[pageV zeroP 3 0] w (RetG (.bool true) w) :=
  (check_any zeroP 3 0 w).mono fun _ _ ⟨h, k⟩ => ⟨h.trans (ret_bool (by decide +kernel)), k ▸ (Grew.refl _).alloc _⟩

theorem field_valid (d : ByteArray) (v t : Int) (w : World) : (Instr.field 29 (pageV d v t) 1).run Try.prog w = .ok (.int .i64 v) w := by kernel_rfl

set_option maxHeartbeats 2000000 in
theorem awake_any (w : World) : Calls Try.prog 12 #[] w (RetG (.bool true) w) := by
  have q0 := field_valid zeroP 3 0
  have q1 := awQ_size
  have q2 := awQ_nine
  go_enter Try.func12, Try.ntmps12
  have gA := Grew.refl w
  go_wp2_with fail
  with_reducible refine (new_any _).mono ?_
  rintro e w1 ⟨rfl, g_w1⟩
  have s_w1 : Grew w w1 := by first | exact g_w1 | exact ((Grew.refl _).alloc _).trans g_w1 | exact (((Grew.refl _).alloc _).alloc _).trans g_w1 | exact (Grew.refl _).drew.trans g_w1 | exact ((Grew.refl _).alloc _).drew.trans g_w1 | exact ((Grew.refl _).drewN _).trans g_w1
  have z_w1 := s_w1.size
  replace gA := gA.trans s_w1
  clear g_w1 s_w1
  go_wp2_with fail
  with_reducible refine (aw_write _).mono ?_
  rintro e w2 ⟨rfl, g_w2⟩
  have s_w2 : Grew w1 w2 := by first | exact g_w2 | exact ((Grew.refl _).alloc _).trans g_w2 | exact (((Grew.refl _).alloc _).alloc _).trans g_w2 | exact (Grew.refl _).drew.trans g_w2 | exact ((Grew.refl _).alloc _).drew.trans g_w2 | exact ((Grew.refl _).drewN _).trans g_w2
  have z_w2 := s_w2.size
  replace gA := gA.trans s_w2
  clear g_w2 s_w2
  go_wp2_with fail
  with_reducible refine (aw_read _).mono ?_
  rintro e w3 ⟨rfl, g_w3⟩
  have s_w3 : Grew w2 w3 := by first | exact g_w3 | exact ((Grew.refl _).alloc _).trans g_w3 | exact (((Grew.refl _).alloc _).alloc _).trans g_w3 | exact (Grew.refl _).drew.trans g_w3 | exact ((Grew.refl _).alloc _).drew.trans g_w3 | exact ((Grew.refl _).drewN _).trans g_w3
  have z_w3 := s_w3.size
  have A := (Own.new w2 _ _).grew g_w3
  have l_A_w3 := A.lt
  obtain ⟨A0, A1, A2, A3, A4, A5⟩ := A.three
  replace gA := gA.trans s_w3
  clear g_w3 s_w3
  go_wp2_with fail
  with_reducible refine (aw_busy _).mono ?_
  rintro e w4 ⟨rfl, g_w4⟩
  have s_w4 : Grew w3 w4 := by first | exact g_w4 | exact ((Grew.refl _).alloc _).trans g_w4 | exact (((Grew.refl _).alloc _).alloc _).trans g_w4 | exact (Grew.refl _).drew.trans g_w4 | exact ((Grew.refl _).alloc _).drew.trans g_w4 | exact ((Grew.refl _).drewN _).trans g_w4
  have z_w4 := s_w4.size
  replace A := A.grew s_w4
  clear A0 A1 A2 A3 A4 A5
  have l_A_w4 := A.lt
  obtain ⟨A0, A1, A2, A3, A4, A5⟩ := A.three
  replace gA := gA.trans s_w4
  clear g_w4 s_w4
  go_wp2_with fail
  with_reducible refine (aw_fill _).mono ?_
  rintro e w5 ⟨rfl, g_w5⟩
  have s_w5 : Grew w4 w5 := by first | exact g_w5 | exact ((Grew.refl _).alloc _).trans g_w5 | exact (((Grew.refl _).alloc _).alloc _).trans g_w5 | exact (Grew.refl _).drew.trans g_w5 | exact ((Grew.refl _).alloc _).drew.trans g_w5 | exact ((Grew.refl _).drewN _).trans g_w5
  have z_w5 := s_w5.size
  replace A := A.grew s_w5
  clear A0 A1 A2 A3 A4 A5
  have l_A_w5 := A.lt
  obtain ⟨A0, A1, A2, A3, A4, A5⟩ := A.three
  replace gA := gA.trans s_w5
  clear g_w5 s_w5
  go_wp2_with fail
  with_reducible refine (new_any _).mono ?_
  rintro e w6 ⟨rfl, g_w6⟩
  have s_w6 : Grew w5 w6 := by first | exact g_w6 | exact ((Grew.refl _).alloc _).trans g_w6 | exact (((Grew.refl _).alloc _).alloc _).trans g_w6 | exact (Grew.refl _).drew.trans g_w6 | exact ((Grew.refl _).alloc _).drew.trans g_w6 | exact ((Grew.refl _).drewN _).trans g_w6
  have z_w6 := s_w6.size
  replace A := A.grew s_w6
  clear A0 A1 A2 A3 A4 A5
  have l_A_w6 := A.lt
  have B := (Own.new w5 _ _).grew g_w6
  have l_B_w6 := B.lt
  obtain ⟨A0, A1, A2, A3, A4, A5⟩ := A.three
  obtain ⟨B0, B1, B2, B3, B4, B5⟩ := B.three
  replace gA := gA.trans s_w6
  clear g_w6 s_w6
  go_wp2_with fail
  with_reducible refine (aw_needs _).mono ?_
  rintro e w7 ⟨rfl, g_w7⟩
  have s_w7 : Grew w6 w7 := by first | exact g_w7 | exact ((Grew.refl _).alloc _).trans g_w7 | exact (((Grew.refl _).alloc _).alloc _).trans g_w7 | exact (Grew.refl _).drew.trans g_w7 | exact ((Grew.refl _).alloc _).drew.trans g_w7 | exact ((Grew.refl _).drewN _).trans g_w7
  have z_w7 := s_w7.size
  replace A := A.grew s_w7
  clear A0 A1 A2 A3 A4 A5
  have l_A_w7 := A.lt
  replace B := B.grew s_w7
  clear B0 B1 B2 B3 B4 B5
  have l_B_w7 := B.lt
  obtain ⟨A0, A1, A2, A3, A4, A5⟩ := A.three
  obtain ⟨B0, B1, B2, B3, B4, B5⟩ := B.three
  replace gA := gA.trans s_w7
  clear g_w7 s_w7
  go_wp2_with fail
  with_reducible refine (aw_clean _).mono ?_
  rintro e w8 ⟨rfl, g_w8⟩
  have s_w8 : Grew w7 w8 := by first | exact g_w8 | exact ((Grew.refl _).alloc _).trans g_w8 | exact (((Grew.refl _).alloc _).alloc _).trans g_w8 | exact (Grew.refl _).drew.trans g_w8 | exact ((Grew.refl _).alloc _).drew.trans g_w8 | exact ((Grew.refl _).drewN _).trans g_w8
  have z_w8 := s_w8.size
  replace A := A.grew s_w8
  clear A0 A1 A2 A3 A4 A5
  have l_A_w8 := A.lt
  replace B := B.grew s_w8
  clear B0 B1 B2 B3 B4 B5
  have l_B_w8 := B.lt
  obtain ⟨A0, A1, A2, A3, A4, A5⟩ := A.three
  obtain ⟨B0, B1, B2, B3, B4, B5⟩ := B.three
  replace gA := gA.trans s_w8
  clear g_w8 s_w8
  go_wp2_with fail
  with_reducible refine (aw_soil _).mono ?_
  rintro e w9 ⟨rfl, g_w9⟩
  have s_w9 : Grew w8 w9 := by first | exact g_w9 | exact ((Grew.refl _).alloc _).trans g_w9 | exact (((Grew.refl _).alloc _).alloc _).trans g_w9 | exact (Grew.refl _).drew.trans g_w9 | exact ((Grew.refl _).alloc _).drew.trans g_w9 | exact ((Grew.refl _).drewN _).trans g_w9
  have z_w9 := s_w9.size
  replace B := B.grew s_w9
  clear B0 B1 B2 B3 B4 B5
  have l_B_w9 := B.lt
  have C := (Own.new w8 _ _).grew g_w9
  have l_C_w9 := C.lt
  obtain ⟨B0, B1, B2, B3, B4, B5⟩ := B.three
  obtain ⟨C0, C1, C2, C3, C4, C5⟩ := C.three
  replace gA := gA.trans s_w9
  clear g_w9 s_w9
  go_wp2_with fail
  with_reducible refine (hole_any _).mono ?_
  rintro e w10 ⟨rfl, g_w10⟩
  have s_w10 : Grew w9 w10 := by first | exact g_w10 | exact ((Grew.refl _).alloc _).trans g_w10 | exact (((Grew.refl _).alloc _).alloc _).trans g_w10 | exact (Grew.refl _).drew.trans g_w10 | exact ((Grew.refl _).alloc _).drew.trans g_w10 | exact ((Grew.refl _).drewN _).trans g_w10
  have z_w10 := s_w10.size
  replace B := B.grew s_w10
  clear B0 B1 B2 B3 B4 B5
  have l_B_w10 := B.lt
  replace C := C.grew s_w10
  clear C0 C1 C2 C3 C4 C5
  have l_C_w10 := C.lt
  have D := (Own.new w9 _ _).grew g_w10
  have l_D_w10 := D.lt
  obtain ⟨B0, B1, B2, B3, B4, B5⟩ := B.three
  obtain ⟨C0, C1, C2, C3, C4, C5⟩ := C.three
  obtain ⟨D0, D1, D2, D3, D4, D5⟩ := D.three
  replace gA := gA.trans s_w10
  clear g_w10 s_w10
  go_wp2_with fail
  with_reducible refine (aw_check _).mono ?_
  rintro e w11 ⟨rfl, g_w11⟩
  have s_w11 : Grew w10 w11 := by first | exact g_w11 | exact ((Grew.refl _).alloc _).trans g_w11 | exact (((Grew.refl _).alloc _).alloc _).trans g_w11 | exact (Grew.refl _).drew.trans g_w11 | exact ((Grew.refl _).alloc _).drew.trans g_w11 | exact ((Grew.refl _).drewN _).trans g_w11
  have z_w11 := s_w11.size
  replace B := B.grew s_w11
  clear B0 B1 B2 B3 B4 B5
  have l_B_w11 := B.lt
  replace C := C.grew s_w11
  clear C0 C1 C2 C3 C4 C5
  have l_C_w11 := C.lt
  replace D := D.grew s_w11
  clear D0 D1 D2 D3 D4 D5
  have l_D_w11 := D.lt
  obtain ⟨B0, B1, B2, B3, B4, B5⟩ := B.three
  obtain ⟨C0, C1, C2, C3, C4, C5⟩ := C.three
  obtain ⟨D0, D1, D2, D3, D4, D5⟩ := D.three
  replace gA := gA.trans s_w11
  clear g_w11 s_w11
  go_wp2_with fail
  with_reducible refine (hole_any _).mono ?_
  rintro e w12 ⟨rfl, g_w12⟩
  have s_w12 : Grew w11 w12 := by first | exact g_w12 | exact ((Grew.refl _).alloc _).trans g_w12 | exact (((Grew.refl _).alloc _).alloc _).trans g_w12 | exact (Grew.refl _).drew.trans g_w12 | exact ((Grew.refl _).alloc _).drew.trans g_w12 | exact ((Grew.refl _).drewN _).trans g_w12
  have z_w12 := s_w12.size
  replace B := B.grew s_w12
  clear B0 B1 B2 B3 B4 B5
  have l_B_w12 := B.lt
  replace C := C.grew s_w12
  clear C0 C1 C2 C3 C4 C5
  have l_C_w12 := C.lt
  replace D := D.grew s_w12
  clear D0 D1 D2 D3 D4 D5
  have l_D_w12 := D.lt
  obtain ⟨B0, B1, B2, B3, B4, B5⟩ := B.three
  obtain ⟨C0, C1, C2, C3, C4, C5⟩ := C.three
  obtain ⟨D0, D1, D2, D3, D4, D5⟩ := D.three
  replace gA := gA.trans s_w12
  clear g_w12 s_w12
  go_wp2
  go_ret
  exact ⟨rfl, gA⟩
end Go.Proofs.Ytokbkidoapgamaa
