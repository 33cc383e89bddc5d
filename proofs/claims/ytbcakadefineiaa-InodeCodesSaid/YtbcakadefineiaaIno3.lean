/- The contracts of package inode (layer 3), third part: Decode. -/
import Derived.Test.YtbcakadefineiaaIno2
import Derived.Test.YtbcakadefineiaaInoH
import Derived.Stop.BytesEq
import Derived.Deep.RegionHeld3
import Derived.Deep.QuietTactic
import Derived.BigQuiet
namespace Go.Proofs.Ytbcakadefineiaa
open Go.RowKit Go.Mine
open Extern.Stop (cell)

theorem gd_bd (c f : Int) : 0 ≤ gd c f ∧ gd c f ≤ 255 := by unfold gd; omega
theorem byte_of {g : Int} (h : 0 ≤ g ∧ g ≤ 255) : ∃ y : UInt8, g = (y.toNat : Int) := ⟨UInt8.ofNat g.toNat, by simp; omega⟩
theorem size_u8 : ∀ w, (sizeOf 5).run Try.prog w = .ok 1 w := fun w => by kernel_rfl

theorem half_neq (x4 x5 x6 x7 : UInt8) (g0 g1 g2 g3 : Int) (h0 : 0 ≤ g0 ∧ g0 ≤ 255) (h1 : 0 ≤ g1 ∧ g1 ≤ 255) (h2 : 0 ≤ g2 ∧ g2 ≤ 255) (h3 : 0 ≤ g3 ∧ g3 ≤ 255) (W : World) :
    (binOp .neq 54 (halfV x4.toNat x5.toNat x6.toNat x7.toNat) (halfV g0 g1 g2 g3)).run Try.prog W = .ok (.bool (!decide ((x4.toNat : Int) = g0 ∧ (x5.toNat : Int) = g1 ∧ (x6.toNat : Int) = g2 ∧ (x7.toNat : Int) = g3))) W := by
  obtain ⟨y0, rfl⟩ := byte_of h0
  obtain ⟨y1, rfl⟩ := byte_of h1
  obtain ⟨y2, rfl⟩ := byte_of h2
  obtain ⟨y3, rfl⟩ := byte_of h3
  have e := run_equalIn_bytes W 9998 54 5 4 Try.underlying54 Try.underlying5 size_u8 [x4, x5, x6, x7] [y0, y1, y2, y3] rfl rfl
  rw [run_neq_struct]
  show Result.andThen ((Op.equalIn (9998 + 2) _ (.agg ([x4, x5, x6, x7].map cell).toArray) (.agg ([y0, y1, y2, y3].map cell).toArray)).run Try.prog W) _ = _
  rw [e]
  show Result.ok (Value.bool _) W = _
  congr 3
  rw [Bool.eq_iff_iff]
  simp [← UInt8.toNat_inj]
  omega

/-- The inode that a sector holds. -/
def guardB (x0 x1 x2 x3 x4 x5 x6 x7 : UInt8) (f : Int) : Bool := decide ((x4.toNat : Int) = gd x0.toNat f ∧ (x5.toNat : Int) = gd x1.toNat f ∧ (x6.toNat : Int) = gd x2.toNat f ∧ (x7.toNat : Int) = gd x3.toNat f)
theorem half_guard (x0 x1 x2 x3 x4 x5 x6 x7 : UInt8) (f : Int) (W : World) :
    (binOp .neq 54 (halfV x4.toNat x5.toNat x6.toNat x7.toNat) (halfV (gd x0.toNat f) (gd x1.toNat f) (gd x2.toNat f) (gd x3.toNat f))).run Try.prog W = .ok (.bool (!guardB x0 x1 x2 x3 x4 x5 x6 x7 f)) W :=
  half_neq x4 x5 x6 x7 _ _ _ _ (gd_bd _ _) (gd_bd _ _) (gd_bd _ _) (gd_bd _ _) W
theorem byte_bd (x : UInt8) : 0 ≤ (x.toNat : Int) ∧ (x.toNat : Int) ≤ 255 := by have := x.toNat_lt; omega

set_option maxHeartbeats 2000000 in
theorem decode_form (s : ByteArray) (f : Int) (w : World) (h : s.size ≠ 8) :
    Calls Try.prog 13 #[.string s, .int .i64 f] w (RetG (.tuple #[inoV 0 0 0, .bool false]) w) := by
  have h1 : ((s.size : Int) != 8) = true := by rw [bne_iff_ne]; omega
  clear h
  go_enter Try.func13, Try.ntmps13
  go_wp2
  refine bodyPost_ret (v := .tuple #[inoV 0 0 0, .bool false]) (by simp [results, Try.results13, go_sem]) rfl ⟨rfl, ?_⟩
  exact (Grew.refl _).alloc _
set_option maxHeartbeats 2000000 in
theorem decode_file (s : ByteArray) (f : Int) (w : World) (h : s.size = 8) (hf : withB f 7 = false) :
    Calls Try.prog 13 #[.string s, .int .i64 f] w (RetG (.tuple #[inoV 0 0 0, .bool false]) w) := by
  have h1 : ((s.size : Int) != 8) = false := by rw [bne_eq_false_iff_eq]; omega
  clear h
  go_enter Try.func13, Try.ntmps13
  go_wp2_with (go_at_call 25; (with_reducible refine (isFile_any _ _).mono ?_); rintro e w1 ⟨rfl, rfl⟩)
  refine bodyPost_ret (v := .tuple #[inoV 0 0 0, .bool false]) (by simp [results, Try.results13, go_sem]) rfl ⟨rfl, ?_⟩
  exact (Grew.refl _).alloc _

def okB (x0 x1 x2 x3 x4 x5 x6 x7 : UInt8) (f : Int) : Bool := guardB x0 x1 x2 x3 x4 x5 x6 x7 f && validI ((x0.toNat : Int) * 256 + x1.toNat) x2.toNat x3.toNat
def dec8 (x0 x1 x2 x3 x4 x5 x6 x7 : UInt8) (f : Int) : Value := if okB x0 x1 x2 x3 x4 x5 x6 x7 f then .tuple #[inoV ((x0.toNat : Int) * 256 + x1.toNat) x2.toNat x3.toNat, .bool true] else .tuple #[inoV 0 0 0, .bool false]
set_option maxHeartbeats 4000000 in
theorem decode_8 (x0 x1 x2 x3 x4 x5 x6 x7 : UInt8) (f : Int) (w : World) (hf : withB f 7 = true) :
    Calls Try.prog 13 #[.string { data := #[x0, x1, x2, x3, x4, x5, x6, x7] }, .int .i64 f] w
      (RetG (dec8 x0 x1 x2 x3 x4 x5 x6 x7 f) w) := by
  obtain ⟨f0, f1⟩ := file_bd hf
  have h1 : ByteArray.size { data := #[x0, x1, x2, x3, x4, x5, x6, x7] } = 8 := rfl
  have kg := half_guard x0 x1 x2 x3 x4 x5 x6 x7 f
  have KG := Lib.hid kg
  clear kg
  have gA := Grew.refl w
  have b0 := byte_bd x0
  have b1 := byte_bd x1
  have b2 := byte_bd x2
  have b3 := byte_bd x3
  go_enter Try.func13, Try.ntmps13
  go_wp2_with fail
  with_reducible refine (isFile_g _ _).mono ?_
  rintro e w1 ⟨rfl, g_w1⟩
  have s_w1 : Grew w w1 := by first | exact g_w1 | exact ((Grew.refl _).alloc _).trans g_w1 | exact (((Grew.refl _).alloc _).alloc _).trans g_w1 | exact (Grew.refl _).drew.trans g_w1 | exact ((Grew.refl _).alloc _).drew.trans g_w1 | exact ((Grew.refl _).drewN _).trans g_w1
  have z_w1 := s_w1.size
  have R := (Own.new w _ _).grew g_w1
  have l_R_w1 := R.lt
  obtain ⟨R0, R1, R2, R3, R4, R5⟩ := R.three
  replace gA := gA.trans s_w1
  clear g_w1 s_w1
  go_wp2_with fail
  with_reducible refine (halvesOf_any _ _ _ _ _ _ _ _ _).mono ?_
  rintro e w2 ⟨rfl, g_w2⟩
  have s_w2 : Grew w1 w2 := by first | exact g_w2 | exact ((Grew.refl _).alloc _).trans g_w2 | exact (((Grew.refl _).alloc _).alloc _).trans g_w2 | exact (Grew.refl _).drew.trans g_w2 | exact ((Grew.refl _).alloc _).drew.trans g_w2 | exact ((Grew.refl _).drewN _).trans g_w2
  have z_w2 := s_w2.size
  replace R := R.grew s_w2
  clear R0 R1 R2 R3 R4 R5
  have l_R_w2 := R.lt
  obtain ⟨R0, R1, R2, R3, R4, R5⟩ := R.three
  replace gA := gA.trans s_w2
  clear g_w2 s_w2
  go_wp2_with fail
  with_reducible refine (inodeOf_any _ _ _ _ _ b0 b1 b2 b3).mono ?_
  rintro e w3 ⟨rfl, g3⟩
  clear R0 R1 R2 R3 R4 R5
  replace R := (((R.alloc _).alloc _).grew g3).alloc (.cells #[.int .i64 ((x0.toNat : Int) * 256 + x1.toNat), .int .i64 x2.toNat, .int .i64 x3.toNat] 28)
  have C := (((Own.new w2 _ _).alloc _).grew g3).alloc (.cells #[.int .i64 ((x0.toNat : Int) * 256 + x1.toNat), .int .i64 x2.toNat, .int .i64 x3.toNat] 28)
  have D := ((Own.new2 w2 _ _ _).grew g3).alloc (.cells #[.int .i64 ((x0.toNat : Int) * 256 + x1.toNat), .int .i64 x2.toNat, .int .i64 x3.toNat] 28)
  have X := Own.new w3 28 #[.int .i64 ((x0.toNat : Int) * 256 + x1.toNat), .int .i64 x2.toNat, .int .i64 x3.toNat]
  replace gA := (((gA.alloc _).alloc _).trans g3).alloc (.cells #[.int .i64 ((x0.toNat : Int) * 256 + x1.toNat), .int .i64 x2.toNat, .int .i64 x3.toNat] 28)
  have hz3 := g3.size
  simp only [World.size_alloc] at hz3
  clear g3
  go_wp2_with fail
  obtain ⟨R0, R1, R2, R3, R4, R5⟩ := R.three
  obtain ⟨C0, C1, C2, C3, C4, C5, C6, C7⟩ := C.four
  obtain ⟨D0, D1, D2, D3, D4, D5, D6, D7⟩ := D.four
  obtain ⟨X0, X1, X2, X3, X4, X5⟩ := X.three
  generalize hw4 : w3.alloc _ = w4 at *
  clear hw4
  cases hg : guardB x0 x1 x2 x3 x4 x5 x6 x7 f
  · have kg := KG.out
    rw [hg] at kg
    go_region_with (go_at_call 27; (with_reducible refine (guardFor_any _ _ _ _ _ _ f0 f1).mono ?_); rintro e w5 ⟨rfl, g5⟩; have D' := D.drew.grew g5; have R' := R.drew.grew g5; have G5 := gA.drew.trans g5; clear D0 D1 D2 D3 D4 D5 D6 D7 R0 R1 R2 R3 R4 R5; obtain ⟨D0, D1, D2, D3, D4, D5, D6, D7⟩ := D'.four; obtain ⟨R0, R1, R2, R3, R4, R5⟩ := R'.three)
    all_goals go_wp2
    all_goals rw [show dec8 x0 x1 x2 x3 x4 x5 x6 x7 f = .tuple #[inoV 0 0 0, .bool false] from by simp [dec8, okB, hg]]
    all_goals refine bodyPost_ret (v := .tuple #[inoV 0 0 0, .bool false]) (by simp [results, Try.results13, go_sem, R0, R1, R2]) rfl ⟨rfl, ?_⟩
    all_goals exact ((G5.set (by simp) _).set (by simp) _).set (by simp) _
  · have kg := KG.out
    rw [hg] at kg
    cases hv : validI ((x0.toNat : Int) * 256 + x1.toNat) x2.toNat x3.toNat
    · go_region_with (first
        | (go_at_call 27; (with_reducible refine (guardFor_any _ _ _ _ _ _ f0 f1).mono ?_); rintro e w5 ⟨rfl, g5⟩; have D' := D.drew.grew g5; have R' := R.drew.grew g5; have X' := X.drew.grew g5; have G5 := gA.drew.trans g5; clear D0 D1 D2 D3 D4 D5 D6 D7 R0 R1 R2 R3 R4 R5 X0 X1 X2 X3 X4 X5; obtain ⟨D0, D1, D2, D3, D4, D5, D6, D7⟩ := D'.four; obtain ⟨R0, R1, R2, R3, R4, R5⟩ := R'.three; obtain ⟨X0, X1, X2, X3, X4, X5⟩ := X'.three)
        | (go_at_call 24; (with_reducible refine (isValid_g _ _ _ _).mono ?_); rintro e w6 ⟨rfl, g6⟩; have R6 := R'.grew g6; have G6 := G5.trans g6; clear R0 R1 R2 R3 R4 R5; obtain ⟨R0, R1, R2, R3, R4, R5⟩ := R6.three))
      all_goals go_wp2
      all_goals rw [show dec8 x0 x1 x2 x3 x4 x5 x6 x7 f = .tuple #[inoV 0 0 0, .bool false] from by simp [dec8, okB, hv]]
      all_goals refine bodyPost_ret (v := .tuple #[inoV 0 0 0, .bool false]) (by simp [results, Try.results13, go_sem, R0, R1, R2]) rfl ⟨rfl, ?_⟩
      all_goals exact ((G6.set (by simp) _).set (by simp) _).set (by simp) _
    · go_region_with (first
        | (go_at_call 27; (with_reducible refine (guardFor_any _ _ _ _ _ _ f0 f1).mono ?_); rintro e w5 ⟨rfl, g5⟩; have D' := D.drew.grew g5; have R' := R.drew.grew g5; have X' := X.drew.grew g5; have G5 := gA.drew.trans g5; clear D0 D1 D2 D3 D4 D5 D6 D7 R0 R1 R2 R3 R4 R5 X0 X1 X2 X3 X4 X5; obtain ⟨D0, D1, D2, D3, D4, D5, D6, D7⟩ := D'.four; obtain ⟨R0, R1, R2, R3, R4, R5⟩ := R'.three; obtain ⟨X0, X1, X2, X3, X4, X5⟩ := X'.three)
        | (go_at_call 24; (with_reducible refine (isValid_g _ _ _ _).mono ?_); rintro e w6 ⟨rfl, g6⟩; have R6 := R'.grew g6; have X6 := X'.grew g6; have G6 := G5.trans g6; clear R0 R1 R2 R3 R4 R5 X0 X1 X2 X3 X4 X5; obtain ⟨R0, R1, R2, R3, R4, R5⟩ := R6.three; obtain ⟨X0, X1, X2, X3, X4, X5⟩ := X6.three))
      all_goals go_wp2
      all_goals rw [show dec8 x0 x1 x2 x3 x4 x5 x6 x7 f = .tuple #[inoV ((x0.toNat : Int) * 256 + x1.toNat) x2.toNat x3.toNat, .bool true] from by simp [dec8, okB, hg, hv]]
      all_goals refine bodyPost_ret (v := .tuple #[inoV ((x0.toNat : Int) * 256 + x1.toNat) x2.toNat x3.toNat, .bool true]) (by simp [results, Try.results13, go_sem, R0, R1, R2]) rfl ⟨rfl, ?_⟩
      all_goals exact ((G6.set (by simp) _).set (by simp) _).set (by simp) _
end Go.Proofs.Ytbcakadefineiaa
