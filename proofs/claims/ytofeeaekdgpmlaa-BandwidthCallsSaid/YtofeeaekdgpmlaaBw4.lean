/- awake of layer 12: it answers true. -/
import Derived.Test.YtofeeaekdgpmlaaBw2
namespace Go.Proofs.Ytofeeaekdgpmlaa
open Go.RowKit Go.Mine

theorem aw_st : StR 0 ⟨256, 0, 0⟩ 0 := .inl ⟨by kernel_rfl, rfl, rfl⟩
theorem aw_nt : NtR ⟨256, 0, 0⟩ 16 32 ⟨320, 16, 0⟩ 0 := .inr (.inr (.inr ⟨by kernel_rfl, by kernel_rfl, by show (16 : Int) ≤ 16 - 0; omega, by rw [show avM ⟨256, 0, 0⟩ 16 32 = 320 from by kernel_rfl], rfl⟩))
theorem aw_r1 : rtM ⟨320, 16, 0⟩ = 320 := by kernel_rfl
theorem aw_r0 : rtM ⟨0, 0, 0⟩ = 1 := by kernel_rfl
theorem aw_c1 : okM ⟨320, 16, 0⟩ = true := by kernel_rfl
theorem aw_c0 : okM ⟨-1, 0, 0⟩ = false := by kernel_rfl
set_option maxHeartbeats 2000000 in
theorem awake_any (w : World) : Calls Try.prog 16 #[] w (RetG (.bool true) w) := by
  have hne : ∀ k : Nat, k + 1 ≠ k := fun k => by omega
  go_enter Try.func16, Try.ntmps16
  go_wp2_with fail
  with_reducible refine (start_p aw_st).mono ?_
  rintro e w1 ⟨rfl, g1⟩
  have HG1 := Lib.hid g1
  clear g1
  go_wp2_with fail
  have O1 := (Own.new w1 28 #[.int .i64 256, .int .i64 0, .int .i64 0])
  have HG2 := Lib.hid (HG1.out.alloc (.cells #[.int .i64 256, .int .i64 0, .int .i64 0] 28))
  have hl1 := O1.lt
  with_reducible refine (note_p aw_nt).mono ?_
  rintro e w2 ⟨rfl, g2⟩
  have HO2 := Lib.hid (O1.grew g2)
  have HG3 := Lib.hid (HG2.out.trans g2)
  have hl2 := HO2.out.lt
  clear O1 g2 HG1 HG2
  have hd : w1.heap.size ≠ w2.heap.size := by omega
  have O3 := (HO2.out.alloc (.cells #[.int .i64 320, .int .i64 16, .int .i64 0] 28))
  have P3 := (Own.new w2 28 #[.int .i64 320, .int .i64 16, .int .i64 0])
  obtain ⟨a0, a1, a2, a3, a4, a5⟩ := HO2.out.three
  go_wp2_with fail
  have HG4 := Lib.hid (HG3.out.alloc (.cells #[.int .i64 320, .int .i64 16, .int .i64 0] 28))
  with_reducible refine (rate_p aw_r1).mono ?_
  rintro e w3 ⟨rfl, g3⟩
  have HO4 := Lib.hid (O3.grew g3)
  have HP4 := Lib.hid (P3.grew g3)
  have HG5 := Lib.hid (HG4.out.trans g3)
  clear g3 O3 P3 HG3 HG4 a0 a1 a2 a3 a4 a5
  go_wp2_with fail
  with_reducible refine (rate_p aw_r0).mono ?_
  rintro e w4 ⟨rfl, g4⟩
  have HP5 := Lib.hid (HP4.out.grew g4)
  have HG6 := Lib.hid (HG5.out.trans g4)
  obtain ⟨a0, a1, a2, a3, a4, a5⟩ := HP5.out.three
  clear g4 HO4 HP4 HG5
  go_wp2_with fail
  with_reducible refine (check_p aw_c1).mono ?_
  rintro e w5 ⟨rfl, g5⟩
  have HG7 := Lib.hid (HG6.out.trans g5)
  clear g5 HG6
  go_wp2_with fail
  with_reducible refine (check_p aw_c0).mono ?_
  rintro e w6 ⟨rfl, g6⟩
  have HG8 := Lib.hid (HG7.out.trans g6)
  clear g6 HG7
  go_wp2
  go_ret
  exact ⟨rfl, HG8.out⟩
end Go.Proofs.Ytofeeaekdgpmlaa
