/- Layer 13: the package is awake. -/
import Derived.Test.YtjeelciijfpdiaaDt7
namespace Go.Proofs.Ytjeelciijfpdiaa
open Go.RowKit Go.Mine

set_option maxHeartbeats 4000000 in
theorem awake_any (w : World) : Calls Try.prog 22 #[] w (RetG (.bool true) w) := by
  have hN : NwR 2 100 ⟨[0, 0], 100, 100⟩ 0 := .inl ⟨rfl, rfl, rfl, rfl⟩
  have hC : CmR ⟨[0, 0], 100, 100⟩ 0 3 ⟨[3, 0], 100, 97⟩ 0 := .inr (.inr (.inr ⟨by decide, by decide, by decide, rfl, rfl⟩))
  have hS0 : shF ⟨[3, 0], 100, 97⟩ 0 15 = 13 := by decide
  have hS1 : shF ⟨[3, 0], 100, 97⟩ 1 15 = 7 := by decide
  have hL1 : lmF 40 25 = 10 := by decide
  have hL2 : lmF 10 10 = 6 := by decide
  have hB : bgF 9 = 4 := by decide
  have hK1 : okD ⟨[3, 0], 100, 97⟩ = true := by decide
  have hK0 : okD ⟨[], 0, 0⟩ = false := by decide
  have hP0 : ∀ w' : World, PdR w' (fun _ => True) (.agg #[.slice none 0 0, .int .i64 0, .int .i64 0]) ⟨[], 0, 0⟩ := fun w' => ⟨none, 0, rfl, rfl, .inl rfl⟩
  have HC := Lib.hid hC
  have HS0 := Lib.hid hS0
  have HS1 := Lib.hid hS1
  have HL1 := Lib.hid hL1
  have HL2 := Lib.hid hL2
  have HB := Lib.hid hB
  have HK1 := Lib.hid hK1
  have HK0 := Lib.hid hK0
  have HP0 := Lib.hid hP0
  have HN := Lib.hid hN
  clear hN hC hS0 hS1 hL1 hL2 hB hK1 hK0 hP0
  go_enter Try.func22, Try.ntmps22
  go_wp2_with fail
  with_reducible refine (new_p HN.out).mono ?_
  rintro e1 w1 ⟨v, rfl, P1, g1⟩
  obtain ⟨a1, c1, rfl, r1⟩ := P1
  have HP1 := Lib.hid ((show PdR w1 (fun b => w.heap.size ≤ b) (.agg #[.slice a1 2 c1, .int .i64 100, .int .i64 100]) ⟨[0, 0], 100, 100⟩ from ⟨a1, c1, rfl, r1⟩).grew ((Grew.refl w1).alloc (.cells #[.slice a1 2 c1, .int .i64 100, .int .i64 100] 27)))
  have HG1 := Lib.hid (g1.alloc (.cells #[.slice a1 2 c1, .int .i64 100, .int .i64 100] 27))
  clear g1 r1
  go_wp2_with fail
  with_reducible refine (complete_p HP1.out (by decide) HC.out).mono ?_
  rintro e2 w2 ⟨v, rfl, P2, g2⟩
  obtain ⟨a2, c2, rfl, r2⟩ := P2
  have HP2 := Lib.hid ((show PdR w2 (fun b => (w1.alloc (.cells #[.slice a1 2 c1, .int .i64 100, .int .i64 100] 27)).heap.size ≤ b) (.agg #[.slice a2 2 c2, .int .i64 100, .int .i64 97]) ⟨[3, 0], 100, 97⟩ from ⟨a2, c2, rfl, r2⟩).grew ((Grew.refl w2).alloc (.cells #[.slice a2 2 c2, .int .i64 100, .int .i64 97] 27)))
  have HG2 := Lib.hid ((HG1.out.trans g2).alloc (.cells #[.slice a2 2 c2, .int .i64 100, .int .i64 97] 27))
  have HO2 := Lib.hid (Own.new w2 27 #[.slice a2 2 c2, .int .i64 100, .int .i64 97])
  clear g2 r2
  go_wp2_with fail
  with_reducible refine (share_p HP2.out (by decide) HS0.out).mono ?_
  rintro e3 w3 ⟨rfl, g3⟩
  have HP3 := Lib.hid (HP2.out.grew g3)
  have HG3 := Lib.hid (HG2.out.trans g3)
  have HO3 := Lib.hid (HO2.out.grew g3)
  clear g3 HP2 HG2 HO2
  obtain ⟨m0, m1, m2, -⟩ := HO3.out.three
  go_wp2_with fail
  with_reducible refine (share_p HP3.out (by decide) HS1.out).mono ?_
  rintro e4 w4 ⟨rfl, g4⟩
  have HP4 := Lib.hid (HP3.out.grew g4)
  have HG4 := Lib.hid (HG3.out.trans g4)
  have HO4 := Lib.hid (HO3.out.grew g4)
  clear g4 HP3 HG3 HO3 m0 m1 m2
  obtain ⟨m0, m1, m2, -⟩ := HO4.out.three
  go_wp2_with fail
  with_reducible refine (lim_p HL1.out).mono ?_
  rintro e5 w5 ⟨rfl, rfl⟩
  go_wp2_with fail
  with_reducible refine (lim_p HL2.out).mono ?_
  rintro e6 w6 ⟨rfl, rfl⟩
  go_wp2_with fail
  with_reducible refine (bg_p HB.out (by omega)).mono ?_
  rintro e7 w7 ⟨rfl, rfl⟩
  go_wp2_with fail
  with_reducible refine (check_p HP4.out (by decide) HK1.out).mono ?_
  rintro e8 w8 ⟨rfl, g8⟩
  have HG8 := Lib.hid (HG4.out.trans g8)
  clear g8 HP4 HG4 HO4 m0 m1 m2
  go_wp2_with fail
  with_reducible refine (check_p (HP0.out _) (by decide) HK0.out).mono ?_
  rintro e9 w9 ⟨rfl, g9⟩
  have HG9 := Lib.hid (HG8.out.trans g9)
  clear g9 HG8
  go_wp2
  go_ret
  exact ⟨rfl, HG9.out⟩
end Go.Proofs.Ytjeelciijfpdiaa
