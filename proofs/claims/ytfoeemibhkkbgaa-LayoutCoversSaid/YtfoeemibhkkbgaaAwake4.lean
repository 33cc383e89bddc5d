/- awake of layer 4: it answers true. -/
import Derived.Test.YtfoeemibhkkbgaaRuns
namespace Go.Proofs.Ytfoeemibhkkbgaa
open Go.RowKit Go.Mine

theorem aw_runs : runsL 0 4 [3, 1, 2] = [(4, 4), (8, 2)] := by decide +kernel
theorem aw_split : splitL [(4, 4), (8, 2)] 3 = [(4, 3), (7, 1), (8, 2)] := by decide +kernel
set_option maxHeartbeats 4000000 in
theorem awake_any (w : World) : Calls Try.prog 17 #[] w (RetG (.bool true) w) := by
  have R0 : RowE 3 1 enc1 (w.alloc (.cells #[.int .i64 3, .int .i64 1, .int .i64 2] 3)) w.heap.size (.slice (some ⟨w.heap.size, 0, none⟩) 3 3) [3, 1, 2] := RowE.lit w _ rfl rfl (by decide) (Nat.le_refl _)
  have HR0 := Lib.hid R0
  clear R0
  have e1 : ownS 20 = 1 := by decide +kernel
  have e2 : ownP 20 = 0 := by decide +kernel
  have e3 : slotsF 128 = 7 := by decide +kernel
  have e4 : inoF 1 1 = 19 := by decide +kernel
  have e5 : pagF 1 0 = 20 := by decide +kernel
  go_enter Try.func17, Try.ntmps17
  go_wp2_with (go_at_call 9; (with_reducible refine (owner_any _ _).mono ?_); rintro e w1 ⟨rfl, rfl⟩)
  with_reducible refine (runs_any _ _ _ _ _ _ (by decide) (by decide) HR0.out).mono ?_
  rintro e w1 ⟨v1, rfl, R1, G1⟩
  rw [aw_runs] at R1
  rcases R1.shape enc2_len with ⟨-, h⟩ | ⟨g, cap, rfl, -, hg, hcap, -, hcell, -⟩
  · simp at h
  have c0 : w1.cell? ⟨g, 0, none⟩ = some (.int .i64 4) := hcell 0 (by decide) 0 (by decide)
  have c1 : w1.cell? ⟨g, 1, none⟩ = some (.int .i64 4) := hcell 0 (by decide) 1 (by decide)
  have HR1 := Lib.hid R1
  clear hcell R1 HR0
  simp only [List.length_cons, List.length_nil] at HR1 hcap ⊢
  go_wp2_with (first | (go_at_call 11; (with_reducible refine (slots_any _ _).mono ?_); rintro e w1 ⟨rfl, rfl⟩) | (go_at_call 13; (with_reducible refine (inode_any _ _ _).mono ?_); rintro e w1 ⟨rfl, rfl⟩) | (go_at_call 15; (with_reducible refine (page_any _ _ _).mono ?_); rintro e w1 ⟨rfl, rfl⟩))
  have fits : Fits [(4, 4), (8, 2)] := fun x hx => by
    simp at hx
    rcases hx with rfl | rfl <;> exact ⟨by decide, by decide⟩
  with_reducible refine (split_any _ _ _ _ _ (by decide) fits (by decide) HR1.out).mono ?_
  rintro e w2 ⟨v2, rfl, R2, G2⟩
  rw [if_neg (by decide), aw_split] at R2
  obtain ⟨b, d, rfl⟩ := R2.len
  have GA : Grew w w2 := (((Grew.refl w).alloc _).trans G1).trans G2
  clear R2 G2 G1 HR1 c0 c1
  go_wp2
  go_ret
  exact ⟨rfl, GA⟩
end Go.Proofs.Ytfoeemibhkkbgaa
