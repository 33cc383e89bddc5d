/- awake of layer 11: it answers true. -/
import Derived.Test.YtgcblkibnihplaaGp5
import Derived.Test.YtgcblkibnihplaaGp6
namespace Go.Proofs.Ytgcblkibnihplaa
open Go.RowKit Go.Mine

abbrev awL : List Gp := [⟨10, 2, 8⟩, ⟨10, 2, 4⟩]
abbrev awM : List Gp := [⟨10, 2, 8⟩, ⟨10, 2, 10⟩]
abbrev awN : List Gp := [⟨10, 2, 8⟩, ⟨10, 2, 0⟩]
theorem aw0 : okG awL = true := by kernel_rfl
theorem aw1 : okG awM = true := by kernel_rfl
theorem aw2 : chgL awL 1 6 = awM := by kernel_rfl
theorem aw3 : chgL awM 1 (-10) = awN := by kernel_rfl
theorem aw4 : divD awL 6 0 = 5 := by kernel_rfl
theorem aw5 : divD awL 6 1 = 1 := by kernel_rfl
theorem aw6 : okG [] = false := by kernel_rfl
theorem aw7 : ovX awL 0 5 = 3 := by kernel_rfl
theorem aw8 : excP ⟨10, 2, 8⟩ = 6 := by kernel_rfl
theorem RetDv.split {o : Nat → Int} {m : Nat} {w w' : World} {e : Ending} (h : RetDv o m w e w') : ∃ g c, e = .returned (.slice (some ⟨g, 0, none⟩) m c) ∧ g < w'.heap.size ∧ (∀ k, k < m → w'.cell? ⟨g, k, none⟩ = some (.int .i64 (o k))) ∧ Grew w w' := by
  obtain ⟨v, rfl, ⟨g, c, rfl, -, hg, hc⟩, G⟩ := h
  exact ⟨g, c, rfl, hg, hc, G⟩
set_option maxRecDepth 100000 in
set_option maxHeartbeats 4000000 in
theorem awake_any (w : World) : Calls Try.prog 10 #[] w (RetG (.bool true) w) := by
  have R0 : RowE 33 3 encG (w.alloc (.cells #[.int .i64 10, .int .i64 2, .int .i64 8, .int .i64 10, .int .i64 2, .int .i64 4] 33)) w.heap.size (.slice (some ⟨w.heap.size, 0, none⟩) 2 2) awL := RowE.lit w _ rfl rfl (by decide) (Nat.le_refl _)
  have HR0 := Lib.hid R0
  have HG0 := Lib.hid ((Grew.refl w).alloc (.cells #[.int .i64 10, .int .i64 2, .int .i64 8, .int .i64 10, .int .i64 2, .int .i64 4] 33))
  clear R0
  go_enter Try.func10, Try.ntmps10
  go_upto_region 2 with fail
  generalize World.alloc w _ = w0 at *
  generalize w.heap.size = sz at *
  have hcon : Calls Try.prog 9 #[_, .int .i64 6] _ (RetDv (divD awL 6) awL.length _) := divide_p (k := 6) HR0.out aw0 (by decide)
  go_wp2_with fail
  with_reducible refine hcon.mono ?_
  clear hcon
  intro e w1 h
  obtain ⟨gd, cd, rfl, hgd, hcd, G1⟩ := h.split
  have d0 := (hcd 0 (by decide)).trans (by rw [aw4])
  have d1 := (hcd 1 (by decide)).trans (by rw [aw5])
  have HR1 := Lib.hid (HR0.out.grew G1)
  have HG1 := Lib.hid (HG0.out.trans G1)
  have HD0 := Lib.hid d0
  have HD1 := Lib.hid d1
  clear h hcd G1 d0 d1 HR0 HG0
  have hcon : Calls Try.prog 15 #[_, .int .i64 1, .int .i64 6] _ (RetGE (chgL awL 1 6) _) := charge_p (t := 1) (k := 6) HR1.out aw0 (by decide) (by decide) (by decide) (by decide)
  go_wp2_with fail
  with_reducible refine hcon.mono ?_
  clear hcon
  rintro e w2 ⟨v2, rfl, M2, G2⟩
  rw [aw2] at M2
  have HR2 := Lib.hid (HR1.out.grew G2)
  have HM2 := Lib.hid M2
  have HG2 := Lib.hid (HG1.out.trans G2)
  have HD20 := Lib.hid ((G2.cells.1 gd 0 hgd).trans HD0.out)
  have HD21 := Lib.hid ((G2.cells.1 gd 1 hgd).trans HD1.out)
  have hgd2 := Nat.lt_of_lt_of_le hgd G2.size
  clear M2 G2 HR1 HG1 HD0 HD1 hgd
  have hcon : Calls Try.prog 15 #[_, .int .i64 1, .int .i64 7] _ (RetG (.tuple #[.slice none 0 0, .int .i64 3]) _) := charge_no (t := 1) (k := 7) HR2.out aw0 (by decide) (by decide) (by decide) (by decide)
  go_wp2_with fail
  with_reducible refine hcon.mono ?_
  clear hcon
  rintro e w3 ⟨rfl, G3⟩
  have HR3 := Lib.hid (HR2.out.grew G3)
  have HM3 := Lib.hid (HM2.out.grew G3)
  have HG3 := Lib.hid (HG2.out.trans G3)
  have HD30 := Lib.hid ((G3.cells.1 gd 0 hgd2).trans HD20.out)
  have HD31 := Lib.hid ((G3.cells.1 gd 1 hgd2).trans HD21.out)
  have hgd3 := Nat.lt_of_lt_of_le hgd2 G3.size
  clear G3 HR2 HM2 HG2 HD20 HD21 hgd2
  have hcon : Calls Try.prog 16 #[_, .int .i64 1, .int .i64 10] _ (RetGE (chgL awM 1 (-10)) _) := uncharge_p (t := 1) (k := 10) HM3.out aw1 (by decide) (by decide) (by decide) (by decide)
  go_wp2_with fail
  with_reducible refine hcon.mono ?_
  clear hcon
  rintro e w4 ⟨v4, rfl, N4, G4⟩
  rw [aw3] at N4
  have HR4 := Lib.hid (HR3.out.grew G4)
  have HM4 := Lib.hid (HM3.out.grew G4)
  have HG4 := Lib.hid (HG3.out.trans G4)
  have d0 := (G4.cells.1 gd 0 hgd3).trans HD30.out
  have d1 := (G4.cells.1 gd 1 hgd3).trans HD31.out
  have hgd4 := Nat.lt_of_lt_of_le hgd3 G4.size
  obtain ⟨a2, c2, rfl, -⟩ := HM4.out.gps
  obtain ⟨-, g2, rfl, -, hg2, -, -, m5⟩ := HM4.out.gat (k := 1) (by decide)
  obtain ⟨a4, c4, rfl, -⟩ := N4.gps
  obtain ⟨-, g4, rfl, -, hg4, -, -, n5⟩ := N4.gat (k := 1) (by decide)
  obtain ⟨-, g0, e0, -, hg0, l0, l1, l2⟩ := HR4.out.gat (k := 0) (by decide)
  injection e0 with e0
  injection e0 with e0
  subst e0
  have m5 : w4.cell? ⟨g2, 5, none⟩ = some (.int .i64 10) := m5
  have n5 : w4.cell? ⟨g4, 5, none⟩ = some (.int .i64 0) := n5
  have l0 : w4.cell? ⟨sz, 0, none⟩ = some (.int .i64 10) := l0
  have l1 : w4.cell? ⟨sz, 1, none⟩ = some (.int .i64 2) := l1
  have l2 : w4.cell? ⟨sz, 2, none⟩ = some (.int .i64 8) := l2
  rw [show awM.length = 2 from rfl, show awN.length = 2 from rfl]
  clear G4 HR3 HM3 HG3 HD30 HD31 hgd3 N4 HM4
  have hcon : Calls Try.prog 12 #[gpV ⟨10, 2, 8⟩] w4 (RetG (.int .i64 6) w4) := excess_p (x := ⟨10, 2, 8⟩) (okG_at (L := awL) (k := 0) aw0 (by decide))
  go_wp2_with fail
  with_reducible refine hcon.mono ?_
  clear hcon
  rintro e w5 ⟨rfl, G5⟩
  have HR5 := Lib.hid (HR4.out.grew G5)
  have HG5 := Lib.hid (HG4.out.trans G5)
  clear G5 HR4 HG4 d0 d1 m5 n5 l0 l1 l2
  have hcon : Calls Try.prog 17 #[_, .int .i64 0, .int .i64 5] _ (RetG (.int .i64 3) _) := over_p (t := 0) (k := 5) HR5.out aw0 (by decide) (by decide) (by decide) aw7
  go_wp2_with fail
  with_reducible refine hcon.mono ?_
  clear hcon
  rintro e w6 ⟨rfl, G6⟩
  have HR6 := Lib.hid (HR5.out.grew G6)
  have HG6 := Lib.hid (HG5.out.trans G6)
  clear G6 HR5 HG5
  go_wp2_with fail
  with_reducible refine (check_p HR6.out (by decide) aw0).mono ?_
  rintro e w7 ⟨rfl, G7⟩
  have HG7 := Lib.hid (HG6.out.trans G7)
  clear G7 HR6 HG6
  go_wp2_with fail
  with_reducible refine (check_p (RowE.nil w7 0) (by decide) aw6).mono ?_
  rintro e w8 ⟨rfl, G8⟩
  have HG8 := Lib.hid (HG7.out.trans G8)
  clear G8 HG7
  go_wp2
  go_ret
  exact ⟨rfl, HG8.out⟩
end Go.Proofs.Ytgcblkibnihplaa
