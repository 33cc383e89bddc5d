/- The law's own awake (layer 6): contract. -/
import Derived.Test.YthdcmknenjallaaStG
namespace Go.Proofs.Ythdcmknenjallaa
open Go.RowKit Go.Mine

theorem rowN_nil (w : World) (B : Nat) : RowN 36 w B (.slice none 0 0) [] := ⟨RowE.nil _ _, fun _ => rfl⟩
theorem rowN_one {w : World} {B : Nat} {v : Value} {x : Str} (h : RowN 36 w B v [x]) : ∃ g c, v = .slice (some ⟨g, 0, none⟩) 1 c ∧ g < w.heap.size ∧ ElS w g 0 x := by
  obtain ⟨a, c, rfl, r, -⟩ := h.rd
  obtain ⟨g, rfl, hg, he⟩ := r 0 Nat.zero_lt_one
  exact ⟨g, c, rfl, hg, he⟩
theorem milds0 : Milds [] := fun k hk => absurd hk (Nat.not_lt_zero k)
theorem milds1 {x : Str} (h : Mild x) : Milds [x] := fun k hk => by
  have : k = 0 := by simp at hk; omega
  subst this; exact h
set_option maxHeartbeats 2000000 in
theorem awake_any (w : World) : Calls Try.prog 18 #[] w (RetG (.bool true) w) := by
  go_enter Try.func18, Try.ntmps18
  go_wp2
  refine wp_loop_rounds 4 ?_
  rw [rounds_succ]
  go_wp2_with fail
  with_reducible refine (feed_L (L := []) (B := w.heap.size) _ _ _ _ (rowN_nil _ _) (by decide) milds0 aw1.1 aw1.2.1 aw1.2.2).mono ?_
  rintro e w1 ⟨v1, rfl, R1, G1⟩
  have H1 := Lib.hid R1
  clear R1
  go_wp2_with fail
  rw [rounds_succ]
  go_wp2_with fail
  with_reducible refine (feed_L _ _ _ _ H1.out (by decide) (milds1 (by unfold Mild; decide)) aw2.1 aw2.2.1 aw2.2.2).mono ?_
  rintro e w2 ⟨v2, rfl, R2, G2⟩
  have H2 := Lib.hid R2
  clear R2
  go_wp2_with fail
  rw [rounds_succ]
  go_wp2_with fail
  with_reducible refine (feed_L _ _ _ _ H2.out (by decide) (milds1 (by unfold Mild; decide)) aw3.1 aw3.2.1 aw3.2.2).mono ?_
  rintro e w3 ⟨v3, rfl, R3, G3⟩
  obtain ⟨g, c, rfl, hg, h3⟩ := rowN_one R3
  have H3 := Lib.hid R3
  have GA := (G1.trans G2).trans G3
  clear R3 G1 G2 G3 H1 H2
  go_wp2_with fail
  rw [rounds_succ]
  obtain ⟨p0, p1, p2, p3, p4, p5⟩ := h3
  rw [show 0 * 6 = 0 from rfl] at p0
  rw [show 0 * 6 + 1 = 1 from rfl] at p1
  rw [show 0 * 6 + 2 = 2 from rfl] at p2
  rw [show 0 * 6 + 3 = 3 from rfl] at p3
  rw [show 0 * 6 + 4 = 4 from rfl] at p4
  rw [show 0 * 6 + 5 = 5 from rfl] at p5
  go_wp2_with fail
  have G4 : Grew w3 (w3.alloc (.cells #[] 3)) := (Grew.refl _).alloc _
  with_reducible refine (predict_any ⟨2, 2, 3, 0, 2, 3⟩ 2 _ (by unfold Mild; decide)).mono ?_
  rw [aw4.1]
  rintro e w5 ⟨vp, rfl, RP, G5⟩
  obtain ⟨ap, np, cp, rfl, hn, hcell⟩ := RP.ints
  obtain rfl : np = 2 := hn
  obtain ⟨q, rfl, hq, -, x0⟩ := hcell 0 (by omega)
  obtain ⟨q', e', -, -, x1⟩ := hcell 1 (by omega)
  obtain rfl : q = q' := by injection e' with e'; injection e'
  rw [show [(3 : Int), 4].getD 0 0 = 3 from rfl] at x0
  rw [show [(3 : Int), 4].getD 1 0 = 4 from rfl] at x1
  have G6 := G4.trans G5
  have H6 := Lib.hid (H3.out.grew G6)
  have P0 := (G6.cells.1 g 0 hg).trans p0
  have P1 := (G6.cells.1 g 1 hg).trans p1
  have P2 := (G6.cells.1 g 2 hg).trans p2
  have P3 := (G6.cells.1 g 3 hg).trans p3
  have P4 := (G6.cells.1 g 4 hg).trans p4
  have P5 := (G6.cells.1 g 5 hg).trans p5
  have hg5 := Nat.lt_of_lt_of_le hg G6.size
  have GB := GA.trans G6
  clear p0 p1 p2 p3 p4 p5 hcell RP e' G4 G5 G6 GA
  go_wp2_with fail
  with_reducible refine (sure_any ⟨2, 2, 3, 0, 2, 3⟩ _ (by unfold Mild; decide)).mono ?_
  rw [aw4.2.1]
  rintro e w7 ⟨rfl, G7⟩
  have H7 := Lib.hid (H6.out.grew G7)
  have y0 := (G7.cells.1 q 0 hq).trans x0
  have y1 := (G7.cells.1 q 1 hq).trans x1
  have GC := GB.trans G7
  clear x0 x1 P0 P1 P2 P3 P4 P5 H6 G7 GB
  go_wp2_with fail
  with_reducible refine (check_L _ _ H7.out (by decide) (milds1 (by unfold Mild; decide)) aw4.2.2).mono ?_
  rintro e w8 ⟨rfl, G8⟩
  go_wp2
  go_ret
  exact ⟨rfl, GC.trans G8⟩
end Go.Proofs.Ythdcmknenjallaa
