/- Mark where it is refused because there is no frame (layer 1). -/
import Derived.Test.YtdlhihllmidfeaaRx10
namespace Go.Proofs.Ytdlhihllmidfeaa
open Go.RowKit Go.Mine

theorem markable_no (h : Nat) (f : Fen) (s : Value) (x m mk : Int) (i : Nat) (p : Nat → Prop) (w : World) (n : TreeF w p h f s x m) (hi : i < 256) (hm : markB mk = true) (hv : (f i).1 ≤ 0) :
    Calls Try.prog 57 #[treeV h s x m, .int .i64 i, .int .i64 mk] w (fun e w' => e = .returned (.tuple #[nodeV (.slice none 0 0) 0 0, .int .i64 4]) ∧ Grew w w') := by
  obtain ⟨a, j, c, rfl⟩ := n.node.slice
  have HN := Lib.hid n
  clear n
  go_enter Try.func57, Try.ntmps57
  have T := (Own.new w 28 #[.int .i64 h, .slice a j c, .int .i64 x, .int .i64 m]).alloc (.cells #[.slice none 0 0, .int .i64 0, .int .i64 0] 26)
  have R := Own.new2 w (.cells #[.int .i64 h, .slice a j c, .int .i64 x, .int .i64 m] 28) 26 #[.slice none 0 0, .int .i64 0, .int .i64 0]
  have G := ((Grew.refl w).alloc (.cells #[.int .i64 h, .slice a j c, .int .i64 x, .int .i64 m] 28)).alloc (.cells #[.slice none 0 0, .int .i64 0, .int .i64 0] 26)
  go_wp2_with fail
  with_reducible refine (check_f h f _ _ _ i p _ (HN.out.grew G)).mono ?_
  rintro e w1 ⟨rfl, g1⟩
  rw [show chkE (i : Int) = 0 from by unfold chkE; rw [show rangeI (i : Int) = true from decide_eq_true (by omega)]]
  replace T := T.grew g1
  replace R := R.grew g1
  replace G := G.trans g1
  clear g1
  go_wp2_with fail
  with_reducible refine (isMark_any mk _).mono ?_
  rintro e w2 ⟨rfl, rfl⟩
  rw [hm]
  obtain ⟨T0, T1, T2, T3, -⟩ := T.four
  go_wp2_with fail
  with_reducible refine (find_f h f _ _ _ i p _ (HN.out.node.grew G) HN.out.le hi (HN.out.out i)).mono ?_
  rintro e w3 ⟨a2, c2, rfl, g2⟩
  replace R := R.grew g2
  replace G := G.trans g2
  clear g2 T0 T1 T2 T3 T
  obtain ⟨R0, R1, R2, R3, R4, R5⟩ := R.three
  have hlR := R.lt
  generalize (f i).1 = lv at *
  generalize (f i).2 = lm at *
  have d0 : decide (lv ≤ 0) = true := decide_eq_true (by omega)
  clear hv
  go_wp2_with fail
  generalize hw4 : World.setCell (World.setCell (World.setCell _ _ _) _ _) _ _ = w4
  have OE := (R.store3 hw4).alloc (.cells #[.slice a2 0 c2, .int .i64 lv, .int .i64 lm] 26)
  have GE := (G.far3 hw4 (by omega)).alloc (.cells #[.slice a2 0 c2, .int .i64 lv, .int .i64 lm] 26)
  clear hw4 R0 R1 R2 R3 R4 R5
  obtain ⟨b0, b1, b2, -⟩ := OE.three
  exact bodyPost_ret (v := .tuple #[nodeV (.slice none 0 0) 0 0, .int .i64 4]) (by simp [results, Try.results57, go_sem, b0, b1, b2]) rfl ⟨rfl, GE⟩
set_option maxHeartbeats 4000000 in
theorem mark_no (h : Nat) (f : Fen) (s : Value) (x m mk : Int) (i : Nat) (p : Nat → Prop) (w : World) (n : TreeF w p h f s x m) (hi : i < 256) (hm : markB mk = true) (hv : (f i).1 ≤ 0) :
    Calls Try.prog 30 #[treeV h s x m, .int .i64 i, .int .i64 mk] w (fun e w' => e = .returned (.tuple #[treeV 0 (.slice none 0 0) 0 0, .int .i64 4]) ∧ Grew w w') := by
  obtain ⟨a, j, c, rfl⟩ := n.node.slice
  have HN := Lib.hid n
  clear n
  go_enter Try.func30, Try.ntmps30
  have T := (Own.new w 28 #[.int .i64 h, .slice a j c, .int .i64 x, .int .i64 m]).alloc (.cells #[.int .i64 0, .slice none 0 0, .int .i64 0, .int .i64 0] 28)
  have R := Own.new2 w (.cells #[.int .i64 h, .slice a j c, .int .i64 x, .int .i64 m] 28) 28 #[.int .i64 0, .slice none 0 0, .int .i64 0, .int .i64 0]
  have G := ((Grew.refl w).alloc (.cells #[.int .i64 h, .slice a j c, .int .i64 x, .int .i64 m] 28)).alloc (.cells #[.int .i64 0, .slice none 0 0, .int .i64 0, .int .i64 0] 28)
  go_wp2_with fail
  with_reducible refine (markable_no h f _ _ _ mk i p _ (HN.out.grew G) hi hm hv).mono ?_
  rintro e w1 ⟨rfl, g1⟩
  replace R := R.grew g1
  replace G := G.trans g1
  clear g1 T
  have hlR := R.lt
  obtain ⟨R0, R1, R2, R3, R4, R5, R6, R7⟩ := R.four
  go_wp2_with fail
  generalize hw3 : World.setCell (World.setCell (World.setCell (World.setCell _ _ _) _ _) _ _) _ _ = w3
  have OE := (own4 hw3 R).alloc (.cells #[.slice none 0 0, .int .i64 0, .int .i64 0] 26)
  have GE := (grew4 hw3 G (by omega)).alloc (.cells #[.slice none 0 0, .int .i64 0, .int .i64 0] 26)
  clear hw3 R0 R1 R2 R3 R4 R5 R6 R7
  obtain ⟨b0, b1, b2, b3, -⟩ := OE.four
  exact bodyPost_ret (v := .tuple #[treeV 0 (.slice none 0 0) 0 0, .int .i64 4]) (by simp [results, Try.results30, go_sem, b0, b1, b2, b3]) rfl ⟨rfl, GE⟩
end Go.Proofs.Ytdlhihllmidfeaa
