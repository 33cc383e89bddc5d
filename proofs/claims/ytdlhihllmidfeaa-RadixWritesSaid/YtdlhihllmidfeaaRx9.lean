/- radix.Set, Get, Mark, Unmark, Marked. -/
import Derived.Test.YtdlhihllmidfeaaRx8
namespace Go.Proofs.Ytdlhihllmidfeaa
open Go.RowKit Go.Mine

section
variable {w w' : World} {p q : Nat → Prop} {h : Nat} {f : Fen} {s : Value} {x m : Int}
theorem TreeF.le (n : TreeF w p h f s x m) : h ≤ 4 := n.1
theorem TreeF.node (n : TreeF w p h f s x m) : NodeF w p h f s x m := n.2.1
theorem TreeF.good (n : TreeF w p h f s x m) : GoodF f := n.2.2.1
theorem TreeF.valid (n : TreeF w p h f s x m) : validB h f = true := n.2.2.2.1
theorem TreeF.out (n : TreeF w p h f s x m) : ∀ j, p4 h ≤ j → f j = (0, 0) := n.2.2.2.2
theorem TreeF.grew (n : TreeF w p h f s x m) (g : Grew w w') : TreeF w' p h f s x m := ⟨n.1, n.2.1.grew g, n.2.2⟩
theorem TreeF.mono (n : TreeF w p h f s x m) (hp : ∀ g, p g → g < w.heap.size → q g) : TreeF w q h f s x m := ⟨n.1, n.2.1.mono hp, n.2.2⟩
theorem leaf_zero {v : Int} (hv : (Lit.int .i64 v).wf = true) : LefOK (v, 0) := ⟨hv, Int.le_refl _, by show (0 : Int) ≤ 7; omega, fun _ => rfl⟩
end
def rangeI (i : Int) : Bool := decide (0 ≤ i ∧ i ≤ 255)
def chkE (i : Int) : Int := match rangeI i with | true => 0 | false => 2
theorem check_f (h : Nat) (f : Fen) (s : Value) (x m : Int) (i : Int) (p : Nat → Prop) (w : World) (n : TreeF w p h f s x m) : Calls Try.prog 49 #[treeV h s x m, .int .i64 i] w (RetG (.int .i64 (chkE i)) w) := by
  obtain ⟨hh, n1, hf, hv, -⟩ := n
  obtain ⟨a, j, c, rfl⟩ := n1.slice
  have HN := Lib.hid n1
  have HF := Lib.hid hf
  have HV := Lib.hid hv
  clear n1 hf hv
  go_enter Try.func49, Try.ntmps49
  have G := (Grew.refl w).alloc (.cells #[.int .i64 h, .slice a j c, .int .i64 x, .int .i64 m] 28)
  go_wp2_with fail
  with_reducible refine (valid_f h f _ _ _ p _ (HN.out.grew G) HF.out hh).mono ?_
  rintro e w1 ⟨rfl, g1⟩
  rw [HV.out]
  go_wp2
  all_goals
    go_ret
    refine ⟨ret_int ?_, G.trans g1⟩
    unfold chkE
    first | rw [show rangeI i = false from decide_eq_false (by omega)] | rw [show rangeI i = true from decide_eq_true (by omega)]
/-- It returns a tree of its own with these entries, and no error. -/
def RetSet (F : Fen) (w : World) (e : Ending) (w' : World) : Prop := ∃ k s x m, e = .returned (.tuple #[treeV k s x m, .int .i64 0]) ∧ TreeF w' (fun b => w.heap.size ≤ b) k F s x m ∧ Grew w w'
theorem set_f (h : Nat) (f : Fen) (s : Value) (x m v : Int) (i : Nat) (p : Nat → Prop) (w : World) (n : TreeF w p h f s x m) (hi : i < 256) (hv : (Lit.int .i64 v).wf = true) :
    Calls Try.prog 28 #[treeV h s x m, .int .i64 i, .int .i64 v] w (RetSet (updG f i (v, 0)) w) := by
  obtain ⟨a, j, c, rfl⟩ := n.2.1.slice
  have HN := Lib.hid n
  have HV := Lib.hid hv
  clear n hv
  go_enter Try.func28, Try.ntmps28
  have T := (Own.new w 28 #[.int .i64 h, .slice a j c, .int .i64 x, .int .i64 m]).alloc (.cells #[.int .i64 0, .slice none 0 0, .int .i64 0, .int .i64 0] 28)
  have R := Own.new2 w (.cells #[.int .i64 h, .slice a j c, .int .i64 x, .int .i64 m] 28) 28 #[.int .i64 0, .slice none 0 0, .int .i64 0, .int .i64 0]
  have G := ((Grew.refl w).alloc (.cells #[.int .i64 h, .slice a j c, .int .i64 x, .int .i64 m] 28)).alloc (.cells #[.int .i64 0, .slice none 0 0, .int .i64 0, .int .i64 0] 28)
  go_wp2_with fail
  with_reducible refine (check_f h f _ _ _ i p _ (HN.out.grew G)).mono ?_
  rintro e w1 ⟨rfl, g1⟩
  rw [show chkE (i : Int) = 0 from by unfold chkE; rw [show rangeI (i : Int) = true from decide_eq_true (by omega)]]
  replace T := T.grew g1
  replace R := R.grew g1
  replace G := G.trans g1
  clear g1
  obtain ⟨T0, T1, T2, T3, -⟩ := T.four
  have hlR := R.lt
  go_wp2_with fail
  with_reducible refine (replace_f h f _ _ _ v 0 i p _ (HN.out.node.grew G) HN.out.good HN.out.out HN.out.le hi (leaf_zero HV.out)).mono ?_
  rintro e w2 ⟨k, s', x', m', rfl, n2, g2⟩
  obtain ⟨a', j', c', rfl⟩ := n2.2.1.slice
  have HN2 := Lib.hid n2
  replace R := R.grew g2
  replace G := G.trans g2
  clear n2 g2 T0 T1 T2 T3 T
  obtain ⟨R0, R1, R2, R3, R4, R5, R6, R7⟩ := R.four
  go_wp2_with fail
  generalize hw3 : World.setCell (World.setCell (World.setCell (World.setCell _ _ _) _ _) _ _) _ _ = w3
  have OE := own4 hw3 R
  have GE := grew4 hw3 G (by omega)
  have nE := node4 hw3 HN2.out.2.1 (fun b hb => by omega)
  clear hw3 R0 R1 R2 R3 R4 R5 R6 R7
  obtain ⟨b0, b1, b2, b3, -⟩ := OE.four
  refine bodyPost_ret (v := .tuple #[treeV k (.slice a' j' c') x' m', .int .i64 0]) (by simp [results, Try.results28, go_sem, b0, b1, b2, b3]) rfl ⟨_, _, _, _, rfl, ⟨HN2.out.1, nE.mono (fun b hb _ => by omega), HN2.out.2.2⟩, GE⟩
theorem field1 (s : Value) (x m : Int) (w : World) : (Instr.field 26 (nodeV s x m) 1).run Try.prog w = .ok (.int .i64 x) w := by kernel_rfl
theorem field2 (s : Value) (x m : Int) (w : World) : (Instr.field 26 (nodeV s x m) 2).run Try.prog w = .ok (.int .i64 m) w := by kernel_rfl
theorem get_f (h : Nat) (f : Fen) (s : Value) (x m : Int) (i : Nat) (p : Nat → Prop) (w : World) (n : TreeF w p h f s x m) (hi : i < 256) :
    Calls Try.prog 17 #[treeV h s x m, .int .i64 i] w (RetG (.int .i64 (f i).1) w) := by
  obtain ⟨a, j, c, rfl⟩ := n.2.1.slice
  have HN := Lib.hid n
  clear n
  go_enter Try.func17, Try.ntmps17
  have T := Own.new w 28 #[.int .i64 h, .slice a j c, .int .i64 x, .int .i64 m]
  have G := (Grew.refl w).alloc (.cells #[.int .i64 h, .slice a j c, .int .i64 x, .int .i64 m] 28)
  go_wp2_with fail
  with_reducible refine (check_f h f _ _ _ i p _ (HN.out.grew G)).mono ?_
  rintro e w1 ⟨rfl, g1⟩
  rw [show chkE (i : Int) = 0 from by unfold chkE; rw [show rangeI (i : Int) = true from decide_eq_true (by omega)]]
  replace T := T.grew g1
  replace G := G.trans g1
  clear g1
  obtain ⟨T0, T1, T2, T3, -⟩ := T.four
  go_wp2_with fail
  with_reducible refine (find_f h f _ _ _ i p _ (HN.out.node.grew G) HN.out.le hi (HN.out.out i)).mono ?_
  rintro e w2 ⟨a2, c2, rfl, g2⟩
  have hfd := field1
  go_wp2
  go_ret
  exact ⟨rfl, G.trans g2⟩
end Go.Proofs.Ytdlhihllmidfeaa
