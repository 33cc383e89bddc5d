/- radix.Mark, Marked, Count. -/
import Derived.Test.YtdlhihllmidfeaaRx9
namespace Go.Proofs.Ytdlhihllmidfeaa
open Go.RowKit Go.Mine

def markB (m : Int) : Bool := decide (m = 1 ∨ m = 2 ∨ m = 4)
theorem isMark_any (m : Int) (w : World) : Calls Try.prog 52 #[.int .i64 m] w (RetS (.bool (markB m)) w) := by
  go_enter Try.func52, Try.ntmps52
  go_wp2
  all_goals
    go_ret
    refine ⟨ret_bool ?_, rfl⟩
    unfold markB
    try simp only [beq_eq_false_iff_ne, ne_eq, beq_iff_eq] at *
    first | (symm; rw [decide_eq_false_iff_not]; omega) | (symm; rw [decide_eq_true_iff]; omega) | (rw [Bool.eq_iff_iff]; simp only [decide_eq_true_eq, Bool.or_eq_true, beq_iff_eq]; omega)
/-- The leaf of a frame entry whose mark may be changed, and its error. -/
def RetMk (l : Lef) (er : Int) (w : World) (e : Ending) (w' : World) : Prop := ∃ a c, e = .returned (.tuple #[nodeV (.slice a 0 c) l.1 l.2, .int .i64 er]) ∧ Grew w w'
set_option maxHeartbeats 4000000 in
theorem markable_f (h : Nat) (f : Fen) (s : Value) (x m mk : Int) (i : Nat) (p : Nat → Prop) (w : World) (n : TreeF w p h f s x m) (hi : i < 256) (hm : markB mk = true) (hv : 0 < (f i).1) :
    Calls Try.prog 57 #[treeV h s x m, .int .i64 i, .int .i64 mk] w (RetMk (f i) 0 w) := by
  obtain ⟨a, j, c, rfl⟩ := n.node.slice
  have HN := Lib.hid n
  clear n
  go_enter Try.func57, Try.ntmps57
  have T := (Own.new w 28 #[.int .i64 h, .slice a j c, .int .i64 x, .int .i64 m]).alloc (.cells #[.slice none 0 0, .int .i64 0, .int .i64 0] 26)
  have R := Own.new2 w (.cells #[.int .i64 h, .slice a j c, .int .i64 x, .int .i64 m] 28) 26 #[.slice none 0 0, .int .i64 0, .int .i64 0]
  have G := ((Grew.refl w).alloc (.cells #[.int .i64 h, .slice a j c, .int .i64 x, .int .i64 m] 28)).alloc (.cells #[.slice none 0 0, .int .i64 0, .int .i64 0] 26)
  go_wp2_with fail
  with_reducible refine (check_f h f _ _ _ i p _ (HN.out.grew G)).mono ?_
  rintro e w1 ⟨rfl, g1⟩
  rw [show chkE (i : Int) = 0 from by unfold chkE; rw [show rangeI (i : Int) = true from decide_eq_true (by omega)]]
  replace T := T.grew g1
  replace R := R.grew g1
  replace G := G.trans g1
  clear g1
  go_wp2_with fail
  with_reducible refine (isMark_any mk _).mono ?_
  rintro e w2 ⟨rfl, rfl⟩
  rw [hm]
  obtain ⟨T0, T1, T2, T3, -⟩ := T.four
  go_wp2_with fail
  with_reducible refine (find_f h f _ _ _ i p _ (HN.out.node.grew G) HN.out.le hi (HN.out.out i)).mono ?_
  rintro e w3 ⟨a2, c2, rfl, g2⟩
  replace R := R.grew g2
  replace G := G.trans g2
  clear g2 T0 T1 T2 T3 T
  obtain ⟨R0, R1, R2, R3, R4, R5⟩ := R.three
  have hlR := R.lt
  generalize hlv : (f i).1 = lv at *
  generalize hlm : (f i).2 = lm at *
  have HLv := Lib.hid hlv
  have HLm := Lib.hid hlm
  clear hlv hlm
  have d0 : decide (lv ≤ 0) = false := decide_eq_false (by omega)
  clear hv
  go_wp2_with fail
  generalize hw4 : World.setCell (World.setCell (World.setCell _ _ _) _ _) _ _ = w4
  have OE := (R.store3 hw4).alloc (.cells #[.slice a2 0 c2, .int .i64 lv, .int .i64 lm] 26)
  have GE := (G.far3 hw4 (by omega)).alloc (.cells #[.slice a2 0 c2, .int .i64 lv, .int .i64 lm] 26)
  clear hw4 R0 R1 R2 R3 R4 R5
  obtain ⟨b0, b1, b2, -⟩ := OE.three
  exact bodyPost_ret (v := .tuple #[nodeV (.slice a2 0 c2) lv lm, .int .i64 0]) (by simp [results, Try.results57, go_sem, b0, b1, b2]) rfl ⟨_, _, by rw [HLv.out, HLm.out], GE⟩
theorem mark_lef {f : Fen} {i : Nat} {mk : Int} (hf : GoodF f) (hm : markB mk = true) (hv : 0 < (f i).1) : LefOK ((f i).1, orI (f i).2 mk) := by
  have h1 := hf i
  have h2 : mk = 1 ∨ mk = 2 ∨ mk = 4 := of_decide_eq_true hm
  have h3 := or8 (a := (f i).2) (b := mk) h1.2.1 h1.2.2.1 (by omega) (by omega)
  exact ⟨h1.1, h3.1, h3.2.1, fun h => by omega⟩
set_option maxHeartbeats 4000000 in
theorem mark_ok (h : Nat) (f : Fen) (s : Value) (x m mk : Int) (i : Nat) (p : Nat → Prop) (w : World) (n : TreeF w p h f s x m) (hi : i < 256) (hm : markB mk = true) (hv : 0 < (f i).1) :
    Calls Try.prog 30 #[treeV h s x m, .int .i64 i, .int .i64 mk] w (RetSet (updG f i ((f i).1, orI (f i).2 mk)) w) := by
  obtain ⟨a, j, c, rfl⟩ := n.node.slice
  have HN := Lib.hid n
  have HL := Lib.hid (mark_lef (i := i) n.good hm hv)
  clear n
  go_enter Try.func30, Try.ntmps30
  have T := (Own.new w 28 #[.int .i64 h, .slice a j c, .int .i64 x, .int .i64 m]).alloc (.cells #[.int .i64 0, .slice none 0 0, .int .i64 0, .int .i64 0] 28)
  have R := Own.new2 w (.cells #[.int .i64 h, .slice a j c, .int .i64 x, .int .i64 m] 28) 28 #[.int .i64 0, .slice none 0 0, .int .i64 0, .int .i64 0]
  have G := ((Grew.refl w).alloc (.cells #[.int .i64 h, .slice a j c, .int .i64 x, .int .i64 m] 28)).alloc (.cells #[.int .i64 0, .slice none 0 0, .int .i64 0, .int .i64 0] 28)
  go_wp2_with fail
  with_reducible refine (markable_f h f _ _ _ mk i p _ (HN.out.grew G) hi hm hv).mono ?_
  rintro e w1 ⟨a2, c2, rfl, g1⟩
  replace T := T.grew g1
  replace R := R.grew g1
  replace G := G.trans g1
  clear g1
  generalize hlv : (f i).1 = lv at *
  generalize hlm : (f i).2 = lm at *
  have HLv := Lib.hid hlv
  have HLm := Lib.hid hlm
  clear hlv hlm
  have hlR := R.lt
  have hlT := T.lt
  obtain ⟨T0, T1, T2, T3, -⟩ := T.four
  go_wp2_with fail
  have hw1 := (Grew.refl w1).alloc (.cells #[.slice a2 0 c2, .int .i64 lv, .int .i64 lm] 26)
  have HL2 : LefOK (lv, bits .or .i64 lm mk) := HL.out
  with_reducible refine (replace_f h f _ _ _ lv (bits .or .i64 lm mk) i p _ (HN.out.node.grew (G.trans hw1)) HN.out.good HN.out.out HN.out.le hi HL2).mono ?_
  rintro e w2 ⟨k, s', x', m', rfl, n2, g2⟩
  obtain ⟨a', j', c', rfl⟩ := n2.node.slice
  have HN2 := Lib.hid n2
  replace R := R.grew (hw1.trans g2)
  replace G := G.trans (hw1.trans g2)
  have g3 := hw1.trans g2 |>.size
  clear n2 g2 T0 T1 T2 T3 T hw1
  obtain ⟨R0, R1, R2, R3, R4, R5, R6, R7⟩ := R.four
  go_wp2_with fail
  generalize hw3 : World.setCell (World.setCell (World.setCell (World.setCell _ _ _) _ _) _ _) _ _ = w3
  have OE := own4 hw3 R
  have GE := grew4 hw3 G (by omega)
  have nE := node4 hw3 HN2.out.node (fun b hb => by simp at hb; omega)
  clear hw3 R0 R1 R2 R3 R4 R5 R6 R7
  obtain ⟨b0, b1, b2, b3, -⟩ := OE.four
  refine bodyPost_ret (v := .tuple #[treeV k (.slice a' j' c') x' m', .int .i64 0]) (by simp [results, Try.results30, go_sem, b0, b1, b2, b3]) rfl ⟨_, _, _, _, rfl, ⟨HN2.out.1, nE.mono (fun b hb _ => by simp at hb; omega), HN2.out.2.2⟩, GE⟩
end Go.Proofs.Ytdlhihllmidfeaa
