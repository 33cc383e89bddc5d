/- radix.Unmark. -/
import Derived.Test.YtdlhihllmidfeaaRx10
namespace Go.Proofs.Ytdlhihllmidfeaa
open Go.RowKit Go.Mine

def anI (a b : Int) : Int := bits .andNot .i64 a b
theorem an8 {a b : Int} (a0 : 0 ≤ a) (a1 : a ≤ 7) (hb : b = 1 ∨ b = 2 ∨ b = 4) : 0 ≤ anI a b ∧ anI a b ≤ 7 := by
  have ha : a = 0 ∨ a = 1 ∨ a = 2 ∨ a = 3 ∨ a = 4 ∨ a = 5 ∨ a = 6 ∨ a = 7 := by omega
  rcases ha with rfl | rfl | rfl | rfl | rfl | rfl | rfl | rfl <;> rcases hb with rfl | rfl | rfl <;> decide +kernel
theorem unmark_lef {f : Fen} {i : Nat} {mk : Int} (hf : GoodF f) (hm : markB mk = true) (hv : 0 < (f i).1) : LefOK ((f i).1, anI (f i).2 mk) := by
  have h1 := hf i
  have h2 : mk = 1 ∨ mk = 2 ∨ mk = 4 := of_decide_eq_true hm
  have h3 := an8 (a := (f i).2) (b := mk) h1.2.1 h1.2.2.1 h2
  exact ⟨h1.1, h3.1, h3.2, fun h => by omega⟩
set_option maxHeartbeats 4000000 in
theorem unmark_ok (h : Nat) (f : Fen) (s : Value) (x m mk : Int) (i : Nat) (p : Nat → Prop) (w : World) (n : TreeF w p h f s x m) (hi : i < 256) (hm : markB mk = true) (hv : 0 < (f i).1) :
    Calls Try.prog 32 #[treeV h s x m, .int .i64 i, .int .i64 mk] w (RetSet (updG f i ((f i).1, anI (f i).2 mk)) w) := by
  obtain ⟨a, j, c, rfl⟩ := n.node.slice
  have HN := Lib.hid n
  have HL := Lib.hid (unmark_lef (i := i) n.good hm hv)
  clear n
  go_enter Try.func32, Try.ntmps32
  have T := (Own.new w 28 #[.int .i64 h, .slice a j c, .int .i64 x, .int .i64 m]).alloc (.cells #[.int .i64 0, .slice none 0 0, .int .i64 0, .int .i64 0] 28)
  have R := Own.new2 w (.cells #[.int .i64 h, .slice a j c, .int .i64 x, .int .i64 m] 28) 28 #[.int .i64 0, .slice none 0 0, .int .i64 0, .int .i64 0]
  have G := ((Grew.refl w).alloc (.cells #[.int .i64 h, .slice a j c, .int .i64 x, .int .i64 m] 28)).alloc (.cells #[.int .i64 0, .slice none 0 0, .int .i64 0, .int .i64 0] 28)
  go_wp2_with fail
  with_reducible refine (markable_f h f _ _ _ mk i p _ (HN.out.grew G) hi hm hv).mono ?_
  rintro e w1 ⟨a2, c2, rfl, g1⟩
  replace T := T.grew g1
  replace R := R.grew g1
  replace G := G.trans g1
  clear g1
  generalize hlv : (f i).1 = lv at *
  generalize hlm : (f i).2 = lm at *
  have HLv := Lib.hid hlv
  have HLm := Lib.hid hlm
  clear hlv hlm
  have hlR := R.lt
  have hlT := T.lt
  obtain ⟨T0, T1, T2, T3, -⟩ := T.four
  go_wp2_with fail
  have hw1 := (Grew.refl w1).alloc (.cells #[.slice a2 0 c2, .int .i64 lv, .int .i64 lm] 26)
  have HL2 : LefOK (lv, bits .andNot .i64 lm mk) := HL.out
  with_reducible refine (replace_f h f _ _ _ lv (bits .andNot .i64 lm mk) i p _ (HN.out.node.grew (G.trans hw1)) HN.out.good HN.out.out HN.out.le hi HL2).mono ?_
  rintro e w2 ⟨k, s', x', m', rfl, n2, g2⟩
  obtain ⟨a', j', c', rfl⟩ := n2.node.slice
  have HN2 := Lib.hid n2
  replace R := R.grew (hw1.trans g2)
  replace G := G.trans (hw1.trans g2)
  have g3 := hw1.trans g2 |>.size
  clear n2 g2 T0 T1 T2 T3 T hw1
  obtain ⟨R0, R1, R2, R3, R4, R5, R6, R7⟩ := R.four
  go_wp2_with fail
  generalize hw3 : World.setCell (World.setCell (World.setCell (World.setCell _ _ _) _ _) _ _) _ _ = w3
  have OE := own4 hw3 R
  have GE := grew4 hw3 G (by omega)
  have nE := node4 hw3 HN2.out.node (fun b hb => by simp at hb; omega)
  clear hw3 R0 R1 R2 R3 R4 R5 R6 R7
  obtain ⟨b0, b1, b2, b3, -⟩ := OE.four
  refine bodyPost_ret (v := .tuple #[treeV k (.slice a' j' c') x' m', .int .i64 0]) (by simp [results, Try.results32, go_sem, b0, b1, b2, b3]) rfl ⟨_, _, _, _, rfl, ⟨HN2.out.1, nE.mono (fun b hb _ => by simp at hb; omega), HN2.out.2.2⟩, GE⟩
end Go.Proofs.Ytdlhihllmidfeaa
