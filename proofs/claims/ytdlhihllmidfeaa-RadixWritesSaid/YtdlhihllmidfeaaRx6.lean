/- radix.Valid and what calls it alone, at trees that are valid but for their height. -/
import Derived.Test.YtdlhihllmidfeaaRx5
namespace Go.Proofs.Ytdlhihllmidfeaa
open Go.RowKit Go.Mine

def leafB (n : Nat) (x m : Int) : Bool := decide (n = 0 ∧ x ≠ 0 ∧ (m = 0 ∨ (0 < x ∧ 0 < m ∧ m ≤ 7)))
theorem isLeaf_any (a : Option Addr) (n c : Nat) (x m : Int) (w : World) : Calls Try.prog 64 #[nodeV (.slice a n c) x m] w (RetG (.bool (leafB n x m)) w) := by
  go_enter Try.func64, Try.ntmps64
  go_wp2
  all_goals
    go_ret
    refine ⟨ret_bool ?_, (Grew.refl _).alloc _⟩
    unfold leafB
    try simp only [beq_eq_false_iff_ne, ne_eq, beq_iff_eq] at *
    first | (symm; rw [decide_eq_false_iff_not]; omega) | (symm; rw [decide_eq_true_iff]; omega) | (rw [Bool.eq_iff_iff]; simp only [decide_eq_true_eq, Bool.and_eq_true, Bool.or_eq_true, beq_iff_eq]; omega) | trace_state
set_option maxHeartbeats 4000000 in
theorem isSubtree_node (h : Nat) (ih : ∀ (f : Fen) (s : Value) (x m : Int) (p : Nat → Prop) (w : World), NodeF w p h f s x m → GoodF f → Calls Try.prog 44 #[nodeV s x m, .int .i64 h] w (RetG (.bool true) w))
    (f : Fen) (g c : Nat) (m : Int) (p : Nat → Prop) (w : World) (n : KidsF w p h f g) (hg : p g) (e : emp (h + 1) f = false) (hf : GoodF f) (hm : m = orM (h + 1) f) (hh : h ≤ 4) :
    Calls Try.prog 44 #[nodeV (.slice (some ⟨g, 0, none⟩) 4 c) 0 m, .int .i64 ((h : Int) + 1)] w (RetG (.bool true) w) := by
  have HK := Lib.hid n
  have HE := Lib.hid e
  have HM := Lib.hid hm
  have HF := Lib.hid hf
  have HG := Lib.hid hg
  have e0 : ((h : Int) + 1 == 0) = false := by simp; omega
  clear n e hm hf hg
  go_enter Try.func44, Try.ntmps44
  have B := Own.new w 26 #[.slice (some ⟨g, 0, none⟩) 4 c, .int .i64 0, .int .i64 m]
  have G := (Grew.refl w).alloc (.cells #[.slice (some ⟨g, 0, none⟩) 4 c, .int .i64 0, .int .i64 m] 26)
  go_wp2_with fail
  have hN : NodeF w p (h + 1) f (.slice (some ⟨g, 0, none⟩) 4 c) 0 m := by rw [HM.out]; exact NodeF.some HK.out HG.out HE.out
  with_reducible refine (isEmpty_f (h + 1) f _ _ _ p _ (hN.grew G) HF.out).mono ?_
  rintro e w1 ⟨rfl, g1⟩
  rw [HE.out]
  clear hN
  replace B := B.grew g1
  replace G := G.trans g1
  clear g1
  obtain ⟨B0, B1, B2, B3, B4, B5⟩ := B.three
  go_wp2_with fail
  have HB0 := Lib.hid B
  have HG0 := Lib.hid G
  clear B G B0 B1 B2 B3 B4 B5
  go_loopw [26] (fun i' wr => ∃ (k : Nat), i' = .int .i64 k ∧ k ≤ 4 ∧ Own wr w.heap.size 26 #[.slice (some ⟨g, 0, none⟩) 4 c, .int .i64 0, .int .i64 m] ∧ Grew w wr) (fun i _ => 4 - (intOf i).toNat)
  case atStart => exact ⟨0, rfl, by omega, HB0.out, HG0.out⟩
  case round =>
    clear HB0 HG0
    obtain ⟨k, rfl, hk4, B, G⟩ := hrel
    obtain ⟨B0, B1, B2, B3, B4, B5⟩ := B.three
    by_cases hlt : k < 4
    · obtain ⟨s', x', m', c0, c1, c2, n⟩ := HK.out.grew G k hlt
      obtain ⟨a1, j1, c1', rfl⟩ := n.slice
      have HN := Lib.hid n
      have hgl := World.block_lt_of_cell? wr _ c0
      have hk0 : (0 : Int) ≤ (k : Int) := by omega
      have hk1 : (k : Int) < 4 := by omega
      clear n
      go_wp2_with fail
      with_reducible refine (ih (sub h f k) _ _ _ p _ (HN.out.grew ((Grew.refl wr).alloc _)) (HF.out.sub _ _)).mono ?_
      rintro e w2 ⟨rfl, g2⟩
      replace g2 := ((Grew.refl wr).alloc _).trans g2
      replace B := B.grew g2
      replace G := G.trans g2
      clear g2 B0 B1 B2 B3 B4 B5 c0 c1 c2 hgl
      obtain ⟨B0, B1, B2, B3, B4, B5⟩ := B.three
      go_wp2_with fail
      go_roundw
      case rel => exact ⟨k + 1, by go_num, by omega, B, G⟩
      case measure => simp [intOf]; omega
    · have hk : k = 4 := by omega
      subst hk
      go_wp2_with fail
      with_reducible refine (over_f h f g c p _ (HK.out.grew G) HG.out HF.out).mono ?_
      rintro e w2 ⟨s2, x2, m2, rfl, n2, g2⟩
      obtain ⟨a2, j2, c2, rfl⟩ := n2.slice
      have Hn := Lib.hid n2
      have hm2 : m2 = m := by rw [n2.marks, HM.out]
      subst hm2
      replace B := B.grew g2
      replace G := G.trans g2
      clear n2 g2 B0 B1 B2 B3 B4 B5
      have O := Own.new w2 26 #[.slice a2 j2 c2, .int .i64 x2, .int .i64 m2]
      go_wp2_with fail
      with_reducible refine (isEmpty_f (h + 1) f _ _ _ p _ (Hn.out.grew ((Grew.refl w2).alloc _)) HF.out).mono ?_
      rintro e w3 ⟨rfl, g3⟩
      rw [HE.out]
      replace O := O.grew g3
      replace g3 := ((Grew.refl w2).alloc _).trans g3
      replace B := B.grew g3
      replace G := G.trans g3
      clear g3
      obtain ⟨B0, B1, B2, B3, B4, B5⟩ := B.three
      obtain ⟨O0, O1, O2, O3, O4, O5⟩ := O.three
      go_wp2
      go_ret
      exact ⟨rfl, G⟩
theorem isSubtree_f : ∀ (h : Nat) (f : Fen) (s : Value) (x m : Int) (p : Nat → Prop) (w : World), NodeF w p h f s x m → GoodF f → h ≤ 5 → Calls Try.prog 44 #[nodeV s x m, .int .i64 h] w (RetG (.bool true) w) := by
  intro h
  induction h with
  | zero =>
    intro f s x m p w n hf _
    obtain ⟨a, j, c, rfl⟩ := n.slice
    have HN := Lib.hid n
    have HF := Lib.hid hf
    obtain ⟨⟨a1, c1, e1⟩, e2, e3⟩ := n
    injection e1 with e1 e4 e5
    subst e4
    have HL := Lib.hid (show emp 0 f = false → leafB 0 x m = true from fun e => by
      have h1 := (hf 0).2.1
      have h2 := (hf 0).2.2.1
      have h3 := (hf 0).2.2.2
      have hx : ¬x = 0 := fun h0 => by
        have : f 0 = (0, 0) := Prod.ext (e2.symm.trans h0) (h3 (by rw [← e2, h0]; exact Int.le_refl _))
        simp [emp, this] at e
      unfold leafB
      rw [decide_eq_true_iff]
      rw [← e2, ← e3] at *
      omega)
    clear hf e1 e2 e3 e5
    show Calls _ _ #[_, .int .i64 0] _ _
    go_enter Try.func44, Try.ntmps44
    have B := Own.new w 26 #[.slice a 0 c, .int .i64 x, .int .i64 m]
    have G := (Grew.refl w).alloc (.cells #[.slice a 0 c, .int .i64 x, .int .i64 m] 26)
    go_wp2_with fail
    with_reducible refine (isEmpty_f 0 f _ _ _ p _ (HN.out.grew G) HF.out).mono ?_
    rintro e w1 ⟨rfl, g1⟩
    replace B := B.grew g1
    replace G := G.trans g1
    clear g1
    obtain ⟨B0, B1, B2, B3, B4, B5⟩ := B.three
    generalize emp 0 f = eb at *
    cases eb
    · go_wp2_with fail
      with_reducible refine (isLeaf_any a 0 c x m _).mono ?_
      rintro e w2 ⟨rfl, g2⟩
      rw [HL.out (by trivial)]
      go_wp2
      go_ret
      exact ⟨rfl, G.trans g2⟩
    · go_wp2
      go_ret
      exact ⟨rfl, G⟩
  | succ h ih =>
    intro f s x m p w n hf hh
    rw [show ((h + 1 : Nat) : Int) = (h : Int) + 1 from by omega]
    have e0 : ((h : Int) + 1 == 0) = false := by simp; omega
    cases he : emp (h + 1) f
    · obtain ⟨g, c, rfl, rfl, hg, hk⟩ := n.kids he
      exact isSubtree_node h (fun f s x m p w n hf => ih f s x m p w n hf (by omega)) f g c m p w hk hg he hf n.marks (by omega)
    · obtain ⟨a, j, c, rfl⟩ := n.slice
      have HN := Lib.hid n
      have HF := Lib.hid hf
      have HE := Lib.hid he
      clear n hf he ih
      go_enter Try.func44, Try.ntmps44
      have B := Own.new w 26 #[.slice a j c, .int .i64 x, .int .i64 m]
      have G := (Grew.refl w).alloc (.cells #[.slice a j c, .int .i64 x, .int .i64 m] 26)
      go_wp2_with fail
      with_reducible refine (isEmpty_f (h + 1) f _ _ _ p _ (HN.out.grew G) HF.out).mono ?_
      rintro e w1 ⟨rfl, g1⟩
      rw [HE.out]
      go_wp2
      go_ret
      exact ⟨rfl, G.trans g1⟩
/-- What Valid answers at a tree that is one but for its height. -/
def validB (h : Nat) (f : Fen) : Bool := match h with | 0 => true | k + 1 => !onlyB k f
theorem valid_f (h : Nat) (f : Fen) (s : Value) (x m : Int) (p : Nat → Prop) (w : World) (n : NodeF w p h f s x m) (hf : GoodF f) (hh : h ≤ 4) : Calls Try.prog 15 #[treeV h s x m] w (RetG (.bool (validB h f)) w) := by
  obtain ⟨a, j, c, rfl⟩ := n.slice
  have HN := Lib.hid n
  have HF := Lib.hid hf
  have h4 : (h : Int) ≤ 4 := by omega
  have h0 : (0 : Int) ≤ (h : Int) := by omega
  clear n hf
  go_enter Try.func15, Try.ntmps15
  have B := Own.new w 28 #[.int .i64 h, .slice a j c, .int .i64 x, .int .i64 m]
  have G := (Grew.refl w).alloc (.cells #[.int .i64 h, .slice a j c, .int .i64 x, .int .i64 m] 28)
  go_wp2_with fail
  with_reducible refine (isSubtree_f h f _ _ _ p _ (HN.out.grew G) HF.out (by omega)).mono ?_
  rintro e w1 ⟨rfl, g1⟩
  replace B := B.grew g1
  replace G := G.trans g1
  clear g1
  obtain ⟨B0, B1, B2, B3, B4, B5, B6, B7⟩ := B.four
  cases h with
  | zero =>
    go_wp2
    go_ret
    exact ⟨rfl, G⟩
  | succ k =>
    have e0 : (((k + 1 : Nat) : Int) == 0) = false := by simp; omega
    go_wp2_with fail
    with_reducible refine (onlyFirst_f k f _ _ _ p _ (HN.out.grew G) HF.out).mono ?_
    rintro e w2 ⟨rfl, g2⟩
    go_wp2
    go_ret
    exact ⟨rfl, G.trans g2⟩
end Go.Proofs.Ytdlhihllmidfeaa
