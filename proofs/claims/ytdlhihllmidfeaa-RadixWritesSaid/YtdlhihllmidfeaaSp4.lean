/- The reference of layer 1: empty, subtree. -/
import Derived.Test.YtdlhihllmidfeaaSp2
namespace Go.Proofs.Ytdlhihllmidfeaa
open Go.RowKit Go.Mine

theorem rempty_any (a : Option Addr) (n c : Nat) (x m : Int) (w : World) : Calls Try.prog 67 #[nodeV (.slice a n c) x m] w (RetG (.bool (emptyB n x m)) w) := by
  go_enter Try.func67, Try.ntmps67
  go_wp2
  all_goals
    go_ret
    refine ⟨ret_bool ?_, (Grew.refl _).alloc _⟩
    unfold emptyB
    first | (symm; rw [decide_eq_false_iff_not]; omega) | (rw [Bool.eq_iff_iff]; simp; omega)
theorem rempty_f (h : Nat) (f : Fen) (s : Value) (x m : Int) (p : Nat → Prop) (w : World) (n : NodeF w p h f s x m) (hf : GoodF f) : Calls Try.prog 67 #[nodeV s x m] w (RetG (.bool (emp h f)) w) := by
  rcases n.show_ hf with ⟨e, rfl, rfl, a, c, rfl⟩ | ⟨e, -, -, a, j, c, rfl, hj⟩
  · rw [e]
    exact (rempty_any a 0 c 0 0 w).mono fun _ _ ⟨h1, h2⟩ => ⟨h1.trans (by rfl), h2⟩
  · rw [e]
    refine (rempty_any a j c x m w).mono fun _ _ ⟨h1, h2⟩ => ⟨h1.trans (ret_bool ?_), h2⟩
    unfold emptyB
    rw [decide_eq_false_iff_not]
    rcases hj with ⟨-, -, -, -, hx⟩ | ⟨-, hj, -⟩
    · exact fun e => hx e.2.1
    · exact fun e => by omega
set_option maxRecDepth 100000 in
set_option maxHeartbeats 8000000 in
theorem subtree_node (h : Nat) (hh : h ≤ 4) (ihg : ∀ (f : Fen) (s : Value) (x m : Int) (w : World), NodeF w AllP h f s x m → GoodF f → Calls Try.prog 46 #[nodeV s x m, .int .i64 h] w (RetG (.bool true) w))
    (ihb : ∀ (s : Value) (x m : Int) (w : World), NotF w h s x m → Calls Try.prog 46 #[nodeV s x m, .int .i64 h] w (RetG (.bool false) w))
    (f : Fen) (g c j : Nat) (m : Int) (r : Bool) (w : World) (hf : GoodF f) (hj : j ≤ 4) (h1 : ∀ k, k < j → KidAt w (fun s' x' m' => NodeF w AllP h (sub h f k) s' x' m') g k) (h2 : j < 4 → KidAt w (fun s' x' m' => NotF w h s' x' m') g j ∧ r = false)
    (h3 : j = 4 → r = (!emp (h + 1) f && (m == orM (h + 1) f))) :
    Calls Try.prog 46 #[nodeV (.slice (some ⟨g, 0, none⟩) 4 c) 0 m, .int .i64 ((h : Int) + 1)] w (RetG (.bool r) w) := by
  have H1 := Lib.hid h1
  have H2 := Lib.hid h2
  have H3 := Lib.hid h3
  have HF := Lib.hid hf
  have HJ := Lib.hid hj
  have e0 : ((h : Int) + 1 == 0) = false := by simp; omega
  have eE : emptyB 4 0 m = false := decide_eq_false fun e => by omega
  clear h1 h2 h3 hf hj
  go_enter Try.func46, Try.ntmps46
  have B := Own.new w 26 #[.slice (some ⟨g, 0, none⟩) 4 c, .int .i64 0, .int .i64 m]
  have G := (Grew.refl w).alloc (.cells #[.slice (some ⟨g, 0, none⟩) 4 c, .int .i64 0, .int .i64 m] 26)
  go_wp2_with fail
  with_reducible refine (rempty_any (some ⟨g, 0, none⟩) 4 c 0 m _).mono ?_
  rintro e w1 ⟨rfl, g1⟩
  rw [eE]
  replace B := B.grew g1
  replace G := G.trans g1
  clear g1 eE
  obtain ⟨B0, B1, B2, B3, B4, B5⟩ := B.three
  have HB0 := Lib.hid B
  have HG0 := Lib.hid G
  clear B G
  go_wp2_with fail
  clear B0 B1 B2 B3 B4 B5
  go_loopw [5, 6, 7] (fun mv sv i' wr => ∃ (k : Nat) (o : Int) (b : Bool), mv = .int .i64 o ∧ sv = .bool b ∧ i' = .int .i64 k ∧ k ≤ 4 ∧ k ≤ j ∧ o = orUp h f k ∧ b = !allE h f k ∧
    Own wr w.heap.size 26 #[.slice (some ⟨g, 0, none⟩) 4 c, .int .i64 0, .int .i64 m] ∧ Grew w wr) (fun _ _ i _ => 4 - (intOf i).toNat)
  case atStart => exact ⟨0, 0, false, rfl, rfl, rfl, by omega, by omega, rfl, rfl, HB0.out, HG0.out⟩
  case round =>
    clear HB0 HG0
    obtain ⟨k, o, b, rfl, rfl, rfl, hk4, hkj, ho, hb, B, G⟩ := hrel
    have HO := Lib.hid ho
    have HB := Lib.hid hb
    clear ho hb
    obtain ⟨B0, B1, B2, B3, B4, B5⟩ := B.three
    by_cases hlt : k < 4
    · have hk0 : (0 : Int) ≤ (k : Int) := by omega
      have hk1 : (k : Int) < 4 := by omega
      by_cases hkk : k < j
      · obtain ⟨s', x', m', c0, c1, c2, n⟩ := (H1.out k hkk).imp (Q := fun s' x' m' => NodeF wr AllP h (sub h f k) s' x' m') G fun _ _ _ n => n.grew G
        obtain ⟨a1, j1, c1', rfl⟩ := n.slice
        have HN := Lib.hid n
        have hgl := World.block_lt_of_cell? wr _ c0
        clear n
        go_wp2_with fail
        with_reducible refine (ihg (sub h f k) _ _ _ _ HN.out (HF.out.sub _ _)).mono ?_
        rintro e w2 ⟨rfl, g2⟩
        have HC := Lib.hid (And.intro ((g2.cells.1 g (k * 3) hgl).trans c0) (And.intro ((g2.cells.1 g (k * 3 + 1) hgl).trans c1) ((g2.cells.1 g (k * 3 + 2) hgl).trans c2)))
        replace B := B.grew g2
        replace G := G.trans g2
        have hgl2 : g < w2.heap.size := Nat.lt_of_lt_of_le hgl g2.size
        have HN2 := Lib.hid (HN.out.grew g2)
        clear g2 B0 B1 B2 B3 B4 B5 c0 c1 c2 hgl HN
        obtain ⟨B0, B1, B2, B3, B4, B5⟩ := B.three
        obtain ⟨c0, c1, c2⟩ := HC.out
        have HOk := Lib.hid (show orI o m' = orUp h f (k + 1) from by rw [HO.out, HN2.out.marks]; rfl)
        have HBk := Lib.hid (show allE h f (k + 1) = (allE h f k && emp h (sub h f k)) from rfl)
        cases b
        · go_wp2_with fail
          with_reducible refine (rempty_f h (sub h f k) _ _ _ AllP _ HN2.out (HF.out.sub _ _)).mono ?_
          rintro e w3 ⟨rfl, g3⟩
          replace B := B.grew g3
          replace G := G.trans g3
          go_wp2_with fail
          go_roundw
          case rel => exact ⟨k + 1, orI o m', !emp h (sub h f k), rfl, by first | rfl | (congr 1; simp), by go_num, by omega, by omega, HOk.out, by rw [HBk.out, show allE h f k = true from by simpa using HB.out]; rfl, B, G⟩
          case measure => simp [intOf]; omega
        · go_wp2_with fail
          go_roundw
          case rel => exact ⟨k + 1, orI o m', true, rfl, rfl, by go_num, by omega, by omega, HOk.out, by rw [HBk.out, show allE h f k = false from by simpa using HB.out]; rfl, B, G⟩
          case measure => simp [intOf]; omega
      · have hje : k = j := by omega
        subst hje
        have h2r := (H2.out hlt).2
        obtain ⟨s', x', m', c0, c1, c2, n⟩ := (H2.out hlt).1.imp (Q := fun s' x' m' => NotF wr h s' x' m') G fun _ _ _ n => n.grew G
        obtain ⟨a1, j1, c1', rfl, -⟩ := n.slice
        have HN := Lib.hid n
        have hgl := World.block_lt_of_cell? wr _ c0
        clear n
        go_wp2_with fail
        with_reducible refine (ihb _ _ _ _ HN.out).mono ?_
        rintro e w2 ⟨rfl, g2⟩
        replace G := G.trans g2
        go_wp2
        go_ret
        exact ⟨ret_bool h2r.symm, G⟩
    · have hk : k = 4 := by omega
      subst hk
      have hje : j = 4 := by have := HJ.out; omega
      subst hje
      have hr : r = (b && (m == o)) := by
        rw [H3.out rfl, HB.out, emp_all, HO.out]; rfl
      have HR := Lib.hid hr
      clear hr
      cases b
      · go_wp2
        go_ret
        exact ⟨ret_bool (by rw [HR.out]; rfl), G⟩
      · go_wp2
        go_ret
        exact ⟨ret_bool (by rw [HR.out]; rfl), G⟩
theorem subtree_0 (a : Option Addr) (n c : Nat) (x m : Int) (w : World) : Calls Try.prog 46 #[nodeV (.slice a n c) x m, .int .i64 0] w (RetG (.bool (emptyB n x m || leafB n x m)) w) := by
  have B := Own.new w 26 #[.slice a n c, .int .i64 x, .int .i64 m]
  have G := (Grew.refl w).alloc (.cells #[.slice a n c, .int .i64 x, .int .i64 m] 26)
  obtain ⟨r, hr⟩ : ∃ r, leafB n x m = r := ⟨_, rfl⟩
  obtain ⟨eb, heb⟩ : ∃ r, emptyB n x m = r := ⟨_, rfl⟩
  have HR := Lib.hid hr
  have HE := Lib.hid heb
  rw [hr, heb]
  clear hr heb
  go_enter Try.func46, Try.ntmps46
  go_wp2_with fail
  with_reducible refine (rempty_any a n c x m _).mono ?_
  rintro e w1 ⟨rfl, g1⟩
  rw [HE.out]
  replace B := B.grew g1
  replace G := G.trans g1
  clear g1
  obtain ⟨B0, B1, B2, B3, B4, B5⟩ := B.three
  cases eb
  · go_wp2
    all_goals
      go_ret
      refine ⟨ret_bool ?_, G⟩
      have hr := HR.out
      unfold leafB at hr
      rw [← hr]
      try simp only [beq_eq_false_iff_ne, ne_eq, beq_iff_eq, bne_iff_ne, Bool.false_or] at *
      first | (symm; rw [decide_eq_false_iff_not]; omega) | (symm; rw [decide_eq_true_iff]; omega) | (rw [Bool.eq_iff_iff]; simp only [decide_eq_true_eq, Bool.and_eq_true, Bool.or_eq_true, beq_iff_eq, bne_iff_ne, ne_eq]; omega) | trace_state
  · go_wp2
    go_ret
    exact ⟨rfl, G⟩
/-- The reference's subtree: true at subtrees, false at others. -/
theorem subtree_q : ∀ (h : Nat), h ≤ 5 → (∀ (f : Fen) (s : Value) (x m : Int) (w : World), NodeF w AllP h f s x m → GoodF f → Calls Try.prog 46 #[nodeV s x m, .int .i64 h] w (RetG (.bool true) w)) ∧
    (∀ (s : Value) (x m : Int) (w : World), NotF w h s x m → Calls Try.prog 46 #[nodeV s x m, .int .i64 h] w (RetG (.bool false) w)) := by
  intro h
  induction h with
  | zero =>
    intro _
    refine ⟨fun f s x m w n hf => ?_, fun s x m w n => ?_⟩
    · obtain ⟨⟨a, c, rfl⟩, e2, e3⟩ := n
      have h1 := (hf 0).2.1
      have h2 := (hf 0).2.2.1
      have h3 := (hf 0).2.2.2
      rw [← e2, ← e3] at *
      have := subtree_0 a 0 c x m w
      rw [show (emptyB 0 x m || leafB 0 x m) = true from by
        unfold emptyB leafB
        rw [Bool.or_eq_true, decide_eq_true_eq, decide_eq_true_eq]
        by_cases hx : x = 0
        · exact .inl ⟨rfl, hx, h3 (by omega)⟩
        · exact .inr ⟨rfl, hx, by omega⟩] at this
      exact this
    · obtain ⟨a, n, c, rfl, h1, h2⟩ := n
      have := subtree_0 a n c x m w
      rw [h1, h2] at this
      exact this
  | succ h ih =>
    intro hh
    have ihg := (ih (by omega)).1
    have ihb := (ih (by omega)).2
    clear ih
    have flat : ∀ (a : Option Addr) (n c : Nat) (x m : Int) (w : World) (r : Bool), (emptyB n x m = true ∧ r = true ∨ emptyB n x m = false ∧ r = false ∧ ¬(n = 4 ∧ x = 0)) → Calls Try.prog 46 #[nodeV (.slice a n c) x m, .int .i64 ((h : Int) + 1)] w (RetG (.bool r) w) := by
      intro a n c x m w r hc
      clear ihg ihb
      have e0 : ((h : Int) + 1 == 0) = false := by simp; omega
      have B := Own.new w 26 #[.slice a n c, .int .i64 x, .int .i64 m]
      have G := (Grew.refl w).alloc (.cells #[.slice a n c, .int .i64 x, .int .i64 m] 26)
      rcases hc with ⟨h1, rfl⟩ | ⟨h1, rfl, hb⟩
      · have H1 := Lib.hid h1
        clear h1
        go_enter Try.func46, Try.ntmps46
        go_wp2_with fail
        with_reducible refine (rempty_any a n c x m _).mono ?_
        rintro e w1 ⟨rfl, g1⟩
        rw [H1.out]
        go_wp2
        go_ret
        exact ⟨rfl, G.trans g1⟩
      · have H1 := Lib.hid h1
        clear h1
        by_cases hn : n = 4
        · subst hn
          have hx : ¬x = 0 := fun e => hb ⟨rfl, e⟩
          have ex2 : (x == 0) = false := by simpa using hx
          have ex : (x != 0) = true := by simp [bne, ex2]
          clear hb hx
          go_enter Try.func46, Try.ntmps46
          go_wp2_with fail
          with_reducible refine (rempty_any a 4 c x m _).mono ?_
          rintro e w1 ⟨rfl, g1⟩
          rw [H1.out]
          replace B := B.grew g1
          replace G := G.trans g1
          clear g1
          obtain ⟨B0, B1, B2, B3, B4, B5⟩ := B.three
          go_wp2
          go_ret
          exact ⟨rfl, G⟩
        · have en : ((n : Int) == 4) = false := by simp; omega
          have en2 : ((n : Int) != 4) = true := by simp [bne, en]
          clear hb hn
          go_enter Try.func46, Try.ntmps46
          go_wp2_with fail
          with_reducible refine (rempty_any a n c x m _).mono ?_
          rintro e w1 ⟨rfl, g1⟩
          rw [H1.out]
          replace B := B.grew g1
          replace G := G.trans g1
          clear g1
          obtain ⟨B0, B1, B2, B3, B4, B5⟩ := B.three
          go_wp2
          go_ret
          exact ⟨rfl, G⟩
    rw [show ((h + 1 : Nat) : Int) = (h : Int) + 1 from by omega]
    refine ⟨fun f s x m w n hf => ?_, fun s x m w n => ?_⟩
    · cases he : emp (h + 1) f
      · obtain ⟨g, c, rfl, rfl, hg, hk⟩ := n.kids he
        exact subtree_node h (by omega) ihg ihb f g c 4 m true w hf (by omega) hk (fun e => by omega) (fun _ => by rw [he, ← n.marks]; simp)
      · rcases n.show_ hf with ⟨-, rfl, rfl, a, c, rfl⟩ | ⟨e, -⟩
        · exact flat a 0 c 0 0 w true (.inl ⟨by decide, rfl⟩)
        · rw [he] at e; cases e
    · obtain ⟨a, n, c, rfl, h1, h2⟩ := n
      by_cases hb : n = 4 ∧ x = 0
      · obtain ⟨rfl, rfl⟩ := hb
        obtain ⟨g, f, rfl, hg, h3⟩ : ∃ g f, a = some ⟨g, 0, none⟩ ∧ GoodF f ∧ ((KidsF w AllP h f g ∧ (emp (h + 1) f = true ∨ ¬m = orM (h + 1) f)) ∨
            ∃ j, j < 4 ∧ (∀ k, k < j → KidAt w (fun s' x' m' => NodeF w AllP h (sub h f k) s' x' m') g k) ∧ KidAt w (fun s' x' m' => NotF w h s' x' m') g j) := by
          rcases h2 with h2 | h2 | ⟨g, f, e1, -, -, e2, e3⟩
          · exact absurd rfl h2
          · exact absurd rfl h2
          · exact ⟨g, f, e1, e2, e3⟩
        rcases h3 with ⟨h3, h4⟩ | ⟨j, hj, h3, h4⟩
        · refine subtree_node h (by omega) ihg ihb f g c 4 m false w hg (by omega) h3 (fun e => by omega) (fun _ => ?_)
          rcases h4 with h4 | h4
          · rw [h4]; rfl
          · rw [show (m == orM (h + 1) f) = false from by simpa using h4, Bool.and_false]
        · exact subtree_node h (by omega) ihg ihb f g c j m false w hg (by omega) h3 (fun _ => ⟨h4, rfl⟩) (fun e => by omega)
      · exact flat a n c x m w false (.inr ⟨h1, rfl, hb⟩)
end Go.Proofs.Ytdlhihllmidfeaa
