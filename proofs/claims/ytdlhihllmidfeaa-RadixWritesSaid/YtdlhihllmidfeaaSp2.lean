/- Package radix at nodes and trees that are not right: they are told. -/
import Derived.Test.YtdlhihllmidfeaaSp1
namespace Go.Proofs.Ytdlhihllmidfeaa
open Go.RowKit Go.Mine

abbrev treeI (H : Int) (s : Value) (x m : Int) : Value := .agg #[.int .i64 H, s, .int .i64 x, .int .i64 m]
set_option maxHeartbeats 4000000 in
theorem isSubtree_bad (h : Nat) (hh : h ≤ 4) (ih : ∀ (s : Value) (x m : Int) (w : World), NotF w h s x m → Calls Try.prog 44 #[nodeV s x m, .int .i64 h] w (RetG (.bool false) w))
    (f : Fen) (g c j : Nat) (m : Int) (w : World) (hf : GoodF f) (hj : j ≤ 4) (h1 : ∀ k, k < j → KidAt w (fun s' x' m' => NodeF w AllP h (sub h f k) s' x' m') g k) (h2 : j < 4 → KidAt w (fun s' x' m' => NotF w h s' x' m') g j)
    (h3 : j = 4 → emp (h + 1) f = true ∨ ¬m = orM (h + 1) f) :
    Calls Try.prog 44 #[nodeV (.slice (some ⟨g, 0, none⟩) 4 c) 0 m, .int .i64 ((h : Int) + 1)] w (RetG (.bool false) w) := by
  have H1 := Lib.hid h1
  have H2 := Lib.hid h2
  have H3 := Lib.hid h3
  have HF := Lib.hid hf
  have HJ := Lib.hid hj
  have e0 : ((h : Int) + 1 == 0) = false := by simp; omega
  have eE : emptyB 4 0 m = false := decide_eq_false fun e => by omega
  clear h1 h2 h3 hf hj
  go_enter Try.func44, Try.ntmps44
  have B := Own.new w 26 #[.slice (some ⟨g, 0, none⟩) 4 c, .int .i64 0, .int .i64 m]
  have G := (Grew.refl w).alloc (.cells #[.slice (some ⟨g, 0, none⟩) 4 c, .int .i64 0, .int .i64 m] 26)
  go_wp2_with fail
  with_reducible refine (isEmpty_any (some ⟨g, 0, none⟩) 4 c 0 m _).mono ?_
  rintro e w1 ⟨rfl, g1⟩
  rw [eE]
  replace B := B.grew g1
  replace G := G.trans g1
  clear g1 eE
  obtain ⟨B0, B1, B2, B3, B4, B5⟩ := B.three
  go_wp2_with fail
  have HB0 := Lib.hid B
  have HG0 := Lib.hid G
  clear B G B0 B1 B2 B3 B4 B5
  go_loopw [26] (fun i' wr => ∃ (k : Nat), i' = .int .i64 k ∧ k ≤ 4 ∧ k ≤ j ∧ Own wr w.heap.size 26 #[.slice (some ⟨g, 0, none⟩) 4 c, .int .i64 0, .int .i64 m] ∧ Grew w wr) (fun i _ => 4 - (intOf i).toNat)
  case atStart => exact ⟨0, rfl, by omega, by omega, HB0.out, HG0.out⟩
  case round =>
    clear HB0 HG0
    obtain ⟨k, rfl, hk4, hkj, B, G⟩ := hrel
    obtain ⟨B0, B1, B2, B3, B4, B5⟩ := B.three
    by_cases hlt : k < 4
    · have hk0 : (0 : Int) ≤ (k : Int) := by omega
      have hk1 : (k : Int) < 4 := by omega
      by_cases hkk : k < j
      · obtain ⟨s', x', m', c0, c1, c2, n⟩ := (H1.out k hkk).imp (Q := fun s' x' m' => NodeF wr AllP h (sub h f k) s' x' m') G fun _ _ _ n => n.grew G
        obtain ⟨a1, j1, c1', rfl⟩ := n.slice
        have HN := Lib.hid n
        have hgl := World.block_lt_of_cell? wr _ c0
        clear n
        go_wp2_with fail
        with_reducible refine (isSubtree_f h (sub h f k) _ _ _ AllP _ (HN.out.grew ((Grew.refl wr).alloc _)) (HF.out.sub _ _) (Nat.le_succ_of_le hh)).mono ?_
        rintro e w2 ⟨rfl, g2⟩
        replace g2 := ((Grew.refl wr).alloc _).trans g2
        replace B := B.grew g2
        replace G := G.trans g2
        clear g2 B0 B1 B2 B3 B4 B5 c0 c1 c2 hgl
        obtain ⟨B0, B1, B2, B3, B4, B5⟩ := B.three
        go_wp2_with fail
        go_roundw
        case rel => exact ⟨k + 1, by go_num, by omega, by omega, B, G⟩
        case measure => simp [intOf]; omega
      · have hje : k = j := by omega
        subst hje
        obtain ⟨s', x', m', c0, c1, c2, n⟩ := (H2.out hlt).imp (Q := fun s' x' m' => NotF wr h s' x' m') G fun _ _ _ n => n.grew G
        obtain ⟨a1, j1, c1', rfl, -⟩ := n.slice
        have HN := Lib.hid n
        have hgl := World.block_lt_of_cell? wr _ c0
        clear n
        go_wp2_with fail
        with_reducible refine (ih _ _ _ _ (HN.out.grew ((Grew.refl wr).alloc _))).mono ?_
        rintro e w2 ⟨rfl, g2⟩
        replace g2 := ((Grew.refl wr).alloc _).trans g2
        replace G := G.trans g2
        go_wp2
        go_ret
        exact ⟨rfl, G⟩
    · have hk : k = 4 := by omega
      subst hk
      have hje : j = 4 := by have := HJ.out; omega
      subst hje
      have HKF := Lib.hid (show KidsF wr AllP h f g from fun k hk => (H1.out k hk).imp G fun _ _ _ n => n.grew G)
      go_wp2_with fail
      with_reducible refine (over_f h f g c AllP _ HKF.out trivial HF.out).mono ?_
      rintro e w2 ⟨s2, x2, m2, rfl, n2, g2⟩
      obtain ⟨a2, j2, c2, rfl⟩ := n2.slice
      have Hn := Lib.hid n2
      have HM := Lib.hid (show m2 = orM (h + 1) f from n2.marks)
      replace B := B.grew g2
      replace G := G.trans g2
      clear n2 g2 B0 B1 B2 B3 B4 B5
      have O := Own.new w2 26 #[.slice a2 j2 c2, .int .i64 x2, .int .i64 m2]
      go_wp2_with fail
      with_reducible refine (isEmpty_f (h + 1) f _ _ _ AllP _ (Hn.out.grew ((Grew.refl w2).alloc _)) HF.out).mono ?_
      rintro e w3 ⟨rfl, g3⟩
      replace O := O.grew g3
      replace g3 := ((Grew.refl w2).alloc _).trans g3
      replace B := B.grew g3
      replace G := G.trans g3
      clear g3
      obtain ⟨B0, B1, B2, B3, B4, B5⟩ := B.three
      obtain ⟨O0, O1, O2, O3, O4, O5⟩ := O.three
      have H4 := Lib.hid (show emp (h + 1) f = false → ¬m2 = m from fun e e2 => by
        rcases H3.out (by trivial) with e3 | e3
        · rw [e] at e3; cases e3
        · exact e3 (by rw [← e2, HM.out]))
      generalize emp (h + 1) f = eb at *
      cases eb
      · have e5 : (m2 == m) = false := by simpa using H4.out (by trivial)
        go_wp2
        go_ret
        exact ⟨rfl, G⟩
      · go_wp2
        go_ret
        exact ⟨rfl, G⟩
theorem isSubtree_not : ∀ (h : Nat) (s : Value) (x m : Int) (w : World), h ≤ 5 → NotF w h s x m → Calls Try.prog 44 #[nodeV s x m, .int .i64 h] w (RetG (.bool false) w) := by
  intro h
  induction h with
  | zero =>
    intro s x m w _ n
    obtain ⟨a, n, c, rfl, h1, h2⟩ := n
    have H1 := Lib.hid h1
    have H2 := Lib.hid h2
    clear h1 h2
    show Calls _ _ #[_, .int .i64 0] _ _
    go_enter Try.func44, Try.ntmps44
    have B := Own.new w 26 #[.slice a n c, .int .i64 x, .int .i64 m]
    have G := (Grew.refl w).alloc (.cells #[.slice a n c, .int .i64 x, .int .i64 m] 26)
    go_wp2_with fail
    with_reducible refine (isEmpty_any a n c x m _).mono ?_
    rintro e w1 ⟨rfl, g1⟩
    rw [H1.out]
    replace B := B.grew g1
    replace G := G.trans g1
    clear g1
    obtain ⟨B0, B1, B2, B3, B4, B5⟩ := B.three
    go_wp2_with fail
    with_reducible refine (isLeaf_any a n c x m _).mono ?_
    rintro e w2 ⟨rfl, g2⟩
    rw [H2.out]
    go_wp2
    go_ret
    exact ⟨rfl, G.trans g2⟩
  | succ h ih =>
    intro s x m w hh n
    rw [show ((h + 1 : Nat) : Int) = (h : Int) + 1 from by omega]
    have e0 : ((h : Int) + 1 == 0) = false := by simp; omega
    obtain ⟨a, n, c, rfl, h1, h2⟩ := n
    by_cases hb : n = 4 ∧ x = 0
    · obtain ⟨rfl, rfl⟩ := hb
      obtain ⟨g, f, rfl, hg, h3⟩ : ∃ g f, a = some ⟨g, 0, none⟩ ∧ GoodF f ∧ ((KidsF w AllP h f g ∧ (emp (h + 1) f = true ∨ ¬m = orM (h + 1) f)) ∨
          ∃ j, j < 4 ∧ (∀ k, k < j → KidAt w (fun s' x' m' => NodeF w AllP h (sub h f k) s' x' m') g k) ∧ KidAt w (fun s' x' m' => NotF w h s' x' m') g j) := by
        rcases h2 with h2 | h2 | ⟨g, f, e1, -, -, e2, e3⟩
        · exact absurd rfl h2
        · exact absurd rfl h2
        · exact ⟨g, f, e1, e2, e3⟩
      rcases h3 with ⟨h3, h4⟩ | ⟨j, hj, h3, h4⟩
      · exact isSubtree_bad h (by omega) (fun s x m w n => ih s x m w (by omega) n) f g c 4 m w hg (by omega) h3 (fun e => by omega) (fun _ => h4)
      · exact isSubtree_bad h (by omega) (fun s x m w n => ih s x m w (by omega) n) f g c j m w hg (by omega) h3 (fun _ => h4) (fun e => by omega)
    · have H1 := Lib.hid h1
      clear h1 h2 ih
      have G := (Grew.refl w).alloc (.cells #[.slice a n c, .int .i64 x, .int .i64 m] 26)
      have B := Own.new w 26 #[.slice a n c, .int .i64 x, .int .i64 m]
      by_cases hn : n = 4
      · subst hn
        have hx : ¬x = 0 := fun e => hb ⟨rfl, e⟩
        have ex : (x != 0) = true := by simpa [bne] using hx
        have ex2 : (x == 0) = false := by simpa using hx
        clear hb hx
        go_enter Try.func44, Try.ntmps44
        go_wp2_with fail
        with_reducible refine (isEmpty_any a 4 c x m _).mono ?_
        rintro e w1 ⟨rfl, g1⟩
        rw [H1.out]
        replace B := B.grew g1
        replace G := G.trans g1
        clear g1
        obtain ⟨B0, B1, B2, B3, B4, B5⟩ := B.three
        go_wp2
        go_ret
        exact ⟨rfl, G⟩
      · have en : ((n : Int) == 4) = false := by simp; omega
        have en2 : ((n : Int) != 4) = true := by simp [bne, en]
        clear hb hn
        go_enter Try.func44, Try.ntmps44
        go_wp2_with fail
        with_reducible refine (isEmpty_any a n c x m _).mono ?_
        rintro e w1 ⟨rfl, g1⟩
        rw [H1.out]
        replace B := B.grew g1
        replace G := G.trans g1
        clear g1
        obtain ⟨B0, B1, B2, B3, B4, B5⟩ := B.three
        go_wp2
        go_ret
        exact ⟨rfl, G⟩
theorem valid_bad (H : Int) (s : Value) (x m : Int) (w : World) (b : BadT w H s x m) : Calls Try.prog 15 #[treeI H s x m] w (RetG (.bool false) w) := by
  obtain ⟨⟨a, n, c, rfl⟩, hb⟩ := b
  have G := (Grew.refl w).alloc (.cells #[.int .i64 H, .slice a n c, .int .i64 x, .int .i64 m] 28)
  by_cases h0 : H < 0
  · clear hb
    go_enter Try.func15, Try.ntmps15
    go_wp2
    go_ret
    exact ⟨rfl, G⟩
  · by_cases h4 : 4 < H
    · clear hb
      go_enter Try.func15, Try.ntmps15
      go_wp2
      go_ret
      exact ⟨rfl, G⟩
    · obtain ⟨h, rfl, hh, hn⟩ := (hb.resolve_left h0).resolve_left h4
      rcases hn with hn | ⟨f, hn, hf, hv⟩
      · have HN := Lib.hid hn
        have h5 : h ≤ 5 := by omega
        clear hb hn
        go_enter Try.func15, Try.ntmps15
        go_wp2_with fail
        with_reducible refine (isSubtree_not h _ _ _ _ h5 (HN.out.grew G)).mono ?_
        rintro e w1 ⟨rfl, g1⟩
        go_wp2
        go_ret
        exact ⟨rfl, G.trans g1⟩
      · have := valid_f h f _ _ _ AllP w hn hf hh
        rw [hv] at this
        exact this
end Go.Proofs.Ytdlhihllmidfeaa
