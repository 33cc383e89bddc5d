/- The law's own functions of layer 1: drawn: some tree; sameEntries. -/
import Derived.Test.YtdlhihllmidfeaaSp12
import Derived.IntWalk
import Derived.Deep.RegionWith
namespace Go.Proofs.Ytdlhihllmidfeaa
open Go.RowKit Go.Mine

/-- It returns some tree. -/
def RetTL (w : World) (e : Ending) (w' : World) : Prop := ∃ H s x m L, e = .returned (treeI H s x m) ∧ TreeL w' H s x m L ∧ Grew w w'
theorem treeL_or {w : World} {H : Int} {s : Value} {x m : Int} (hs : ∃ a n c, s = .slice a n c) (hn : ∀ h : Nat, H = h → h ≤ 4 → AnyF w h s x m) : ∃ L, TreeL w H s x m L := by
  rcases tree_or hs hn with ⟨h, f, e, n⟩ | b
  · exact ⟨_, .inl ⟨h, f, e, n, rfl⟩⟩
  · exact ⟨_, .inr ⟨b, rfl⟩⟩
theorem any_at {w : World} {h h' : Nat} {f : Fen} {s : Value} {x m : Int} (n : NodeF w AllP h f s x m) (hf : GoodF f) : AnyF w h' s x m := by
  by_cases e : h = h'
  · subst e; exact .inl ⟨f, n, hf⟩
  · cases he : emp h f
    · exact .inr (NodeF.at_ h h' n hf e he)
    · rcases n.show_ hf with ⟨-, rfl, rfl, a, c, rfl⟩ | ⟨e2, -⟩
      · exact .inl ⟨fZ, NodeF.empty _ (emp_Z _) _ _, good_Z⟩
      · rw [he] at e2; cases e2
theorem store4 {w w' : World} {g : Nat} {t : TypeId} {a b c d x y z u : Value} (h : Own w g t #[a, b, c, d]) (hw : (((w.setCell ⟨g, 0, none⟩ x).setCell ⟨g, 1, none⟩ y).setCell ⟨g, 2, none⟩ z).setCell ⟨g, 3, none⟩ u = w') : Own w' g t #[x, y, z, u] := by
  subst hw
  exact (((h.set 0 x).set 1 y).set 2 z).set 3 u
theorem grew4' {a w w' : World} {b : Nat} {x y z u : Value} (h : Grew a w) (hw : (((w.setCell ⟨b, 0, none⟩ x).setCell ⟨b, 1, none⟩ y).setCell ⟨b, 2, none⟩ z).setCell ⟨b, 3, none⟩ u = w') (hb : a.heap.size ≤ b) : Grew a w' := by
  subst hw
  exact (((h.set (p := ⟨b, 0, none⟩) hb x).set (p := ⟨b, 1, none⟩) hb y).set (p := ⟨b, 2, none⟩) hb z).set (p := ⟨b, 3, none⟩) hb u
theorem stab4 {w w' : World} {b : Nat} {x y z u : Value} (hw : (((w.setCell ⟨b, 0, none⟩ x).setCell ⟨b, 1, none⟩ y).setCell ⟨b, 2, none⟩ z).setCell ⟨b, 3, none⟩ u = w') : w'.heap.size = w.heap.size ∧ ∀ g, g ≠ b → w'.heap[g]? = w.heap[g]? := by
  subst hw
  refine ⟨by simp [World.setCell], fun g hg => ?_⟩
  rw [Below.heap_setCell _ ⟨b, 3, none⟩ _ g hg, Below.heap_setCell _ ⟨b, 2, none⟩ _ g hg, Below.heap_setCell _ ⟨b, 1, none⟩ _ g hg, Below.heap_setCell _ ⟨b, 0, none⟩ _ g hg]
theorem introw_grew {w w' : World} {A : Option Addr} {xs : List Int} (h : IntRow w A xs) (G : Grew w w') : IntRow w' A xs := by
  refine ⟨?_, h.2⟩
  rcases h.1 with h0 | ⟨b, o, hA, hb, hc⟩
  · exact .inl h0
  · exact .inr ⟨b, o, hA, Nat.lt_of_lt_of_le hb G.size, fun k hk => (G.cells.1 b _ hb).trans (hc k hk)⟩
set_option maxHeartbeats 8000000 in
theorem drawn_x (A : Option Addr) (c : Nat) (xs : List Int) (n0 n1 n2 : Int) (w : World) (hr : IntRow w A xs) (hm : xs.length ≤ maxLen) :
    Calls Try.prog 10 #[.slice A xs.length c, .agg #[.int .i64 n0, .int .i64 n1, .int .i64 n2]] w (RetTL w) := by
  have gA := ((Grew.refl w).alloc (.cells #[.int .i64 n0, .int .i64 n1, .int .i64 n2] 23)).alloc (.cells #[.int .i64 0, .slice none 0 0, .int .i64 0, .int .i64 0] 28)
  have tp := Tp.made (introw_grew hr gA) hm c 32
  have O0 := (Own.new w 23 #[.int .i64 n0, .int .i64 n1, .int .i64 n2]).alloc (.cells #[.int .i64 0, .slice none 0 0, .int .i64 0, .int .i64 0] 28)
  have O1 := Own.new2 w (.cells #[.int .i64 n0, .int .i64 n1, .int .i64 n2] 23) 28 #[.int .i64 0, .slice none 0 0, .int .i64 0, .int .i64 0]
  have gb := ((Grew.refl ((w.alloc (.cells #[.int .i64 n0, .int .i64 n1, .int .i64 n2] 23)).alloc (.cells #[.int .i64 0, .slice none 0 0, .int .i64 0, .int .i64 0] 28)))).alloc (.cells #[.slice A xs.length c, .int .i64 0] 32)
  replace O0 := O0.grew gb
  replace O1 := O1.grew gb
  replace gA := gA.trans gb
  have hsz : ((w.alloc (.cells #[.int .i64 n0, .int .i64 n1, .int .i64 n2] 23)).alloc (.cells #[.int .i64 0, .slice none 0 0, .int .i64 0, .int .i64 0] 28)).heap.size = w.heap.size + 2 := by simp
  rw [hsz] at tp
  clear hr hsz gb
  generalize hX : xs.length = X at *
  clear hX
  go_enter Try.func10, Try.ntmps10
  go_wp2_with fail
  generalize World.alloc (World.alloc (World.alloc w _) _) _ = w0 at *
  have hw0 : w.heap.size + 2 + 1 ≤ w0.heap.size := tp.lt
  with_reducible refine (tree_x _ _ _ tp hw0).mono ?_
  rintro e w1 ⟨h, f, s, x, m, rfl, n, -, g1⟩
  replace O0 := O0.past g1 (by omega)
  replace O1 := O1.past g1 (by omega)
  replace gA := gA.past g1 (by omega)
  have hs1 := g1.size
  obtain ⟨a, j, c', rfl⟩ := n.node.slice
  have N0 := n.mono (q := fun b => w.heap.size + 2 < b ∧ b < w1.heap.size) (fun b hb hl => ⟨Nat.lt_of_lt_of_le (Nat.lt_of_lt_of_le (Nat.lt_succ_self _) hw0) hb, hl⟩)
  have hn4 := n.le
  have HN := Lib.hid N0
  clear n N0 g1 tp
  have Ot := Own.new w1 28 #[.int .i64 h, .slice a j c', .int .i64 x, .int .i64 m]
  have gt := (Grew.refl w1).alloc (.cells #[.int .i64 h, .slice a j c', .int .i64 x, .int .i64 m] 28)
  replace O0 := O0.grew gt
  replace O1 := O1.grew gt
  replace gA := gA.trans gt
  replace HN := Lib.hid (HN.out.grew gt)
  clear gt
  go_upto_region 2 with fail
  generalize hw2 : World.alloc w1 _ = w2 at *
  obtain ⟨tb, htb⟩ : ∃ tb, w1.heap.size = tb := ⟨_, rfl⟩
  rw [htb] at Ot HN ⊢
  have htb2 : w.heap.size + 3 ≤ tb := by omega
  clear hw2 htb hs1 hw0
  obtain ⟨t0, t1, t2, t3, t4, t5, t6, t7⟩ := Ot.four
  obtain ⟨a0, a1, a2, -, -, -⟩ := O0.three
  obtain ⟨v0, v1, v2, v3, v4, v5, v6, v7⟩ := O1.four
  have lt := Ot.lt
  have l1 := O1.lt
  have l0 := O0.lt
  have HO1 := Lib.hid O1
  have HOt := Lib.hid Ot
  have HG := Lib.hid gA
  have HO0 := Lib.hid O0
  clear O1 Ot gA O0
  obtain ⟨q, hq⟩ : ∃ q, cut n0 6 = q := ⟨_, rfl⟩
  have HQ := Lib.hid hq
  clear hq
  go_wp2_with fail
  with_reducible refine (cut_any _ _ _ (by omega) (by omega)).mono ?_
  rintro e wq ⟨rfl, rfl⟩
  rw [HQ.out]
  by_cases q0 : q = 0
  · subst q0
    have HNP := Lib.hid HN.out.node
    have hlt : ∀ b, (w.heap.size + 2 < b ∧ b < tb) → b < w2.heap.size := fun b hb => by omega
    have HLT := Lib.hid hlt
    clear hlt
    go_wp2_with fail
    with_reducible refine (spoil_f h f _ _ _ n1 n2 (fun b => w.heap.size + 2 < b ∧ b < tb) w2 HNP.out HN.out.good HLT.out).mono ?_
    rintro e w4 ⟨⟨qa, qn, qc, qx, qm⟩, rfl, g4, hq⟩
    have HQQ := Lib.hid hq
    have O4 := HO1.out.grew g4
    have T4 := HOt.out.grew g4
    have G4 := HG.out.trans g4
    have hs4 := g4.size
    clear hq g4 t0 t1 t2 t3 t4 t5 t6 t7 v0 v1 v2 v3 v4 v5 v6 v7 a0 a1 a2
    obtain ⟨t0, t1, t2, t3, t4, t5, t6, t7⟩ := T4.four
    obtain ⟨v0, v1, v2, v3, v4, v5, v6, v7⟩ := O4.four
    have lt4 := T4.lt
    have l14 := O4.lt
    have HO4 := Lib.hid O4
    have HG4 := Lib.hid G4
    clear O4 T4 G4
    go_wp2_with fail
    generalize hwz : World.setCell (World.setCell (World.setCell (World.setCell _ ⟨w.heap.size + 1, 0, none⟩ _) ⟨w.heap.size + 1, 1, none⟩ _) ⟨w.heap.size + 1, 2, none⟩ _) ⟨w.heap.size + 1, 3, none⟩ _ = wz
    have O5 := ((HO4.out.far (p := ⟨tb, 1, none⟩) (by simp; omega) (.slice qa qn qc)).far (p := ⟨tb, 2, none⟩) (by simp; omega) (.int .i64 qx)).far (p := ⟨tb, 3, none⟩) (by simp; omega) (.int .i64 qm)
    have G5 := ((HG4.out.set (p := ⟨tb, 1, none⟩) (by simp; omega) (.slice qa qn qc)).set (p := ⟨tb, 2, none⟩) (by simp; omega) (.int .i64 qx)).set (p := ⟨tb, 3, none⟩) (by simp; omega) (.int .i64 qm)
    have OE := store4 O5 hwz
    have GE := grew4' G5 hwz (by omega)
    have HK := stab4 hwz
    clear hwz O5 G5
    obtain ⟨b0, b1, b2, b3, -⟩ := OE.four
    have hz : wz.heap.size = w4.heap.size := by rw [HK.1]; simp [World.setCell]
    have hst : Stab (fun b => w.heap.size + 2 < b ∧ b < tb) w2.heap.size w4 wz := ⟨by omega, fun b hb hbc => by
      have h3 : b ≠ tb ∧ b ≠ w.heap.size + 1 := by rcases hbc with hbc | hbc <;> omega
      rw [HK.2 b h3.2, Below.heap_setCell _ ⟨tb, 3, none⟩ _ b h3.1, Below.heap_setCell _ ⟨tb, 2, none⟩ _ b h3.1, Below.heap_setCell _ ⟨tb, 1, none⟩ _ b h3.1]⟩
    have hA : AnyF wz h (.slice qa qn qc) qx qm := HQQ.out wz hst
    obtain ⟨L, hL⟩ := treeL_or (w := wz) (H := (h : Int)) (s := .slice qa qn qc) (x := qx) (m := qm) ⟨_, _, _, rfl⟩ (fun h' e _ => by rw [show h' = h by omega]; exact hA)
    refine bodyPost_ret (v := treeI h (.slice qa qn qc) qx qm) (by simp [results, Try.results10, go_sem, b0, b1, b2, b3]) rfl ?_
    exact ⟨h, _, qx, qm, L, rfl, hL, GE⟩
  · have q0b : (q == 0) = false := by simpa using q0
    by_cases q1 : q = 1
    · subst q1
      clear q0 q0b
      obtain ⟨r, hr⟩ : ∃ r, cut n1 4 = r := ⟨_, rfl⟩
      obtain ⟨r0, r1⟩ := cut_lt n1 4 (by omega)
      rw [hr] at r0 r1
      have HR := Lib.hid hr
      clear hr
      have hwr1 : IntKind.i64.wrap (r - 1) = r - 1 := IntWalk.i64_in _ (by omega)
      have hwr2 : IntKind.i64.wrap ((h : Int) + (r - 1)) = (h : Int) + (r - 1) := IntWalk.i64_in _ (by omega)
      go_upto_region 6 with fail
      go_region_with
        (first
          | (go_at_call 38; (with_reducible refine (cut_any _ _ _ (by omega) (by omega)).mono ?_); rintro e wq ⟨rfl, rfl⟩; rw [HR.out]))
      all_goals
        go_wp2_with fail
        generalize hwz : World.setCell (World.setCell (World.setCell (World.setCell _ ⟨w.heap.size + 1, 0, none⟩ _) ⟨w.heap.size + 1, 1, none⟩ _) ⟨w.heap.size + 1, 2, none⟩ _) ⟨w.heap.size + 1, 3, none⟩ _ = wz
        have O5 := HO1.out.far (p := ⟨tb, 0, none⟩) (by simp; omega) (.int .i64 ((h : Int) + (r - 1)))
        have G5 := HG.out.set (p := ⟨tb, 0, none⟩) (by simp; omega) (.int .i64 ((h : Int) + (r - 1)))
        have OE := store4 O5 hwz
        have GE := grew4' G5 hwz (by omega)
        have HK := stab4 hwz
        clear hwz O5 G5
        obtain ⟨b0, b1, b2, b3, -⟩ := OE.four
        have NE : NodeF wz AllP h f (.slice a j c') x m := ((HN.out.node.keep (w' := wz) (fun _ a _ => a) (fun b hb _ => by
          rw [HK.2 b (by omega), Below.heap_setCell _ ⟨tb, 0, none⟩ _ b (by simp; omega)]))).any
        obtain ⟨L, hL⟩ := treeL_or (w := wz) (H := (h : Int) + (r - 1)) (s := .slice a j c') (x := x) (m := m) ⟨_, _, _, rfl⟩ (fun h' e _ => any_at NE HN.out.good)
        refine bodyPost_ret (v := treeI ((h : Int) + (r - 1)) (.slice a j c') x m) (by simp [results, Try.results10, go_sem, b0, b1, b2, b3]) rfl ?_
        exact ⟨_, _, x, m, L, rfl, hL.grew (Grew.refl wz).drew, GE.drew⟩
    · have q1b : (q == 1) = false := by simpa using q1
      clear q0 q1
      go_wp2_with fail
      generalize hwz : World.setCell (World.setCell (World.setCell (World.setCell _ _ _) _ _) _ _) _ _ = wz
      have OE := store4 HO1.out hwz
      have GE := grew4' HG.out hwz (by omega)
      have HK := stab4 hwz
      clear hwz
      obtain ⟨b0, b1, b2, b3, -⟩ := OE.four
      have NE : NodeF wz AllP h f (.slice a j c') x m := (HN.out.node.keep (w' := wz) (fun _ a _ => a) (fun b hb _ => HK.2 b (by omega))).any
      refine bodyPost_ret (v := treeI h (.slice a j c') x m) (by simp [results, Try.results10, go_sem, b0, b1, b2, b3]) rfl ?_
      exact ⟨h, _, x, m, _, rfl, .inl ⟨h, f, rfl, ⟨HN.out.le, NE, HN.out.2.2⟩, rfl⟩, GE⟩
end Go.Proofs.Ytdlhihllmidfeaa
