/- The reference of layer 1: Set at a valid tree. -/
import Derived.Test.YtdlhihllmidfeaaWr3
namespace Go.Proofs.Ytdlhihllmidfeaa
open Go.RowKit Go.Mine

set_option maxRecDepth 100000 in
set_option maxHeartbeats 8000000 in
theorem setq_ok (h : Nat) (f : Fen) (a : Option Addr) (n c : Nat) (x m v : Int) (i : Nat) (w : World) (nn : TreeF w AllP h f (.slice a n c) x m) (hi : i < 256) (hv : (Lit.int .i64 v).wf = true) :
    Calls Try.prog 29 #[treeI h (.slice a n c) x m, .int .i64 i, .int .i64 v] w (RetOp (updG f i (v, 0), 0) w) := by
  have HN := Lib.hid nn
  have hh := nn.le
  have HOK := Lib.hid (out_ok hh nn.good hi hv)
  have HFN := Lib.hid (out_fn (h := h) nn.good nn.out i v)
  have HLN := Lib.hid (out_len (f := f) hh (i := i) (v := v))
  have hLl : (entR h f 0).length ≤ 256 := Nat.le_trans (entR_len h f 0) (p4_256' hh)
  have hi0 : (0 : Int) ≤ (i : Int) := by omega
  have hi1 : (i : Int) ≤ 255 := by omega
  clear nn hi hv
  go_enter Try.func29, Try.ntmps29
  have T := (Own.new w 28 #[.int .i64 h, .slice a n c, .int .i64 x, .int .i64 m]).alloc (.cells #[.int .i64 0, .slice none 0 0, .int .i64 0, .int .i64 0] 28)
  have R := Own.new2 w (.cells #[.int .i64 h, .slice a n c, .int .i64 x, .int .i64 m] 28) 28 #[.int .i64 0, .slice none 0 0, .int .i64 0, .int .i64 0]
  have G := ((Grew.refl w).alloc (.cells #[.int .i64 h, .slice a n c, .int .i64 x, .int .i64 m] 28)).alloc (.cells #[.int .i64 0, .slice none 0 0, .int .i64 0, .int .i64 0] 28)
  go_wp2_with fail
  with_reducible refine (validq_node h f _ _ _ _ hh (HN.out.node.grew G) HN.out.good).mono ?_
  rintro e w1 ⟨rfl, g1⟩
  rw [HN.out.valid]
  replace T := T.grew g1
  replace R := R.grew g1
  replace G := G.trans g1
  clear g1
  obtain ⟨T0, T1, T2, T3, -⟩ := T.four
  go_wp2_with fail
  with_reducible refine (entriesq_f h f _ _ _ _ (HN.out.grew G)).mono ?_
  rintro e w2 ⟨ve, rfl, RE, g2⟩
  replace R := R.grew g2
  replace G := G.trans g2
  clear g2 T T0 T1 T2 T3
  obtain ⟨L, hL⟩ : ∃ L, entR h f 0 = L := ⟨_, rfl⟩
  rw [hL] at RE HOK HFN HLN hLl
  clear hL
  obtain ⟨ae, ne, ce, rfl, hne, hce⟩ := RowE.ents RE
  have HNE := Lib.hid hne
  have HCE := Lib.hid hce
  have hnl : ne ≤ 256 := by rw [hne]; exact hLl
  have HR := Lib.hid R
  have HG := Lib.hid G
  have hlR := R.lt
  have hw2 := G.size
  clear hne hce RE R G hLl
  go_wp2_with fail
  go_loopw [9, 10] (fun ov kv wr => ∃ (k : Nat) (r : Value), r = ov ∧ kv = .int .i64 k ∧ k ≤ ne ∧ RowE 51 3 encE wr w2.heap.size r ((L.take k).filter (neE i)) ∧ Below w2.heap.size w2 wr) (fun _ kv _ => ne - (intOf kv).toNat)
  case atStart => exact ⟨0, _, rfl, rfl, by omega, RowE.nil _ _, Below.refl _ _⟩
  case round =>
    obtain ⟨k, r, rfl, rfl, hk, RO, B⟩ := hrel
    have hsB := Below.size B
    by_cases hlt : k < ne
    · obtain ⟨g, rfl, hg, -, c0, c1, c2⟩ := HCE.out k hlt
      have hkL : k < L.length := by rw [← HNE.out]; exact hlt
      have HF := Lib.hid (filt_snoc (i := i) hkL)
      obtain ⟨⟨ix, y, z⟩, hx⟩ : ∃ e, L.getD k eZ = e := ⟨_, rfl⟩
      have hx2 : L.getD k (0, (0, 0)) = (ix, (y, z)) := hx
      rw [hx2] at c0 c1 c2
      have d0 := (Below.cell B (p := ⟨g, k * 3, none⟩) hg).trans c0
      have d1 := (Below.cell B (p := ⟨g, k * 3 + 1, none⟩) hg).trans c1
      have d2 := (Below.cell B (p := ⟨g, k * 3 + 2, none⟩) hg).trans c2
      have hgr : g < wr.heap.size := Nat.lt_of_lt_of_le hg hsB
      have hk0 : (0 : Int) ≤ (k : Int) := by omega
      have hk1 : (k : Int) < (ne : Int) := by omega
      rw [hx] at HF
      clear c0 c1 c2 hx hx2
      by_cases he : ix = (i : Int)
      · have e1 : (ix == (i : Int)) = true := by simpa using he
        have e2 : (ix != (i : Int)) = false := by simp [bne, e1]
        have HE1 := Lib.hid e1
        have HRO := Lib.hid RO
        have HB := Lib.hid B
        clear RO B
        go_wp2_with fail
        go_roundw
        case rel => exact ⟨k + 1, _, rfl, by go_num, by omega, by rw [HF.out, HE1.out]; simpa using HRO.out, HB.out⟩
        case measure => simp [intOf]; omega
      · have e1 : (ix == (i : Int)) = false := by simpa using he
        have e2 : (ix != (i : Int)) = true := by simp [bne, e1]
        have HE1 := Lib.hid e1
        have HRO := Lib.hid RO
        have HB := Lib.hid B
        have HA := Lib.hid RO.above
        have hl6 : ((L.take k).filter (neE i)).length < 1000000 := by
          have h3 := List.length_filter_le (neE i) (L.take k)
          have h4 : (L.take k).length ≤ k := by rw [List.length_take]; exact Nat.min_le_left _ _
          omega
        have HL6 := Lib.hid hl6
        have Hb2 := Lib.hid (fun o => show w2.heap.size ≤ (wr.alloc o).heap.size by simp; omega)
        obtain ⟨ar, cr, rfl⟩ := RO.len
        clear RO B he hl6
        go_wp2_with (at_builtin; go_loud (refine wpList_append_row _ rfl (.tmp 37) (.tmp 42) 41 rfl w2.heap.size info_entry Try.underlying41 (by decide) (by decide) encE_len _ ((L.take k).filter (neE i)) rfl (HRO.out.alloc _) _ _ (ix, (y, z)) rfl (Own.new _ _ _) encE_one HL6.out (by decide) (Hb2.out _) ?_; intro g9 cap9 w9 R9 G9 o9))
        go_roundw
        case rel =>
          refine ⟨k + 1, _, rfl, by go_num, by omega, by rw [HF.out, HE1.out]; exact R9, ?_⟩
          exact Below.grown (HB.out.alloc hsB _) G9 (Hb2.out _) (fun y e => HA.out y e)
        case measure => simp [intOf]; omega
    · have hkn : k = ne := by omega
      subst hkn
      rw [HNE.out, List.take_length] at RO
      have HB := Lib.hid B
      have hA := RO.above
      have HR8 := Lib.hid (HR.out.below B (by omega))
      have HG8 := Lib.hid (HG.out.below B hw2)
      have hw8 := HG8.out.size
      by_cases h0 : v = 0
      · subst h0
        have HR9 := Lib.hid (show RowE 51 3 encE wr w2.heap.size r (outL L i 0) from by
          have e : outL L i 0 = L.filter (neE i) := by unfold outL; rw [decide_eq_true rfl]; exact List.append_nil _
          rw [e]; exact RO)
        clear RO B hA
        go_wp2_with fail
        with_reducible refine (made_f w2.heap.size _ (outL L i 0) _ HLN.out HOK.out HR9.out).mono ?_
        rintro e w5 ⟨s5, x5, m5, rfl, n5, g5⟩
        obtain ⟨a5, j5, c5, rfl⟩ := n5.slice
        have lr9 := HR8.out.lt
        have HN5 := Lib.hid (made_tree HOK.out n5)
        have hs5 := g5.size
        have R5 := HR8.out.grew g5
        have G5 := HG8.out.trans g5
        have lr5 := R5.lt
        clear n5 g5 HR9
        obtain ⟨R0, R1, R2, R3, R4, R5a, R6, R7⟩ := R5.four
        go_wp2_with fail
        generalize hw3 : World.setCell (World.setCell (World.setCell (World.setCell _ _ _) _ _) _ _) _ _ = w3
        have OE := own4 hw3 R5
        have GE := grew4 hw3 G5 (by omega)
        have nE := node4 hw3 HN5.out.node (fun b hb => by omega)
        clear hw3 R0 R1 R2 R3 R4 R5a R6 R7
        obtain ⟨b0, b1, b2, b3, -⟩ := OE.four
        refine bodyPost_ret (v := .tuple #[treeI (hF (topOf (outL L i 0)) : Nat) (.slice a5 j5 c5) x5 m5, .int .i64 0]) (by simp [results, Try.results29, go_sem, b0, b1, b2, b3]) rfl ⟨_, _, _, _, rfl, ?_, GE⟩
        rw [← HFN.out]
        exact ⟨HN5.out.le, nE.mono (fun b hb _ => Nat.le_trans HG8.out.size hb), HN5.out.2.2⟩
      · have e1 : (v == 0) = false := by simpa using h0
        have e2 : (v != 0) = true := by simp [bne, e1]
        have HH0 := Lib.hid h0
        have HRO := Lib.hid RO
        have HA := Lib.hid hA
        have hl6 : (L.filter (neE i)).length < 1000000 := by
          have h3 := List.length_filter_le (neE i) L
          have := HNE.out
          omega
        have HL6 := Lib.hid hl6
        have Hb2 := Lib.hid (fun o => show w2.heap.size ≤ (wr.alloc o).heap.size by simp; omega)
        obtain ⟨ar, cr, rfl⟩ := RO.len
        clear RO B hl6 hA h0
        go_upto_region 13 with fail
        go_wp2_with (at_builtin; go_loud (refine wpList_append_row _ rfl (.tmp 46) (.tmp 50) 41 rfl w2.heap.size info_entry Try.underlying41 (by decide) (by decide) encE_len _ (L.filter (neE i)) rfl (HRO.out.alloc _) _ _ ((i : Int), (v, 0)) rfl (Own.new _ _ _) encE_one HL6.out (by decide) (Hb2.out _) ?_; intro g9 cap9 w9 R9 G9 o9))
        have HR9 := Lib.hid (show RowE 51 3 encE w9 w2.heap.size (.slice (some ⟨g9, 0, none⟩) ((L.filter (neE i)).length + 1) cap9) (outL L i v) from by
          have e : outL L i v = L.filter (neE i) ++ [((i : Int), (v, 0))] := by unfold outL; rw [decide_eq_false HH0.out]
          rw [e]; exact R9)
        have hab : ∀ y, (Value.slice ar (L.filter (neE i)).length cr).ownBlock = some y → w2.heap.size ≤ y := fun y e => HA.out y e
        replace HR8 := Lib.hid (Own.keptA (B := w2.heap.size) (HR8.out.alloc (.cells #[.int .i64 i, .int .i64 v, .int .i64 0] 51)) G9 hab (by omega))
        replace HG8 := Lib.hid (Grew.keptA (B := w2.heap.size) (HG8.out.alloc (.cells #[.int .i64 i, .int .i64 v, .int .i64 0] 51)) G9 hab hw2)
        have hw9 := HG8.out.size
        clear R9 G9 o9 hab
        with_reducible refine (made_f w2.heap.size _ (outL L i v) _ HLN.out HOK.out HR9.out).mono ?_
        rintro e w5 ⟨s5, x5, m5, rfl, n5, g5⟩
        obtain ⟨a5, j5, c5, rfl⟩ := n5.slice
        have lr9 := HR8.out.lt
        have HN5 := Lib.hid (made_tree HOK.out n5)
        have hs5 := g5.size
        have R5 := HR8.out.grew g5
        have G5 := HG8.out.trans g5
        have lr5 := R5.lt
        clear n5 g5 HR9
        obtain ⟨R0, R1, R2, R3, R4, R5a, R6, R7⟩ := R5.four
        go_wp2_with fail
        generalize hw3 : World.setCell (World.setCell (World.setCell (World.setCell _ _ _) _ _) _ _) _ _ = w3
        have OE := own4 hw3 R5
        have GE := grew4 hw3 G5 (by omega)
        have nE := node4 hw3 HN5.out.node (fun b hb => by omega)
        clear hw3 R0 R1 R2 R3 R4 R5a R6 R7
        obtain ⟨b0, b1, b2, b3, -⟩ := OE.four
        refine bodyPost_ret (v := .tuple #[treeI (hF (topOf (outL L i v)) : Nat) (.slice a5 j5 c5) x5 m5, .int .i64 0]) (by simp [results, Try.results29, go_sem, b0, b1, b2, b3]) rfl ⟨_, _, _, _, rfl, ?_, GE⟩
        rw [← HFN.out]
        exact ⟨HN5.out.le, nE.mono (fun b hb _ => Nat.le_trans HG8.out.size hb), HN5.out.2.2⟩
end Go.Proofs.Ytdlhihllmidfeaa
