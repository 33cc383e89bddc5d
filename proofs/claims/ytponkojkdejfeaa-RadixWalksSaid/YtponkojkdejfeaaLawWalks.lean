/- RadixWalks holds: Next, from each entry behind the last one that it found, finds just the entries with a mark, in ascending order. -/
import Derived.Test.YtponkojkdejfeaaRw1
import Derived.Test.YtponkojkdejfeaaRm8
import Derived.Test.YtponkojkdejfeaaRx15
import Derived.BigQuiet
import Derived.Deep.DeepCutAuto
namespace Go.Proofs.Ytponkojkdejfeaa
open Go.ChangeShapes Go.WideShapes Go.ChangeAt Go.RowKit Go.Mine

theorem info_intW : (Try.prog.info? 3).map (fun i => (i.zero, i.size, i.bytes)) = some (some (.int .i64 0), 1, 8) := by kernel_rfl
theorem slM_at (p : Nat) (hp : p < 4) : ∃ z : Int, mk4 z ∧ (#[.int .i64 0, .int .i64 1, .int .i64 2, .int .i64 4] : Array Value)[p]? = some (.int .i64 z) := by
  have : p = 0 ∨ p = 1 ∨ p = 2 ∨ p = 3 := by omega
  rcases this with rfl | rfl | rfl | rfl
  · exact ⟨0, .inl rfl, rfl⟩
  · exact ⟨1, .inr (.inl rfl), rfl⟩
  · exact ⟨2, .inr (.inr (.inl rfl)), rfl⟩
  · exact ⟨4, .inr (.inr (.inr rfl)), rfl⟩
theorem srch4 {mk : Int} (h : mk4 mk) : srchB mk = true := by rcases h with rfl | rfl | rfl | rfl <;> rfl
theorem p4_256 {h : Nat} (hh : h ≤ 4) : p4 h ≤ 256 := by
  have hc : h = 0 ∨ h = 1 ∨ h = 2 ∨ h = 3 ∨ h = 4 := by omega
  rcases hc with rfl | rfl | rfl | rfl | rfl <;> decide
theorem TreeF.farR {w w' : World} {B h : Nat} {f : Fen} {s : Value} {x m : Int} {r : Option Nat} (n : TreeF w (fun b => b < B) h f s x m) (g : w.grownBy w' r) (hr : ∀ k, r = some k → B ≤ k) : TreeF w' (fun b => b < B) h f s x m :=
  ⟨n.1, n.node.keep (fun _ a _ => a) (fun b hb hb2 => g.block b hb2 (fun e => by have hb : b < B := hb; have := hr b e.symm; omega)), n.2.2⟩
theorem selE_len (mk : Int) (L : List En) : (selE mk L).length ≤ L.length := by
  unfold selE
  rw [List.length_map]
  exact List.length_filter_le _ _
theorem count_v (h : Nat) (f : Fen) (s : Value) (x m mk : Int) (N : Nat) (p : Nat → Prop) (w : World) (n : TreeF w p h f s x m) (hs : mk4 mk) (hN : (hitS mk f (p4 h)).length = N) :
    Calls Try.prog 21 #[treeV h s x m, .int .i64 mk] w (RetG (.int .i64 (N : Int)) w) := by
  have e : cntR mk h f = (N : Int) := by rw [cntR_hit hs h f n.good, ← hitS_len, hN]
  rw [← e]
  exact Count_f h f s x m mk p w n (srch4 hs)
/-- What a search finds, as the walk wants it. -/
theorem next_w (h : Nat) (f : Fen) (s : Value) (x m mk : Int) (from' : Nat) (p : Nat → Prop) (w : World) (n : TreeF w p h f s x m) (hs : mk4 mk) (hf : from' ≤ p4 h) :
    Calls Try.prog 13 #[treeV h s x m, .int .i64 from', .int .i64 mk] w (fun e w' => ((∃ i : Nat, e = .returned (.tuple #[.int .i64 (i : Int), .bool true]) ∧ from' ≤ i ∧ i < p4 h ∧ hitS mk f (i + 1) = hitS mk f from' ++ [(i : Int)]) ∨
      (∃ z : Int, e = .returned (.tuple #[.int .i64 z, .bool false]) ∧ hitS mk f (p4 h) = hitS mk f from')) ∧ Grew w w') := by
  refine (next_f h f s x m mk from' p w n (srch4 hs)).mono ?_
  intro e w' hq
  obtain ⟨he, g⟩ : e = .returned (.tuple #[.int .i64 (ffR mk h f from').1, .bool (ffR mk h f from').2]) ∧ Grew w w' := hq
  refine ⟨?_, g⟩
  rcases finds_next (ffR_finds hs h f from' n.good) hf with ⟨h2, i, h1, h3, h4, h5⟩ | ⟨h2, h3⟩
  · refine .inl ⟨i, ?_, h3, h4, h5⟩
    rw [he, h1, h2]
  · refine .inr ⟨(ffR mk h f from').1, ?_, h3⟩
    rw [he, h2]
def HitCut (mk : Int) (l : Lef) (w5 : World) (v : Value) (wx : World) : Prop := v = .bool (hitB mk l) ∧ w5 = wx
set_option maxRecDepth 100000 in
set_option maxHeartbeats 4000000 in
theorem walks_core (A : Option Addr) (c : Nat) (xs : List Int) (n : Int) (w : World) (hr : IntRow w A xs) (hm : xs.length ≤ maxLen) (hw : (Lit.int .i64 n).wf = true) :
    Calls Try.prog 7 #[.slice A xs.length c, .int .i64 n] w (RetG (.bool true) w) := by
  have tp := Tp.made hr hm c 32
  clear hr hm hw
  generalize hX : xs.length = X at *
  clear hX
  go_enter Try.func7, Try.ntmps7
  go_wp2_with fail
  have G0 : w.grownBy (w.alloc (.cells #[.slice A X c, .int .i64 0] 32)) (some w.heap.size) := grown_alloc (grown_refl _ _) _
  generalize World.alloc w _ = w0 at *
  have hsz0 : w.heap.size + 1 ≤ w0.heap.size := tp.lt
  with_reducible refine (tree_x _ _ _ tp hsz0).mono ?_
  rintro e w1 ⟨h, f, s, x, m, rfl, TF, T1, g1⟩
  have G1 := (Grew.refl w).past (grown_trans G0 g1) (Nat.le_refl _)
  obtain ⟨a, j, cc, rfl⟩ := TF.node.slice
  have h4 : h ≤ 4 := TF.le
  have hp4 := p4_256 h4
  have OT := Own.new w1 28 #[.int .i64 h, .slice a j cc, .int .i64 x, .int .i64 m]
  have g2 : Grew w1 (w1.alloc (.cells #[.int .i64 h, .slice a j cc, .int .i64 x, .int .i64 m] 28)) := (Grew.refl w1).alloc _
  have HTF := Lib.hid (TF.grew g2)
  have G2 := G1.trans g2
  clear TF tp G0 g1 T1 G1 g2 hsz0
  go_upto_region 2 with fail
  generalize World.alloc w1 _ = w2 at *
  generalize w1.heap.size = P at *
  have SL := Own.new w2 3 #[.int .i64 0, .int .i64 1, .int .i64 2, .int .i64 4]
  have g3 : Grew w2 (w2.alloc (.cells #[.int .i64 0, .int .i64 1, .int .i64 2, .int .i64 4] 3)) := (Grew.refl w2).alloc _
  have OT3 := OT.grew g3
  have HTF3 := Lib.hid (HTF.out.grew g3)
  have G3 := G2.trans g3
  clear OT HTF G2 g3
  go_wp2_with fail
  generalize World.alloc w2 _ = w3 at *
  generalize w2.heap.size = K at *
  with_reducible refine (cut_any n 4 _ (by omega) (by omega)).mono ?_
  rintro e w4 ⟨rfl, rfl⟩
  obtain ⟨hc0, hc1⟩ := cut_lt n 4 (by omega)
  generalize cut n 4 = cq at *
  obtain ⟨q, rfl⟩ := Int.eq_ofNat_of_zero_le hc0
  obtain ⟨mk, hmk, hcell⟩ := slM_at q (by omega)
  have hcc := (SL.cell q).trans hcell
  have HMK := Lib.hid hmk
  have lS := SL.lt
  obtain ⟨t0, t1, t2, t3, -⟩ := OT3.four
  have lT := OT3.lt
  clear hcell hmk SL
  go_wp2_with fail
  with_reducible refine (entries_f h f _ _ _ _ _ HTF3.out).mono ?_
  rintro e w5 ⟨ve, rfl, RE, g5⟩
  have OT5 := OT3.grew g5
  have HTF5 := Lib.hid ((HTF3.out.grew g5).mono (q := fun b => b < w5.heap.size) (fun b _ hb => hb))
  have G5 := G3.trans g5
  obtain ⟨ae, ne, ce, rfl, hne, -⟩ := RowE.ents RE
  have HRE := Lib.hid (RE.wider (Nat.zero_le _))
  have HNE := Lib.hid hne
  have HU := Lib.hid (RE.lt)
  have hnl : ne ≤ 256 := by
    have h1 := entR_len h f 0
    omega
  have HRW := Lib.hid (RowE.nil (T := 3) (sz := 1) (enc := enc1) w5 w5.heap.size)
  have hWw : w.heap.size ≤ w5.heap.size := G5.size
  have hPB : P < w5.heap.size := OT5.lt
  have hBB : w5.heap.size ≤ w5.heap.size := Nat.le_refl _
  clear t0 t1 t2 t3 lT lS hcc OT3 HTF3 G3 g5 RE hne
  go_wp2_with fail
  obtain ⟨BW, hBW⟩ : ∃ BW, w5.heap.size = BW := ⟨_, rfl⟩
  rw [hBW] at HTF5 HU HRW hWw hPB
  have hBB : BW ≤ w5.heap.size := by omega
  clear hBW
  go_loopw [7, 10] (fun vw iv wr => ∃ (k : Nat) (r : Value), r = vw ∧ iv = .int .i64 k ∧ k ≤ ne ∧ Own wr P 28 #[.int .i64 h, .slice a j cc, .int .i64 x, .int .i64 m] ∧ TreeF wr (fun b => b < BW) h f (.slice a j cc) x m ∧
    RowE 51 3 encE wr 0 (.slice ae ne ce) (entR h f 0) ∧ RowE 3 1 enc1 wr BW r (selE mk ((entR h f 0).take k)) ∧ BW ≤ wr.heap.size ∧ Grew w wr) (fun _ iv _ => ne - (intOf iv).toNat)
  case atStart => exact ⟨0, _, rfl, rfl, by omega, OT5, HTF5.out, HRE.out, HRW.out, by omega, G5⟩
  case round =>
    clear OT5 HTF5 HRE HRW G5 hBB
    obtain ⟨k, r, rfl, rfl, hk, OT, TF, RE, RW, hBB, G⟩ := hrel
    obtain ⟨wo, rfl⟩ : ∃ wo : World, wo = wr := ⟨_, rfl⟩
    have HTF := Lib.hid TF
    have HRE := Lib.hid RE
    have HRW := Lib.hid RW
    clear TF RE RW
    by_cases hlt : k < ne
    · have hkl : k < (entR h f 0).length := by have := HNE.out; omega
      obtain ⟨ge, rfl, hge, c0, c1, c2'⟩ := ent_cell HRE.out hkl
      obtain ⟨ix, hix, hen, hnz⟩ := ent_at hkl
      have HSN := Lib.hid (show selE mk ((entR h f 0).take (k + 1)) = selE mk ((entR h f 0).take k) ++ (if hitB mk (f ix) = true then [(ix : Int)] else []) from by rw [take_snoc_getD (d := (0, (0, 0))) _ k hkl, selE_snoc, hen])
      rw [hen] at c0 c1 c2'
      have hgd := HTF.out.good ix
      dsimp only at c0 c1 c2'
      obtain ⟨l, hl⟩ : ∃ l, f ix = l := ⟨_, rfl⟩
      rw [hl] at HSN c1 c2' hgd
      obtain ⟨lv, lm⟩ := l
      dsimp only at c1 c2' hgd
      have HT := Lib.hid (hit_test HMK.out hgd.2.1 hgd.2.2.1)
      have k0 : (0 : Int) ≤ (k : Int) := by omega
      have k1 : (k : Int) < (ne : Int) := by omega
      have hlen : (selE mk ((entR h f 0).take k)).length < 1000000 := by
        have h1 := selE_len mk ((entR h f 0).take k)
        have h2 : ((entR h f 0).take k).length ≤ k := List.length_take_le _ _
        omega
      have HLEN := Lib.hid hlen
      clear hgd hen hnz hl hix hlen
      go_upto_region 8 with fail
      go_cut [51] from 32 to 51 (HitCut mk (lv, lm) wo)
      case first =>
        by_cases hv : 0 < lv
        · cases hb2 : (mk == 0)
          · cases hb3 : (bits .and .i64 lm mk != 0)
            · have hE : hitB mk (lv, lm) = false := by unfold hitB; rw [HT.out, hb2]; show (frB lv && (false || (bits .and .i64 lm mk != 0))) = false; rw [hb3]; simp
              have HE := Lib.hid hE
              clear hE
              go_wp2_with fail
              go_meet
              exact ⟨by rw [HE.out], rfl⟩
            · have hE : hitB mk (lv, lm) = true := by unfold hitB; rw [HT.out, hb2]; show (frB lv && (false || (bits .and .i64 lm mk != 0))) = true; rw [hb3, show frB lv = true from decide_eq_true hv]; rfl
              have HE := Lib.hid hE
              clear hE
              go_wp2_with fail
              go_meet
              exact ⟨by rw [HE.out], rfl⟩
          · have hE : hitB mk (lv, lm) = true := by unfold hitB; rw [HT.out, hb2, show frB lv = true from decide_eq_true hv]; rfl
            have HE := Lib.hid hE
            clear hE
            go_wp2_with fail
            go_meet
            exact ⟨by rw [HE.out], rfl⟩
        · have hE : hitB mk (lv, lm) = false := by unfold hitB; rw [show frB lv = false from decide_eq_false hv]; rfl
          have HE := Lib.hid hE
          clear hE
          go_wp2_with fail
          go_meet
          exact ⟨by rw [HE.out], rfl⟩
      case rest =>
        obtain ⟨rfl, rfl⟩ := hcut
        cases hh : hitB mk (lv, lm)
        · have HSN2 := Lib.hid (show selE mk ((entR h f 0).take (k + 1)) = selE mk ((entR h f 0).take k) from by rw [HSN.out, hh]; simp)
          clear hh
          go_wp2
          exact ⟨⟨k + 1, _, rfl, by go_num, by omega, OT, HTF.out, HRE.out, by rw [HSN2.out]; exact HRW.out, hBB, G⟩, by simp [intOf]; omega⟩
        · have HSN2 := Lib.hid (show selE mk ((entR h f 0).take (k + 1)) = selE mk ((entR h f 0).take k) ++ [(ix : Int)] from by rw [HSN.out, hh]; simp)
          have HA := Lib.hid HRW.out.above
          have hB6 : ∀ o, BW ≤ (wo.alloc o).heap.size := fun o => by simp; omega
          have hL6 := HLEN.out
          have lge := hge
          clear hh
          go_wp2_with (at_builtin; go_loud (refine wpList_append_row _ rfl (.tmp 52) (.tmp 58) 22 rfl BW info_intW Try.underlying22 (by decide) (by decide) enc1_len _ (selE mk ((entR h f 0).take k)) rfl (HRW.out.alloc _) _ _ (ix : Int) rfl (Own.new _ _ _) enc1_one hL6 (by decide) (hB6 _) ?_; intro g9 cap9 w9 R9 G9 o9))
          exact ⟨⟨k + 1, _, rfl, by go_num, by omega, Own.keptA (B := BW) (OT.alloc _) G9 (fun y e => HA.out y e) (by omega), TreeF.farR (HTF.out.grew ((Grew.refl _).alloc _)) G9 (fun y e => HA.out y e), RowE.farR (b := BW) (HRE.out.alloc _) (fun y e => HU.out y e) G9 (fun y e => HA.out y e), by rw [HSN2.out]; exact R9,
            Nat.le_trans (hB6 _) G9.size, Grew.keptA (B := BW) (G.alloc _) G9 (fun y e => HA.out y e) (by omega)⟩, by simp [intOf]; omega⟩
    · have hkn : k = ne := by omega
      subst hkn
      have hW : selE mk ((entR h f 0).take k) = hitS mk f (p4 h) := by rw [List.take_of_length_le (by have := HNE.out; omega), selE_R]
      have RW := HRW.out
      rw [hW] at RW
      obtain ⟨aw, cw, rfl⟩ := RW.len
      obtain ⟨N, hN⟩ : ∃ N, (hitS mk f (p4 h)).length = N := ⟨_, rfl⟩
      rw [hN] at RW
      have HRW2 := Lib.hid (RW.wider (Nat.zero_le _))
      have HUW0 := RW.lt
      obtain ⟨BG, hBG⟩ : ∃ BG, wo.heap.size = BG := ⟨_, rfl⟩
      have HTF2 := Lib.hid (HTF.out.mono (q := fun b => b < BG) (fun b _ hb => hBG ▸ hb))
      have hPG : P < BG := by have := OT.lt; omega
      have hwG : w.heap.size ≤ BG := by omega
      rw [hBG] at HUW0
      have HUW := Lib.hid HUW0
      have hBB2 : BG ≤ wo.heap.size := by omega
      have HRG := Lib.hid (RowE.nil (T := 3) (sz := 1) (enc := enc1) wo BG)
      have hN6 : N ≤ 256 := by have := hitS_le mk f (p4 h); omega
      have HNN := Lib.hid hN
      clear hBG HTF HRE hBB HRW RW hW HUW0 hN hWw hPB HU HNE
      go_wp2_with fail
      rw [HNN.out]
      go_loopw [8, 11] (fun vg fv wr => ∃ (F : Nat) (r : Value), r = vg ∧ fv = .int .i64 F ∧ F ≤ p4 h ∧ Own wr P 28 #[.int .i64 h, .slice a j cc, .int .i64 x, .int .i64 m] ∧ TreeF wr (fun b => b < BG) h f (.slice a j cc) x m ∧
        RowE 3 1 enc1 wr 0 (.slice aw N cw) (hitS mk f (p4 h)) ∧ RowE 3 1 enc1 wr BG r (hitS mk f F) ∧ BG ≤ wr.heap.size ∧ Grew w wr) (fun _ fv _ => p4 h - (intOf fv).toNat)
      case atStart => exact ⟨0, _, rfl, rfl, Nat.zero_le _, OT, HTF2.out, HRW2.out, HRG.out, hBB2, G⟩
      case round =>
        clear OT HTF2 HRW2 HRG G hBB2
        obtain ⟨F, r, rfl, rfl, hF, OT, TF, RW, RG, hBB, G⟩ := hrel
        obtain ⟨wi, rfl⟩ : ∃ wi : World, wi = wr := ⟨_, rfl⟩
        have HTF := Lib.hid TF
        have HRW := Lib.hid RW
        obtain ⟨ag, cg, rfl⟩ := RG.len
        obtain ⟨ng, hng⟩ : ∃ ng, (hitS mk f F).length = ng := ⟨_, rfl⟩
        rw [hng] at RG
        have HRG := Lib.hid RG
        have hg6 : ng ≤ 256 := by have := hitS_le mk f F; omega
        have HNG := Lib.hid hng
        obtain ⟨t0, t1, t2, t3, -⟩ := OT.four
        have lT := OT.lt
        clear TF RW RG
        rw [hng]
        clear hng
        go_wp2_with fail
        with_reducible refine (next_w h f _ _ _ mk F _ _ HTF.out HMK.out hF).mono ?_
        rintro e w6 ⟨hq, g6⟩
        have OT6 := OT.grew g6
        have HTF6 := Lib.hid (HTF.out.grew g6)
        have HRW6 := Lib.hid (HRW.out.grew g6)
        have HRG6 := Lib.hid (HRG.out.grew g6)
        have G6 := G.trans g6
        have hB6 : BG ≤ w6.heap.size := Nat.le_trans hBB g6.size
        clear t0 t1 t2 t3 lT OT HTF HRW HRG G g6 hBB
        rcases hq with ⟨i, rfl, hFi, hip, hS⟩ | ⟨z, rfl, hS⟩
        · have HS := Lib.hid hS
          have HA := Lib.hid HRG6.out.above
          have hB7 : ∀ o, BG ≤ (w6.alloc o).heap.size := fun o => by simp; omega
          have hL6 : (hitS mk f F).length < 1000000 := by have := HNG.out; omega
          have HL6 := Lib.hid hL6
          clear hS hL6
          go_wp2_with (at_builtin; go_loud (refine wpList_append_row _ rfl (.tmp 72) (.tmp 74) 22 rfl BG info_intW Try.underlying22 (by decide) (by decide) enc1_len _ (hitS mk f F) rfl (HRG6.out.alloc _) _ _ (i : Int) rfl (Own.new _ _ _) enc1_one HL6.out (by decide) (hB7 _) ?_; intro g9 cap9 w9 R9 G9 o9))
          exact ⟨⟨i + 1, _, rfl, by go_num, by omega, Own.keptA (B := BG) (OT6.alloc _) G9 (fun y e => HA.out y e) (by omega), TreeF.farR (HTF6.out.grew ((Grew.refl _).alloc _)) G9 (fun y e => HA.out y e), RowE.farR (b := BG) (HRW6.out.alloc _) (fun y e => HUW.out y e) G9 (fun y e => HA.out y e), by rw [HS.out]; exact R9,
            Nat.le_trans (hB7 _) G9.size, Grew.keptA (B := BG) (G6.alloc _) G9 (fun y e => HA.out y e) (by omega)⟩, by simp [intOf]; omega⟩
        · have hnn : ng = N := by have := HNN.out; have := HNG.out; rw [hS] at *; omega
          subst hnn
          have RG6 := HRG6.out
          rw [← hS] at RG6
          have HRG7 := Lib.hid RG6
          clear RG6 HRG6 HNG hS
          obtain ⟨t0, t1, t2, t3, -⟩ := OT6.four
          have lT := OT6.lt
          go_wp2_with fail
          with_reducible refine (count_v h f _ _ _ mk ng _ _ HTF6.out HMK.out HNN.out).mono ?_
          rintro e w7 ⟨rfl, g7⟩
          have HRW8 := Lib.hid (HRW6.out.grew g7)
          have HRG8 := Lib.hid ((HRG7.out.grew g7).wider (Nat.zero_le _))
          have G8 := G6.trans g7
          clear t0 t1 t2 t3 lT OT6 HTF6 HRW6 HRG7 G6 g7 hB6
          go_wp2_with fail
          obtain ⟨W, hW⟩ : ∃ W, hitS mk f (p4 h) = W := ⟨_, rfl⟩
          rw [hW] at HRW8 HRG8
          clear hW
          go_loopw [14] (fun iv wr => ∃ k : Nat, iv = .int .i64 k ∧ k ≤ ng ∧ RowE 3 1 enc1 wr 0 (.slice aw ng cw) W ∧ RowE 3 1 enc1 wr 0 (.slice ag ng cg) W ∧ Grew w wr) (fun iv _ => ng - (intOf iv).toNat)
          case atStart => exact ⟨0, rfl, by omega, HRW8.out, HRG8.out, G8⟩
          case round =>
            clear HRW8 HRG8 G8
            obtain ⟨k2, rfl, hk2, RW, RG, G⟩ := hrel
            have HRW := Lib.hid RW
            have HRG := Lib.hid RG
            clear RW RG
            by_cases hlt : k2 < ng
            · obtain ⟨gw, rfl, -, lgw, cw0, -⟩ := HRW.out.atI.2 k2 hlt
              obtain ⟨gg, rfl, -, lgg, cg0, -⟩ := HRG.out.atI.2 k2 hlt
              generalize W.getD k2 0 = zz at *
              have k0 : (0 : Int) ≤ (k2 : Int) := by omega
              have k1 : (k2 : Int) < (ng : Int) := by omega
              go_upto_region 21 with fail
              go_quiet (fail)
              revert nq; intro nq1
              have HRW9 := Lib.hid (HRW.out.drewN nq1)
              have HRG9 := Lib.hid (HRG.out.drewN nq1)
              have G9 := G.drewN nq1
              clear cw0 cg0 lgw lgg HRW HRG G
              generalize World.drewN _ nq1 = w9 at *
              go_wp2
              exact ⟨⟨k2 + 1, by go_num, by omega, HRW9.out, HRG9.out, G9⟩, by simp [intOf]; omega⟩
            · have hkn : k2 = ng := by omega
              subst hkn
              go_wp2_with fail
              with_reducible refine (awake_any _).mono ?_
              rintro e w40 ⟨rfl, g40⟩
              go_wp2
              go_ret
              exact ⟨rfl, G.trans g40⟩

theorem Try.own : ownKnob Try.prog.godebug = none := by kernel_rfl
theorem Try.laidOut : laidOutB Try.prog = true := by kernel_rfl

theorem radixWalks_contract (W : World) (base : Nat) (args : Array Value) (H : Type) (enc : TypeId × Value → H) (ds : List (DataW H)) (p : List MemPlace)
    (hval : ∀ (j : Nat) t v, Try.f7.params[j]? = some t → args[j]? = some v → Value.okWide Try.prog W .any base t v)
    (hA : DataW.TrodAll enc Try.prog W 0 (fun _ => true) true Try.f7.params.toList args.toList ds p) :
    (∃ d0 d1, ds = [d0, d1]) ∧ Calls Try.prog 7 args W fun e W' => e = .returned (.bool true) ∧ Below W.heap.size W W' := by
  rw [Try.params7] at hval hA
  obtain ⟨v0, v1, d0, d1, p0, p1, ha, hd, hp, h0, h1⟩ := args_2 hA
  subst ha hd
  obtain ⟨A0, c0, xs0, rfl, hr0, hm0⟩ := open_introw Try.underlying22 Try.underlying3 (by kernel_rfl) (hval 0 _ _ rfl rfl) h0
  obtain ⟨n1, rfl, -, -, hw1⟩ := open_int Try.underlying3 (hval 1 _ _ rfl rfl) h1
  exact ⟨⟨_, _, rfl⟩, (walks_core A0 c0 xs0 n1 W hr0 hm0 hw1).mono fun _ _ h => h⟩

set_option maxRecDepth 100000 in
theorem radixWalks_lifted (os : Os) (started : os.Started) (H : Type) (enc : TypeId × Value → H) :
    ReturnsInHanded {} Try.checked os 7 .any (Rows.radixWalksSpec.pre6 enc Try.prog Try.f7 Rows.radixWalksRow.domain false) (Rows.radixWalksSpec.post enc Try.prog Try.f7 false true false false) := by
  refine returnsInHanded_of_change (C := Try.checked) Try.own started (by kernel_rfl) Try.func7
    (ChangeSpec.witness6 (enc := enc) (C := Try.checked) false ⟨#[], #[.slice none 0 0, .int .i64 0], []⟩ 8 (by kernel_rfl) (by kernel_rfl) (by kernel_rfl) (by kernel_rfl)) ?_
  intro W base args ds gs before hval hW _ _
  obtain ⟨p, q, hA, hV, hrest⟩ := id hW
  obtain ⟨⟨d0, d1, rfl⟩, hc⟩ := radixWalks_contract W base args H enc ds p hval hA
  obtain ⟨rfl, -⟩ := trodVars_none hV
  refine hc.mono fun e W' ⟨he, hb⟩ => ⟨_, he, ?_⟩
  exact law_close (tb := 4) Try.laidOut (by rw [Try.params7]; decide +kernel) Try.underlying4 rfl rfl hW rfl rfl rfl hb

theorem radixWalks_holds : Rows.RadixWalksSaid :=
  OpenClaim.holds_of_wide 7 Try.f7 rfl rfl rfl rfl rfl rfl rfl ⟨rfl, rfl, rfl, rfl, rfl⟩ rfl rfl rfl rfl rfl (by kernel_rfl) Try.func7 (by kernel_rfl)
    (of_decide_eq_true (by kernel_rfl)) (by unfold Func.isWrapper; first | (rw [if_pos (by decide +kernel)]; kernel_rfl) | (rw [if_neg (by decide +kernel)]; exact ⟨rfl, rfl⟩))
    (fun os started H enc _ => radixWalks_lifted os started H enc)
end Go.Proofs.Ytponkojkdejfeaa
