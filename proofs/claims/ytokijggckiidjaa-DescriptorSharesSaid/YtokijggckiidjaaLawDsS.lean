/- DescriptorShares holds: descriptors share an offset and a cursor just if they came from one Open by Dup and Fork; the least free descriptor is always given out; a description lives as long as one of its descriptors. mkdss18.py writes this text. -/
import Derived.Test.YtokijggckiidjaaDsW
import Derived.Deep.CutBlock
import Derived.Deep.RegionHeld3
import Derived.RegionTactic
import Derived.BigQuiet
namespace Go.Proofs.Ytokijggckiidjaa
open Go.ChangeShapes Go.WideShapes Go.ChangeAt Go.RowKit Go.Mine
theorem rt1_ok {f : Int} (h0 : 0 ≤ f) (h3 : f < 3) : rtD ⟨f, 1, 0, 0, 1⟩ = true := rtD_iff.2 (by unfold RtD; dsimp only; omega)
set_option maxRecDepth 100000 in
set_option maxHeartbeats 40000000 in
theorem shares_core (A : Option Addr) (c : Nat) (xs : List Int) (w : World) (hr : IntRow w A xs) (hm : xs.length ≤ maxLen) :
    Calls Try.prog 4 #[.slice A xs.length c] w (RetG (.bool true) w) := by
  have tp := Tp.made hr hm c 25
  have gA := (Grew.refl w).alloc (.cells #[.slice A xs.length c, .int .i64 0] 25)
  have hbw : w.heap.size + 1 ≤ (w.alloc (.cells #[.slice A xs.length c, .int .i64 0] 25)).heap.size := by simp
  clear hr hm
  generalize hX : xs.length = X at *
  clear hX
  go_enter Try.func4, Try.ntmps4
  have hnw : nwD 3 = (newD 3, 0) := rfl
  go_wp2_with fail
  with_reducible refine (new_p (n := 3) (x := (newD 3, 0)) hnw).mono ?_
  rintro e w1 ⟨a, v, rfl, D, g1⟩
  obtain ⟨a1, c1, rfl, -, -⟩ := D.rd.o.slice
  obtain ⟨v1, e1, rfl, -, -⟩ := D.rd.t.slice
  have h1s := g1.size
  generalize hl1 : (newD 3, (0 : Int)).fst.o.length = l1 at *
  generalize hl2 : (newD 3, (0 : Int)).fst.t.length = l2 at *
  clear hl1 hl2
  dsimp only at D
  have HT := Lib.hid (tp.grew g1)
  have HG := Lib.hid (gA.trans g1)
  have HD := Lib.hid D
  clear tp gA D g1
  go_upto_region 7 with fail
  generalize hw2 : (w1.alloc (.cells #[.slice a1 l1 c1, .slice v1 l2 e1] 29)).alloc (.cells #[.int .i64 0, .int .i64 0, .int .i64 0, .int .i64 0, .int .i64 0, .int .i64 0, .int .i64 0, .int .i64 0, .int .i64 0, .int .i64 0, .int .i64 0, .int .i64 0, .int .i64 0, .int .i64 0, .int .i64 0, .int .i64 0, .int .i64 0, .int .i64 0, .int .i64 0, .int .i64 0, .int .i64 0, .int .i64 0, .int .i64 0, .int .i64 0, .int .i64 0, .int .i64 0, .int .i64 0, .int .i64 0, .int .i64 0, .int .i64 0, .int .i64 0, .int .i64 0, .int .i64 0, .int .i64 0, .int .i64 0, .int .i64 0, .int .i64 0, .int .i64 0, .int .i64 0, .int .i64 0, .int .i64 0, .int .i64 0, .int .i64 0, .int .i64 0, .int .i64 0, .int .i64 0, .int .i64 0, .int .i64 0] 52) = w2
  have HW : Hid (ShW w 29 52 3 w1.heap.size (w1.heap.size + 1) (.slice none 0 0) [] (List.replicate 48 0) (.slice a1 l1 c1) (.slice v1 l2 e1) (newD 3) w2) := Lib.hid (by
    have hb2 := hbw
    simp only [World.size_alloc] at hb2 h1s
    have gg := ((Grew.refl w1).alloc (.cells #[.slice a1 l1 c1, .slice v1 l2 e1] 29)).alloc (.cells #[.int .i64 0, .int .i64 0, .int .i64 0, .int .i64 0, .int .i64 0, .int .i64 0, .int .i64 0, .int .i64 0, .int .i64 0, .int .i64 0, .int .i64 0, .int .i64 0, .int .i64 0, .int .i64 0, .int .i64 0, .int .i64 0, .int .i64 0, .int .i64 0, .int .i64 0, .int .i64 0, .int .i64 0, .int .i64 0, .int .i64 0, .int .i64 0, .int .i64 0, .int .i64 0, .int .i64 0, .int .i64 0, .int .i64 0, .int .i64 0, .int .i64 0, .int .i64 0, .int .i64 0, .int .i64 0, .int .i64 0, .int .i64 0, .int .i64 0, .int .i64 0, .int .i64 0, .int .i64 0, .int .i64 0, .int .i64 0, .int .i64 0, .int .i64 0, .int .i64 0, .int .i64 0, .int .i64 0, .int .i64 0] 52)
    rw [hw2] at gg
    refine ⟨?_, ?_, RowE.nil _ _, ?_, by simp [Value.ownBlock], by simp [Value.ownBlock], by omega, by omega, by omega, HT.out.grew gg, HG.out.trans gg⟩
    · rw [← hw2]; exact (Mine.Own.new w1 _ _).alloc _
    · rw [← hw2]; exact Mine.Own.new2 w1 _ _ _
    · refine (HD.out.lt.mono fun z hz => ⟨?_, ?_, ?_, by simp [Value.ownBlock]⟩).grew gg
      · have := hz.1.resolve_left id; simp only [World.size_alloc] at this; omega
      · have := hz.2; omega
      · have := hz.2; omega)
  have HI := Lib.hid ShI.start
  generalize w1.heap.size + 1 = gw at *
  generalize w1.heap.size = gd at *
  clear hw2 HT HG HD hbw h1s hnw
  go_wp2_with fail
  go_loopw [7, 8] (fun sv iv wr => ∃ (n : Nat) (v7 : Value) (OF W : List Int) (d : Dd) (a b : Value), v7 = sv ∧ iv = .int .i64 n ∧ n ≤ 40 ∧ OF.length ≤ n ∧ Hid (ShI d W OF) ∧ Hid (ShW w 29 52 3 gd gw v7 OF W a b d wr)) (fun _ iv _ => 40 - (intOf iv).toNat)
  case atStart => exact ⟨0, _, [], _, _, _, _, rfl, rfl, Nat.zero_le _, Nat.zero_le _, HI, HW⟩
  case round =>
    clear HW HI
    obtain ⟨n, v7, OF, W, d, a, b, rfl, rfl, hn, hof, HI, HW⟩ := hrel
    obtain ⟨wo, rfl⟩ : ∃ wo : World, wo = wr := ⟨_, rfl⟩
    obtain ⟨ad, cd, rfl, -, -⟩ := HW.out.dd.rd.o.slice
    obtain ⟨vd, ed, rfl, -, -⟩ := HW.out.dd.rd.t.slice
    obtain ⟨m, hm⟩ : ∃ m, d.o.length = m := ⟨_, rfl⟩
    have hN := HI.out.tl
    rw [hm, hN] at HW
    have hol : d.o.length ≤ 1000 := HI.out.ok.sm.o
    have htl : d.t.length ≤ 1000 := HI.out.ok.sm.t
    have hrl := Lib.hid HI.out.ok.sm.r
    clear hm hN
    obtain ⟨ao, co, hv7⟩ := HW.out.row.len
    subst hv7
    obtain ⟨nf, hnf⟩ : ∃ nf, OF.length = nf := ⟨_, rfl⟩
    have HNF := Lib.hid hnf
    rw [hnf] at HW hof ⊢
    clear hnf
    by_cases hlt : n < 40
    rotate_left
    · obtain rfl : n = 40 := by omega
      obtain ⟨x0, x1, -, -⟩ := HW.out.dbox.two
      go_wp2_with fail
      with_reducible refine (check_p HW.out.dd.rd hol htl (okD_iff.2 HI.out.ok)).mono ?_
      rintro e w80 ⟨rfl, g⟩
      replace HW := Lib.hid (HW.out.grew g)
      clear g x0 x1
      go_wp2_with fail
      with_reducible refine (awake_x _).mono ?_
      rintro e w81 ⟨rfl, g⟩
      have HG := Lib.hid (HW.out.g.trans g)
      clear g
      go_wp2
      go_ret
      exact ⟨by simp, HG.out⟩
    have hlt2 : (n : Int) < 40 := by omega
    go_wp2_with fail
    with_reducible refine (end_x _ _ _ HW.out.tp).mono ?_
    rintro e w3 ⟨q, rfl, T, g⟩
    replace HW := Lib.hid (HW.out.grew g)
    clear T g
    cases q
    rotate_left
    · skip
      obtain ⟨x0, x1, -, -⟩ := HW.out.dbox.two
      go_wp2_with fail
      with_reducible refine (check_p HW.out.dd.rd hol htl (okD_iff.2 HI.out.ok)).mono ?_
      rintro e w80 ⟨rfl, g⟩
      replace HW := Lib.hid (HW.out.grew g)
      clear g x0 x1
      go_wp2_with fail
      with_reducible refine (awake_x _).mono ?_
      rintro e w81 ⟨rfl, g⟩
      have HG := Lib.hid (HW.out.g.trans g)
      clear g
      go_wp2
      go_ret
      exact ⟨by simp, HG.out⟩
    go_wp2_with fail
    with_reducible refine (next_x _ _ _ _ (by omega) (by omega) HW.out.tp).mono ?_
    rintro e w4 ⟨p, p0, p1, rfl, T, g⟩
    replace HW := Lib.hid (HW.out.next T g)
    clear T g
    go_wp2_with fail
    with_reducible refine (next_x _ _ _ _ (by omega) (by omega) HW.out.tp).mono ?_
    rintro e w5 ⟨fd, f0, f1, rfl, T, g⟩
    replace HW := Lib.hid (HW.out.next T g)
    clear T g
    obtain ⟨p, rfl⟩ := Int.eq_ofNat_of_zero_le p0
    obtain ⟨fd, rfl⟩ := Int.eq_ofNat_of_zero_le f0
    have hp : p < 3 := by omega
    have hfd : fd < 16 := by omega
    clear p0 p1 f0 f1 hlt2
    have hp0 : (0 : Int) ≤ (p : Int) := by omega
    have hp1 : (p : Int) < 3 := by omega
    have hf0 : (0 : Int) ≤ (fd : Int) := by omega
    have hf1 : (fd : Int) < 16 := by omega
    go_upto_block 2 with fail
    go_cut [11] from 62 to 73 (fun v11 wx => ∃ L : Nat, v11 = .int .i64 L ∧ L ≤ 16 ∧ Hid (frD (d.t.getD p []) = L) ∧ Hid (w5 = wx))
    case first => as_aux_lemma =>
      go_wp2_with fail
      go_loopw [11] (fun iv wr => ∃ L : Nat, iv = .int .i64 L ∧ L ≤ 16 ∧ Hid (∀ j, j < L → whoW W p j ≠ 0) ∧ Hid (w5 = wr)) (fun iv _ => 16 - (intOf iv).toNat)
      case atStart => exact ⟨0, rfl, Nat.zero_le _, Lib.hid (fun j hj => by omega), Lib.hid rfl⟩
      case round =>
        obtain ⟨L, rfl, hL, HK, HE⟩ := hrel
        obtain rfl := HE.out
        by_cases hL16 : L < 16
        · have hl0 : (0 : Int) ≤ (L : Int) := by omega
          have hl1 : (L : Int) < 16 := by omega
          have hc := HW.out.whoAt HI.out.wl hp hL16
          obtain ⟨x, hx⟩ : ∃ x, whoW W p L = x := ⟨_, rfl⟩
          have HXV := Lib.hid hx
          rw [hx] at hc
          clear hx
          by_cases hz : x = 0
          · subst hz
            have HF := Lib.hid (HI.out.least hp hL HK.out (fun _ => HXV.out))
            go_wp2_with fail
            go_meet
            exact ⟨L, rfl, hL, HF, Lib.hid (by first | rfl | trivial)⟩
          · have HK2 : Hid (∀ j, j < L + 1 → whoW W p j ≠ 0) := Lib.hid (fun j hj => by
              by_cases e : j = L
              · rw [e, HXV.out]; exact hz
              · exact HK.out j (by omega))
            have hz1 : (x != 0) = true := by simpa using hz
            have hz2 : (x == 0) = false := by simpa using hz
            clear hz
            go_wp2_with fail
            go_roundw
            case rel => exact ⟨L + 1, by go_num, by omega, HK2, Lib.hid (by first | rfl | trivial)⟩
            case measure => simp [intOf] <;> omega
        · obtain rfl : L = 16 := by omega
          rw [show ((16 : Nat) : Int) = 16 from rfl]
          have HF := Lib.hid (HI.out.least hp hL HK.out (fun h => absurd h (by omega)))
          go_wp2_with fail
          go_meet
          exact ⟨16, rfl, hL, HF, Lib.hid (by first | rfl | trivial)⟩
    case rest => as_aux_lemma =>
      obtain ⟨L, rfl, hL, HF, HE⟩ := hcut
      obtain rfl := HE.out
      have hl0 : (0 : Int) ≤ (L : Int) := by omega
      go_upto_region 14 with fail
      go_wp2_with fail
      with_reducible refine (next_x _ _ _ _ (by omega) (by omega) HW.out.tp).mono ?_
      rintro e w6 ⟨c, c0, c1', rfl, T, g⟩
      replace HW := Lib.hid (HW.out.next T g)
      clear T g HE
      go_upto_block 4 with fail
      go_cut [7, 12, 13, 14, 15, 16, 17, 18, 19, 20, 21, 22, 23, 24, 25, 26, 27, 28, 29, 30, 31, 32, 33, 34] from 76 to 294 (fun v7 v12 v13 v14 v15 v16 v17 v18 v19 v20 v21 v22 v23 v24 v25 v26 v27 v28 v29 v30 v31 v32 v33 v34 wx => ∃ (ao' : Option Addr) (co' : Nat) (OF' W' : List Int) (d' : Dd) (a' b' : Value), v7 = .slice ao' OF'.length co' ∧ OF'.length ≤ n + 1 ∧ Hid (ShI d' W' OF') ∧ Hid (ShW w 29 52 3 gd gw (.slice ao' OF'.length co') OF' W' a' b' d' wx))
      case first => as_aux_lemma =>
        by_cases e0 : c = 0
        · as_aux_lemma =>
            subst e0
            go_upto_region 17 with fail
            go_cut [12, 13, 14] from 79 to 87 (fun v12 v13 v14 wx => ∃ (f : Int) (Y : Dd × Int × Int) (gx : Nat) (a6 v6 : Option Addr) (c6 e6 : Nat), v12 = .pointer (some ⟨gx, 0, none⟩) ∧ v13 = .int .i64 Y.2.1 ∧ v14 = .int .i64 Y.2.2 ∧ 0 ≤ f ∧ f < 3 ∧ Hid (opnD d p ⟨f, 1, 0, 0, 1⟩ = Y) ∧ Hid (Mine.Own wx gx 29 #[.slice a6 Y.1.o.length c6, .slice v6 Y.1.t.length e6]) ∧ Hid (DdP wx (pH (w.heap.size + 1) gd gw (.slice ao nf co)) (.slice a6 Y.1.o.length c6) (.slice v6 Y.1.t.length e6) Y.1) ∧ gx ≠ gd ∧ Hid (ShW w 29 52 3 gd gw (.slice ao nf co) OF W (.slice ad m cd) (.slice vd 3 ed) d wx))
            case first => as_aux_lemma =>
              have HW0 := HW
              replace HW := Lib.hid (HW.out.grew (Grew.refl _).drew)
              obtain ⟨x0, x1, -, -⟩ := HW.out.dbox.two
              refine wp_region_held_drew (S := (fun w' => w'.cell? ⟨gd, 0, none⟩ = some (.slice ad m cd) ∧ w'.cell? ⟨gd, 1, none⟩ = some (.slice vd 3 ed))) (by kernel_rfl) ?_ (fun hHeld => ?_)
              · (try dsimp only); (refine ⟨?_, ?_⟩ <;> (repeat (first | (with_reducible assumption) | (with_reducible refine far_drew ?_) | (with_reducible refine far_alloc ?_) | (with_reducible refine far_cell hne ?_))))
              first | refine wpAnyH_take (i := 0) (v := undef) rfl (by kernel_rfl) (by kernel_rfl) (by kernel_rfl) (fun _ _ _ h => h) (Or.inr ⟨by rfl, rfl⟩) (by assumption) ?_ | (refine' wpAnyH_take (i := 0) (v := _) rfl (by kernel_rfl) (by kernel_rfl) (by kernel_rfl) (fun _ _ _ h => h) (Or.inl ⟨by rfl, ?hyo1⟩) (by assumption) ?resto1; case hyo1 => (intro w hSw; (try dsimp only at hSw); (first | (go_simp; done) | (go_simp; with_reducible rfl))))
              try simp only [Act.put, List.setIfInBounds_toArray, List.set_cons_zero, List.set_cons_succ, List.getElem_toArray, List.getElem_cons_zero]
              first | refine wpAnyH_take (i := 1) (v := undef) rfl (by kernel_rfl) (by kernel_rfl) (by kernel_rfl) (fun _ _ _ h => h) (Or.inr ⟨by rfl, rfl⟩) (by assumption) ?_ | (refine' wpAnyH_take (i := 1) (v := _) rfl (by kernel_rfl) (by kernel_rfl) (by kernel_rfl) (fun _ _ _ h => h) (Or.inl ⟨by rfl, ?hyo2⟩) (by assumption) ?resto2; case hyo2 => (intro w hSw; (try dsimp only at hSw); (first | (go_simp; done) | (go_simp; with_reducible rfl))))
              try simp only [Act.put, List.setIfInBounds_toArray, List.set_cons_zero, List.set_cons_succ, List.getElem_toArray, List.getElem_cons_zero, List.getElem_cons_succ]
              first | refine wpAnyH_take (i := 2) (v := undef) rfl (by kernel_rfl) (by kernel_rfl) (by kernel_rfl) (fun _ _ _ h => h) (Or.inr ⟨by rfl, rfl⟩) (by assumption) ?_ | (refine' wpAnyH_take (i := 2) (v := _) rfl (by kernel_rfl) (by kernel_rfl) (by kernel_rfl) (fun _ _ _ h => h) (Or.inl ⟨by rfl, ?hyo3⟩) (by assumption) ?resto3; case hyo3 => (intro w hSw; (try dsimp only at hSw); (first | (go_simp; done) | (go_simp; with_reducible rfl))))
              try simp only [Act.put, List.setIfInBounds_toArray, List.set_cons_zero, List.set_cons_succ, List.getElem_toArray, List.getElem_cons_zero, List.getElem_cons_succ]
              refine wpAnyH_ready (rs := [3, 9]) (by kernel_rfl) (by simp) ?_
              refine AllReadyH.cons rfl (fun K hK => ?sto4_0) (AllReadyH.cons rfl (fun K hK => ?sto4_1) AllReadyH.nil)
              case sto4_0 =>
                try simp only [Act.put, List.setIfInBounds_toArray, List.set_cons_zero, List.set_cons_succ, List.getElem_toArray, List.getElem_cons_zero, List.getElem_cons_succ]
                go_simp
                with_reducible refine (next_x _ _ _ _ (by omega) (by omega) HW.out.tp).mono ?_
                rintro e t1 ⟨f, fa, fb, rfl, T, g⟩
                replace HW := Lib.hid (HW.out.next T g)
                clear g T x0 x1
                obtain ⟨x0, x1, -, -⟩ := HW.out.dbox.two
                dsimp only
                refine hK.out _ _ ?_ (fun hHeld => ?_)
                · (try dsimp only); (refine ⟨?_, ?_⟩ <;> (repeat (first | (with_reducible assumption) | (with_reducible refine far_drew ?_) | (with_reducible refine far_alloc ?_) | (with_reducible refine far_cell hne ?_))))
                clear hK K
                refine wpAnyH_ready (rs := [4, 9]) (by kernel_rfl) (by simp) ?_
                refine AllReadyH.cons rfl (fun K hK => ?sto5_0) (AllReadyH.cons rfl (fun K hK => ?sto5_1) AllReadyH.nil)
                case sto5_0 =>
                  try simp only [Act.put, List.setIfInBounds_toArray, List.set_cons_zero, List.set_cons_succ, List.getElem_toArray, List.getElem_cons_zero, List.getElem_cons_succ]
                  go_simp
                  obtain ⟨Y, hY⟩ : ∃ Y, opnD d p ⟨f, 1, 0, 0, 1⟩ = Y := ⟨_, rfl⟩
                  have HY := Lib.hid hY
                  have hD := HW.out.dd
                  with_reducible refine (open_p hD hol htl hrl HY.out).mono ?_
                  rintro e t2 ⟨a9, v9, rfl, D, g⟩
                  obtain ⟨a6, c6, rfl, -, -⟩ := D.rd.o.slice
                  obtain ⟨v6, e6, rfl, -, -⟩ := D.rd.t.slice
                  have HD2 := Lib.hid (HW.out.res D)
                  replace HW := Lib.hid (HW.out.grew g)
                  clear g D hD hY x0 x1
                  obtain ⟨x0, x1, -, -⟩ := HW.out.dbox.two
                  dsimp only
                  refine hK.out _ _ ?_ (fun hHeld => ?_)
                  · (try dsimp only); (refine ⟨?_, ?_⟩ <;> (repeat (first | (with_reducible assumption) | (with_reducible refine far_drew ?_) | (with_reducible refine far_alloc ?_) | (with_reducible refine far_cell hne ?_))))
                  clear hK K
                  first | refine wpAnyH_take (i := 5) (v := undef) rfl (by kernel_rfl) (by kernel_rfl) (by kernel_rfl) (fun _ _ _ h => h) (Or.inr ⟨by rfl, rfl⟩) (by assumption) ?_ | (refine' wpAnyH_take (i := 5) (v := _) rfl (by kernel_rfl) (by kernel_rfl) (by kernel_rfl) (fun _ _ _ h => h) (Or.inl ⟨by rfl, ?hyo6⟩) (by assumption) ?resto6; case hyo6 => (intro w hSw; (try dsimp only at hSw); (first | (go_simp; done) | (go_simp; with_reducible rfl))))
                  try simp only [Act.put, List.setIfInBounds_toArray, List.set_cons_zero, List.set_cons_succ, List.getElem_toArray, List.getElem_cons_zero, List.getElem_cons_succ]
                  first | refine wpAnyH_take (i := 6) (v := undef) rfl (by kernel_rfl) (by kernel_rfl) (by kernel_rfl) (fun _ _ _ h => h) (Or.inr ⟨by rfl, rfl⟩) (by assumption) ?_ | (refine' wpAnyH_take (i := 6) (v := _) rfl (by kernel_rfl) (by kernel_rfl) (by kernel_rfl) (fun _ _ _ h => h) (Or.inl ⟨by rfl, ?hyo7⟩) (by assumption) ?resto7; case hyo7 => (intro w hSw; (try dsimp only at hSw); (first | (go_simp; done) | (go_simp; with_reducible rfl))))
                  try simp only [Act.put, List.setIfInBounds_toArray, List.set_cons_zero, List.set_cons_succ, List.getElem_toArray, List.getElem_cons_zero, List.getElem_cons_succ]
                  first | refine wpAnyH_take (i := 7) (v := undef) rfl (by kernel_rfl) (by kernel_rfl) (by kernel_rfl) (fun _ _ _ h => h) (Or.inr ⟨by rfl, rfl⟩) (by assumption) ?_ | (refine' wpAnyH_take (i := 7) (v := _) rfl (by kernel_rfl) (by kernel_rfl) (by kernel_rfl) (fun _ _ _ h => h) (Or.inl ⟨by rfl, ?hyo8⟩) (by assumption) ?resto8; case hyo8 => (intro w hSw; (try dsimp only at hSw); (first | (go_simp; done) | (go_simp; with_reducible rfl))))
                  try simp only [Act.put, List.setIfInBounds_toArray, List.set_cons_zero, List.set_cons_succ, List.getElem_toArray, List.getElem_cons_zero, List.getElem_cons_succ]
                  first | refine wpAnyH_take (i := 8) (v := undef) rfl (by kernel_rfl) (by kernel_rfl) (by kernel_rfl) (fun _ _ _ h => h) (Or.inr ⟨by rfl, rfl⟩) (by assumption) ?_ | (refine' wpAnyH_take (i := 8) (v := _) rfl (by kernel_rfl) (by kernel_rfl) (by kernel_rfl) (fun _ _ _ h => h) (Or.inl ⟨by rfl, ?hyo9⟩) (by assumption) ?resto9; case hyo9 => (intro w hSw; (try dsimp only at hSw); (first | (go_simp; done) | (go_simp; with_reducible rfl))))
                  try simp only [Act.put, List.setIfInBounds_toArray, List.set_cons_zero, List.set_cons_succ, List.getElem_toArray, List.getElem_cons_zero, List.getElem_cons_succ]
                  refine wpAnyH_ready (rs := [9]) (by kernel_rfl) (by simp) ?_
                  refine AllReadyH.cons rfl (fun K hK => ?_) AllReadyH.nil
                  try simp only [Act.put, List.setIfInBounds_toArray, List.set_cons_zero, List.set_cons_succ, List.getElem_toArray, List.getElem_cons_zero, List.getElem_cons_succ]
                  go_simp
                  have HWp := HW
                  have HDp := HD2
                  have hgx : t2.heap.size ≠ gd := fun e => by have := HW.out.dbox.lt; omega
                  have HX := Lib.hid (Mine.Own.new t2 29 #[.slice none 0 0, .slice none 0 0])
                  replace HW := Lib.hid (HW.out.grew ((Grew.refl t2).alloc (.cells #[.slice none 0 0, .slice none 0 0] 29)))
                  refine hK.out _ _ ?_ (fun hHeld => ?_)
                  · (try dsimp only); (refine ⟨?_, ?_⟩ <;> (repeat (first | (with_reducible assumption) | (with_reducible refine far_drew ?_) | (with_reducible refine far_alloc ?_) | (with_reducible refine far_cell hne ?_))))
                  clear hK K
                  refine wpAnyH_ready (rs := [10]) (by kernel_rfl) (by simp) ?_
                  refine AllReadyH.cons rfl (fun K hK => ?_) AllReadyH.nil
                  try simp only [Act.put, List.getElem_toArray, List.getElem_cons_zero, List.getElem_cons_succ]
                  have hne := hgx
                  obtain ⟨y0, y1, y2, y3⟩ := HX.out.two
                  go_simp
                  refine hK.out _ _ ?_ (fun hHeld => ?_)
                  · (try dsimp only); (refine ⟨?_, ?_⟩ <;> (repeat (first | (with_reducible assumption) | (with_reducible refine far_drew ?_) | (with_reducible refine far_alloc ?_) | (with_reducible refine far_cell hne ?_))))
                  clear hK K
                  first | refine wpAnyH_take (i := 11) (v := undef) rfl (by kernel_rfl) (by kernel_rfl) (by kernel_rfl) (fun _ _ _ h => h) (Or.inr ⟨by rfl, rfl⟩) (by assumption) ?_ | (refine' wpAnyH_take (i := 11) (v := _) rfl (by kernel_rfl) (by kernel_rfl) (by kernel_rfl) (fun _ _ _ h => h) (Or.inl ⟨by rfl, ?hyo10⟩) (by assumption) ?resto10; case hyo10 => (intro w hSw; (try dsimp only at hSw); (first | (go_simp; done) | (go_simp; with_reducible rfl))))
                  try simp only [Act.put, List.setIfInBounds_toArray, List.set_cons_zero, List.set_cons_succ, List.getElem_toArray, List.getElem_cons_zero, List.getElem_cons_succ]
                  first | refine wpAnyH_take (i := 12) (v := undef) rfl (by kernel_rfl) (by kernel_rfl) (by kernel_rfl) (fun _ _ _ h => h) (Or.inr ⟨by rfl, rfl⟩) (by assumption) ?_ | (refine' wpAnyH_take (i := 12) (v := _) rfl (by kernel_rfl) (by kernel_rfl) (by kernel_rfl) (fun _ _ _ h => h) (Or.inl ⟨by rfl, ?hyo11⟩) (by assumption) ?resto11; case hyo11 => (intro w hSw; (try dsimp only at hSw); (first | (go_simp; done) | (go_simp; with_reducible rfl))))
                  try simp only [Act.put, List.setIfInBounds_toArray, List.set_cons_zero, List.set_cons_succ, List.getElem_toArray, List.getElem_cons_zero, List.getElem_cons_succ]
                  refine wpAnyH_done (by kernel_rfl) ?_ _
                  (first | go_wp2_with fail | skip)
                  go_meet
                  exact ⟨f, Y, _, a6, v6, c6, e6, rfl, rfl, rfl, fa, fb, HY, Lib.hid (Mine.Own.new t2 29 #[.slice a6 Y.1.o.length c6, .slice v6 Y.1.t.length e6]), Lib.hid (HDp.out.grew ((Grew.refl t2).alloc _)), hgx, Lib.hid (HWp.out.grew ((Grew.refl t2).alloc _))⟩
                case sto5_1 =>
                  try simp only [Act.put, List.setIfInBounds_toArray, List.set_cons_zero, List.set_cons_succ, List.getElem_toArray, List.getElem_cons_zero, List.getElem_cons_succ]
                  go_simp
                  obtain ⟨hdx, hrx, hg1, hg2, hlx⟩ := HW.out.newX (.cells #[.slice none 0 0, .slice none 0 0] 29)
                  have HX := Lib.hid (Mine.Own.new t1 29 #[.slice none 0 0, .slice none 0 0])
                  have HDX := Lib.hid hdx
                  clear hdx
                  replace HW := Lib.hid (HW.out.grew ((Grew.refl t1).alloc (.cells #[.slice none 0 0, .slice none 0 0] 29)))
                  clear x0 x1
                  obtain ⟨x0, x1, -, -⟩ := HW.out.dbox.two
                  obtain ⟨gx, hgx0⟩ : ∃ gx, t1.heap.size = gx := ⟨_, rfl⟩
                  rw [hgx0] at hrx hg1 hg2 hlx HX HDX
                  try rw [hgx0]
                  have hgl : gx < t1.heap.size + 1 := by omega
                  clear hgx0
                  refine hK.out _ _ ?_ (fun hHeld => ?_)
                  · (try dsimp only); (refine ⟨?_, ?_⟩ <;> (repeat (first | (with_reducible assumption) | (with_reducible refine far_drew ?_) | (with_reducible refine far_alloc ?_) | (with_reducible refine far_cell hne ?_))))
                  clear hK K
                  refine wpAnyH_ready (rs := [4]) (by kernel_rfl) (by simp) ?_
                  refine AllReadyH.cons rfl (fun K hK => ?_) AllReadyH.nil
                  try simp only [Act.put, List.setIfInBounds_toArray, List.set_cons_zero, List.set_cons_succ, List.getElem_toArray, List.getElem_cons_zero, List.getElem_cons_succ]
                  go_simp
                  obtain ⟨Y, hY⟩ : ∃ Y, opnD d p ⟨f, 1, 0, 0, 1⟩ = Y := ⟨_, rfl⟩
                  have HY := Lib.hid hY
                  have hD := HDX.out
                  have hxl := HX.out.lt
                  with_reducible refine (open_p hD hol htl hrl HY.out).mono ?_
                  rintro e t2 ⟨a9, v9, rfl, D, g⟩
                  obtain ⟨a6, c6, rfl, -, -⟩ := D.rd.o.slice
                  obtain ⟨v6, e6, rfl, -, -⟩ := D.rd.t.slice
                  have HD2 := Lib.hid (HW.out.resX hxl D)
                  replace HX := Lib.hid (HX.out.grew g)
                  replace HDX := Lib.hid (HDX.out.grew g)
                  clear hxl
                  replace HW := Lib.hid (HW.out.grew g)
                  clear g D hD hY x0 x1
                  obtain ⟨x0, x1, -, -⟩ := HW.out.dbox.two
                  dsimp only
                  refine hK.out _ _ ?_ (fun hHeld => ?_)
                  · (try dsimp only); (refine ⟨?_, ?_⟩ <;> (repeat (first | (with_reducible assumption) | (with_reducible refine far_drew ?_) | (with_reducible refine far_alloc ?_) | (with_reducible refine far_cell hne ?_))))
                  clear hK K
                  first | refine wpAnyH_take (i := 5) (v := undef) rfl (by kernel_rfl) (by kernel_rfl) (by kernel_rfl) (fun _ _ _ h => h) (Or.inr ⟨by rfl, rfl⟩) (by assumption) ?_ | (refine' wpAnyH_take (i := 5) (v := _) rfl (by kernel_rfl) (by kernel_rfl) (by kernel_rfl) (fun _ _ _ h => h) (Or.inl ⟨by rfl, ?hyo12⟩) (by assumption) ?resto12; case hyo12 => (intro w hSw; (try dsimp only at hSw); (first | (go_simp; done) | (go_simp; with_reducible rfl))))
                  try simp only [Act.put, List.setIfInBounds_toArray, List.set_cons_zero, List.set_cons_succ, List.getElem_toArray, List.getElem_cons_zero, List.getElem_cons_succ]
                  first | refine wpAnyH_take (i := 6) (v := undef) rfl (by kernel_rfl) (by kernel_rfl) (by kernel_rfl) (fun _ _ _ h => h) (Or.inr ⟨by rfl, rfl⟩) (by assumption) ?_ | (refine' wpAnyH_take (i := 6) (v := _) rfl (by kernel_rfl) (by kernel_rfl) (by kernel_rfl) (fun _ _ _ h => h) (Or.inl ⟨by rfl, ?hyo13⟩) (by assumption) ?resto13; case hyo13 => (intro w hSw; (try dsimp only at hSw); (first | (go_simp; done) | (go_simp; with_reducible rfl))))
                  try simp only [Act.put, List.setIfInBounds_toArray, List.set_cons_zero, List.set_cons_succ, List.getElem_toArray, List.getElem_cons_zero, List.getElem_cons_succ]
                  first | refine wpAnyH_take (i := 7) (v := undef) rfl (by kernel_rfl) (by kernel_rfl) (by kernel_rfl) (fun _ _ _ h => h) (Or.inr ⟨by rfl, rfl⟩) (by assumption) ?_ | (refine' wpAnyH_take (i := 7) (v := _) rfl (by kernel_rfl) (by kernel_rfl) (by kernel_rfl) (fun _ _ _ h => h) (Or.inl ⟨by rfl, ?hyo14⟩) (by assumption) ?resto14; case hyo14 => (intro w hSw; (try dsimp only at hSw); (first | (go_simp; done) | (go_simp; with_reducible rfl))))
                  try simp only [Act.put, List.setIfInBounds_toArray, List.set_cons_zero, List.set_cons_succ, List.getElem_toArray, List.getElem_cons_zero, List.getElem_cons_succ]
                  first | refine wpAnyH_take (i := 8) (v := undef) rfl (by kernel_rfl) (by kernel_rfl) (by kernel_rfl) (fun _ _ _ h => h) (Or.inr ⟨by rfl, rfl⟩) (by assumption) ?_ | (refine' wpAnyH_take (i := 8) (v := _) rfl (by kernel_rfl) (by kernel_rfl) (by kernel_rfl) (fun _ _ _ h => h) (Or.inl ⟨by rfl, ?hyo15⟩) (by assumption) ?resto15; case hyo15 => (intro w hSw; (try dsimp only at hSw); (first | (go_simp; done) | (go_simp; with_reducible rfl))))
                  try simp only [Act.put, List.setIfInBounds_toArray, List.set_cons_zero, List.set_cons_succ, List.getElem_toArray, List.getElem_cons_zero, List.getElem_cons_succ]
                  refine wpAnyH_ready (rs := [10]) (by kernel_rfl) (by simp) ?_
                  refine AllReadyH.cons rfl (fun K hK => ?_) AllReadyH.nil
                  try simp only [Act.put, List.getElem_toArray, List.getElem_cons_zero, List.getElem_cons_succ]
                  have hne := hg1
                  obtain ⟨y0, y1, y2, y3⟩ := HX.out.two
                  go_simp
                  refine hK.out _ _ ?_ (fun hHeld => ?_)
                  · (try dsimp only); (refine ⟨?_, ?_⟩ <;> (repeat (first | (with_reducible assumption) | (with_reducible refine far_drew ?_) | (with_reducible refine far_alloc ?_) | (with_reducible refine far_cell hne ?_))))
                  clear hK K
                  first | refine wpAnyH_take (i := 11) (v := undef) rfl (by kernel_rfl) (by kernel_rfl) (by kernel_rfl) (fun _ _ _ h => h) (Or.inr ⟨by rfl, rfl⟩) (by assumption) ?_ | (refine' wpAnyH_take (i := 11) (v := _) rfl (by kernel_rfl) (by kernel_rfl) (by kernel_rfl) (fun _ _ _ h => h) (Or.inl ⟨by rfl, ?hyo16⟩) (by assumption) ?resto16; case hyo16 => (intro w hSw; (try dsimp only at hSw); (first | (go_simp; done) | (go_simp; with_reducible rfl))))
                  try simp only [Act.put, List.setIfInBounds_toArray, List.set_cons_zero, List.set_cons_succ, List.getElem_toArray, List.getElem_cons_zero, List.getElem_cons_succ]
                  first | refine wpAnyH_take (i := 12) (v := undef) rfl (by kernel_rfl) (by kernel_rfl) (by kernel_rfl) (fun _ _ _ h => h) (Or.inr ⟨by rfl, rfl⟩) (by assumption) ?_ | (refine' wpAnyH_take (i := 12) (v := _) rfl (by kernel_rfl) (by kernel_rfl) (by kernel_rfl) (fun _ _ _ h => h) (Or.inl ⟨by rfl, ?hyo17⟩) (by assumption) ?resto17; case hyo17 => (intro w hSw; (try dsimp only at hSw); (first | (go_simp; done) | (go_simp; with_reducible rfl))))
                  try simp only [Act.put, List.setIfInBounds_toArray, List.set_cons_zero, List.set_cons_succ, List.getElem_toArray, List.getElem_cons_zero, List.getElem_cons_succ]
                  refine wpAnyH_done (by kernel_rfl) ?_ _
                  (first | go_wp2_with fail | skip)
                  generalize hw : World.setCell (World.setCell t2 _ _) _ _ = wE
                  go_meet
                  exact ⟨f, Y, gx, a6, v6, c6, e6, rfl, rfl, rfl, fa, fb, HY, Lib.hid (HX.out.store2D hw), Lib.hid ((HD2.out.past (grown2D hw) (fun e => e.2 rfl)).mono fun z hz => hz.1), hg1, Lib.hid (HW.out.farX HDX.out hrx hg1 hg2 hlx hw)⟩
              case sto4_1 =>
                try simp only [Act.put, List.setIfInBounds_toArray, List.set_cons_zero, List.set_cons_succ, List.getElem_toArray, List.getElem_cons_zero, List.getElem_cons_succ]
                go_simp
                obtain ⟨hdx, hrx, hg1, hg2, hlx⟩ := HW0.out.newX (.cells #[.slice none 0 0, .slice none 0 0] 29)
                have HX := Lib.hid (Mine.Own.new w6 29 #[.slice none 0 0, .slice none 0 0])
                have HDX := Lib.hid hdx
                clear hdx
                replace HW := Lib.hid (HW0.out.grew ((Grew.refl w6).alloc (.cells #[.slice none 0 0, .slice none 0 0] 29)))
                replace HW := Lib.hid (HW.out.grew (Grew.refl _).drew)
                replace HX := Lib.hid (HX.out.grew (Grew.refl _).drew)
                replace HDX := Lib.hid (HDX.out.grew (Grew.refl _).drew)
                clear x0 x1
                obtain ⟨x0, x1, -, -⟩ := HW.out.dbox.two
                obtain ⟨gx, hgx0⟩ : ∃ gx, w6.heap.size = gx := ⟨_, rfl⟩
                rw [hgx0] at hrx hg1 hg2 hlx HX HDX
                try rw [hgx0]
                have hgl : gx < w6.heap.size + 1 := by omega
                clear hgx0
                refine hK.out _ _ ?_ (fun hHeld => ?_)
                · (try dsimp only); (refine ⟨?_, ?_⟩ <;> (repeat (first | (with_reducible assumption) | (with_reducible refine far_drew ?_) | (with_reducible refine far_alloc ?_) | (with_reducible refine far_cell hne ?_))))
                clear hK K
                refine wpAnyH_ready (rs := [3]) (by kernel_rfl) (by simp) ?_
                refine AllReadyH.cons rfl (fun K hK => ?_) AllReadyH.nil
                try simp only [Act.put, List.setIfInBounds_toArray, List.set_cons_zero, List.set_cons_succ, List.getElem_toArray, List.getElem_cons_zero, List.getElem_cons_succ]
                go_simp
                with_reducible refine (next_x _ _ _ _ (by omega) (by omega) HW.out.tp).mono ?_
                rintro e t1 ⟨f, fa, fb, rfl, T, g⟩
                replace HX := Lib.hid (HX.out.past g (by omega))
                replace HDX := Lib.hid (HDX.out.past g (fun e => by have := e.1.1; omega))
                replace HW := Lib.hid (HW.out.next T g)
                clear g T x0 x1
                obtain ⟨x0, x1, -, -⟩ := HW.out.dbox.two
                dsimp only
                refine hK.out _ _ ?_ (fun hHeld => ?_)
                · (try dsimp only); (refine ⟨?_, ?_⟩ <;> (repeat (first | (with_reducible assumption) | (with_reducible refine far_drew ?_) | (with_reducible refine far_alloc ?_) | (with_reducible refine far_cell hne ?_))))
                clear hK K
                refine wpAnyH_ready (rs := [4]) (by kernel_rfl) (by simp) ?_
                refine AllReadyH.cons rfl (fun K hK => ?_) AllReadyH.nil
                try simp only [Act.put, List.setIfInBounds_toArray, List.set_cons_zero, List.set_cons_succ, List.getElem_toArray, List.getElem_cons_zero, List.getElem_cons_succ]
                go_simp
                obtain ⟨Y, hY⟩ : ∃ Y, opnD d p ⟨f, 1, 0, 0, 1⟩ = Y := ⟨_, rfl⟩
                have HY := Lib.hid hY
                have hD := HDX.out
                have hxl := HX.out.lt
                with_reducible refine (open_p hD hol htl hrl HY.out).mono ?_
                rintro e t2 ⟨a9, v9, rfl, D, g⟩
                obtain ⟨a6, c6, rfl, -, -⟩ := D.rd.o.slice
                obtain ⟨v6, e6, rfl, -, -⟩ := D.rd.t.slice
                have HD2 := Lib.hid (HW.out.resX hxl D)
                replace HX := Lib.hid (HX.out.grew g)
                replace HDX := Lib.hid (HDX.out.grew g)
                clear hxl
                replace HW := Lib.hid (HW.out.grew g)
                clear g D hD hY x0 x1
                obtain ⟨x0, x1, -, -⟩ := HW.out.dbox.two
                dsimp only
                refine hK.out _ _ ?_ (fun hHeld => ?_)
                · (try dsimp only); (refine ⟨?_, ?_⟩ <;> (repeat (first | (with_reducible assumption) | (with_reducible refine far_drew ?_) | (with_reducible refine far_alloc ?_) | (with_reducible refine far_cell hne ?_))))
                clear hK K
                first | refine wpAnyH_take (i := 5) (v := undef) rfl (by kernel_rfl) (by kernel_rfl) (by kernel_rfl) (fun _ _ _ h => h) (Or.inr ⟨by rfl, rfl⟩) (by assumption) ?_ | (refine' wpAnyH_take (i := 5) (v := _) rfl (by kernel_rfl) (by kernel_rfl) (by kernel_rfl) (fun _ _ _ h => h) (Or.inl ⟨by rfl, ?hyo18⟩) (by assumption) ?resto18; case hyo18 => (intro w hSw; (try dsimp only at hSw); (first | (go_simp; done) | (go_simp; with_reducible rfl))))
                try simp only [Act.put, List.setIfInBounds_toArray, List.set_cons_zero, List.set_cons_succ, List.getElem_toArray, List.getElem_cons_zero, List.getElem_cons_succ]
                first | refine wpAnyH_take (i := 6) (v := undef) rfl (by kernel_rfl) (by kernel_rfl) (by kernel_rfl) (fun _ _ _ h => h) (Or.inr ⟨by rfl, rfl⟩) (by assumption) ?_ | (refine' wpAnyH_take (i := 6) (v := _) rfl (by kernel_rfl) (by kernel_rfl) (by kernel_rfl) (fun _ _ _ h => h) (Or.inl ⟨by rfl, ?hyo19⟩) (by assumption) ?resto19; case hyo19 => (intro w hSw; (try dsimp only at hSw); (first | (go_simp; done) | (go_simp; with_reducible rfl))))
                try simp only [Act.put, List.setIfInBounds_toArray, List.set_cons_zero, List.set_cons_succ, List.getElem_toArray, List.getElem_cons_zero, List.getElem_cons_succ]
                first | refine wpAnyH_take (i := 7) (v := undef) rfl (by kernel_rfl) (by kernel_rfl) (by kernel_rfl) (fun _ _ _ h => h) (Or.inr ⟨by rfl, rfl⟩) (by assumption) ?_ | (refine' wpAnyH_take (i := 7) (v := _) rfl (by kernel_rfl) (by kernel_rfl) (by kernel_rfl) (fun _ _ _ h => h) (Or.inl ⟨by rfl, ?hyo20⟩) (by assumption) ?resto20; case hyo20 => (intro w hSw; (try dsimp only at hSw); (first | (go_simp; done) | (go_simp; with_reducible rfl))))
                try simp only [Act.put, List.setIfInBounds_toArray, List.set_cons_zero, List.set_cons_succ, List.getElem_toArray, List.getElem_cons_zero, List.getElem_cons_succ]
                first | refine wpAnyH_take (i := 8) (v := undef) rfl (by kernel_rfl) (by kernel_rfl) (by kernel_rfl) (fun _ _ _ h => h) (Or.inr ⟨by rfl, rfl⟩) (by assumption) ?_ | (refine' wpAnyH_take (i := 8) (v := _) rfl (by kernel_rfl) (by kernel_rfl) (by kernel_rfl) (fun _ _ _ h => h) (Or.inl ⟨by rfl, ?hyo21⟩) (by assumption) ?resto21; case hyo21 => (intro w hSw; (try dsimp only at hSw); (first | (go_simp; done) | (go_simp; with_reducible rfl))))
                try simp only [Act.put, List.setIfInBounds_toArray, List.set_cons_zero, List.set_cons_succ, List.getElem_toArray, List.getElem_cons_zero, List.getElem_cons_succ]
                refine wpAnyH_ready (rs := [10]) (by kernel_rfl) (by simp) ?_
                refine AllReadyH.cons rfl (fun K hK => ?_) AllReadyH.nil
                try simp only [Act.put, List.getElem_toArray, List.getElem_cons_zero, List.getElem_cons_succ]
                have hne := hg1
                obtain ⟨y0, y1, y2, y3⟩ := HX.out.two
                go_simp
                refine hK.out _ _ ?_ (fun hHeld => ?_)
                · (try dsimp only); (refine ⟨?_, ?_⟩ <;> (repeat (first | (with_reducible assumption) | (with_reducible refine far_drew ?_) | (with_reducible refine far_alloc ?_) | (with_reducible refine far_cell hne ?_))))
                clear hK K
                first | refine wpAnyH_take (i := 11) (v := undef) rfl (by kernel_rfl) (by kernel_rfl) (by kernel_rfl) (fun _ _ _ h => h) (Or.inr ⟨by rfl, rfl⟩) (by assumption) ?_ | (refine' wpAnyH_take (i := 11) (v := _) rfl (by kernel_rfl) (by kernel_rfl) (by kernel_rfl) (fun _ _ _ h => h) (Or.inl ⟨by rfl, ?hyo22⟩) (by assumption) ?resto22; case hyo22 => (intro w hSw; (try dsimp only at hSw); (first | (go_simp; done) | (go_simp; with_reducible rfl))))
                try simp only [Act.put, List.setIfInBounds_toArray, List.set_cons_zero, List.set_cons_succ, List.getElem_toArray, List.getElem_cons_zero, List.getElem_cons_succ]
                first | refine wpAnyH_take (i := 12) (v := undef) rfl (by kernel_rfl) (by kernel_rfl) (by kernel_rfl) (fun _ _ _ h => h) (Or.inr ⟨by rfl, rfl⟩) (by assumption) ?_ | (refine' wpAnyH_take (i := 12) (v := _) rfl (by kernel_rfl) (by kernel_rfl) (by kernel_rfl) (fun _ _ _ h => h) (Or.inl ⟨by rfl, ?hyo23⟩) (by assumption) ?resto23; case hyo23 => (intro w hSw; (try dsimp only at hSw); (first | (go_simp; done) | (go_simp; with_reducible rfl))))
                try simp only [Act.put, List.setIfInBounds_toArray, List.set_cons_zero, List.set_cons_succ, List.getElem_toArray, List.getElem_cons_zero, List.getElem_cons_succ]
                refine wpAnyH_done (by kernel_rfl) ?_ _
                (first | go_wp2_with fail | skip)
                generalize hw : World.setCell (World.setCell t2 _ _) _ _ = wE
                go_meet
                exact ⟨f, Y, gx, a6, v6, c6, e6, rfl, rfl, rfl, fa, fb, HY, Lib.hid (HX.out.store2D hw), Lib.hid ((HD2.out.past (grown2D hw) (fun e => e.2 rfl)).mono fun z hz => hz.1), hg1, Lib.hid (HW.out.farX HDX.out hrx hg1 hg2 hlx hw)⟩
            case rest => as_aux_lemma =>
              clear HW
              obtain ⟨f, Y, gx, a6, v6, c6, e6, rfl, rfl, rfl, fa, fb, HY, HX, HD2, hgx, HW⟩ := hcut
              have hpt : p < d.t.length := by rw [HI.out.tl]; exact hp
              have hrt := rt1_ok fa fb
              by_cases hL16 : L < 16
              · have HE : Hid (Y = (opD d p ⟨f, 1, 0, 0, 1⟩, (L : Int), 0)) := Lib.hid (HY.out.symm.trans ((opnD_0 (okD_iff.2 HI.out.ok) hpt hrt (by rw [HF.out]; exact hL16)).trans (by rw [HF.out])))
                have HI2 := Lib.hid (HI.out.opn hp (by rw [HF.out]; exact hL16) hrt rfl rfl)
                rw [HF.out, HNF.out] at HI2
                have hY := HE.out
                subst hY
                have hl16 : (L : Int) < 16 := by omega
                clear HE HY hpt hrt fa fb
                dsimp only at *
                obtain ⟨z0, z1, -, -⟩ := HX.out.two
                obtain ⟨x0, x1, x2, x3⟩ := HW.out.dbox.two
                go_upto_region 22 with fail
                generalize hw : World.setCell (World.setCell _ _ _) _ _ = w22
                replace HW := Lib.hid (HW.out.put HD2.out hw)
                clear hw HD2 HX z0 z1 x0 x1 x2 x3
                have HRW := Lib.hid (HW.out.row.alloc (.cells #[.int .i64 0] 3))
                have hzB : w.heap.size + 1 ≤ (w22.alloc (.cells #[.int .i64 0] 3)).heap.size := by have := HW.out.hl; simp; omega
                have hl6 : OF.length < 1000000 := by rw [HNF.out]; omega
                go_upto_region 23 with (at_builtin; go_loud (
                  refine wpList_append_row _ rfl _ _ 22 rfl (w.heap.size + 1) info_int Try.underlying22 (by decide) (by decide) enc1_len (.slice ao nf co) OF rfl HRW.out w22.heap.size 1 0 rfl (Mine.Own.new w22 _ _) enc1_one hl6 (by decide) hzB ?_
                  intro g9 cap9 w23 R9 G9 o9
                  rw [HNF.out] at R9 ⊢
                  replace HW := Lib.hid (HW.out.app ((Grew.refl w22).alloc _) R9 G9 o9)
                  clear R9 G9 o9))
                have hc3 := HW.out.whoAt HI.out.wl hp hL16
                have hcf := HW.out.whoFz (p * 16 + L)
                generalize whoW W p L = xl at hc3
                clear HRW hzB hl6
                have HEN : Hid (((nf + 1 : Nat) : Int) = (nf : Int) + 1) := Lib.hid (by omega)
                go_wp2_with fail
                go_meet
                exact ⟨some ⟨g9, 0, none⟩, cap9, OF ++ [0], W.set (p * 16 + L) ((nf : Int) + 1), _, _, _, by rw [List.length_append, HNF.out]; rfl, by rw [List.length_append, HNF.out, List.length_singleton]; omega, HI2, by rw [List.length_append, HNF.out]; exact Lib.hid (HW.out.setW (p * 16 + L) ((nf : Int) + 1))⟩
              · have HE : Hid (Y = (d, 0, 3)) := Lib.hid (HY.out.symm.trans (opnD_3 (okD_iff.2 HI.out.ok) hpt hrt (by rw [HF.out]; exact hL16)))
                have hY := HE.out
                subst hY
                have hl16 : decide ((L : Int) < 16) = false := decide_eq_false (by omega)
                have hl17 : decide (L < 16) = false := decide_eq_false hL16
                clear HE HY hpt hrt
                dsimp only at *
                go_wp2_with fail
                go_meet
                exact ⟨ao, co, OF, W, d, _, _, by rw [HNF.out], by rw [HNF.out]; omega, HI, by rw [HNF.out]; exact HW⟩
        have n0 : (c == 0) = false := by simpa using e0
        by_cases e1 : c = 1
        · as_aux_lemma =>
            subst e1
            go_upto_region 17 with fail
            go_cut [12, 13, 14] from 79 to 87 (fun v12 v13 v14 wx => ∃ (f : Int) (Y : Dd × Int × Int) (gx : Nat) (a6 v6 : Option Addr) (c6 e6 : Nat), v12 = .pointer (some ⟨gx, 0, none⟩) ∧ v13 = .int .i64 Y.2.1 ∧ v14 = .int .i64 Y.2.2 ∧ 0 ≤ f ∧ f < 3 ∧ Hid (opnD d p ⟨f, 1, 0, 0, 1⟩ = Y) ∧ Hid (Mine.Own wx gx 29 #[.slice a6 Y.1.o.length c6, .slice v6 Y.1.t.length e6]) ∧ Hid (DdP wx (pH (w.heap.size + 1) gd gw (.slice ao nf co)) (.slice a6 Y.1.o.length c6) (.slice v6 Y.1.t.length e6) Y.1) ∧ gx ≠ gd ∧ Hid (ShW w 29 52 3 gd gw (.slice ao nf co) OF W (.slice ad m cd) (.slice vd 3 ed) d wx))
            case first => as_aux_lemma =>
              have HW0 := HW
              replace HW := Lib.hid (HW.out.grew (Grew.refl _).drew)
              obtain ⟨x0, x1, -, -⟩ := HW.out.dbox.two
              refine wp_region_held_drew (S := (fun w' => w'.cell? ⟨gd, 0, none⟩ = some (.slice ad m cd) ∧ w'.cell? ⟨gd, 1, none⟩ = some (.slice vd 3 ed))) (by kernel_rfl) ?_ (fun hHeld => ?_)
              · (try dsimp only); (refine ⟨?_, ?_⟩ <;> (repeat (first | (with_reducible assumption) | (with_reducible refine far_drew ?_) | (with_reducible refine far_alloc ?_) | (with_reducible refine far_cell hne ?_))))
              first | refine wpAnyH_take (i := 0) (v := undef) rfl (by kernel_rfl) (by kernel_rfl) (by kernel_rfl) (fun _ _ _ h => h) (Or.inr ⟨by rfl, rfl⟩) (by assumption) ?_ | (refine' wpAnyH_take (i := 0) (v := _) rfl (by kernel_rfl) (by kernel_rfl) (by kernel_rfl) (fun _ _ _ h => h) (Or.inl ⟨by rfl, ?hyoo1⟩) (by assumption) ?restoo1; case hyoo1 => (intro w hSw; (try dsimp only at hSw); (first | (go_simp; done) | (go_simp; with_reducible rfl))))
              try simp only [Act.put, List.setIfInBounds_toArray, List.set_cons_zero, List.set_cons_succ, List.getElem_toArray, List.getElem_cons_zero]
              first | refine wpAnyH_take (i := 1) (v := undef) rfl (by kernel_rfl) (by kernel_rfl) (by kernel_rfl) (fun _ _ _ h => h) (Or.inr ⟨by rfl, rfl⟩) (by assumption) ?_ | (refine' wpAnyH_take (i := 1) (v := _) rfl (by kernel_rfl) (by kernel_rfl) (by kernel_rfl) (fun _ _ _ h => h) (Or.inl ⟨by rfl, ?hyoo2⟩) (by assumption) ?restoo2; case hyoo2 => (intro w hSw; (try dsimp only at hSw); (first | (go_simp; done) | (go_simp; with_reducible rfl))))
              try simp only [Act.put, List.setIfInBounds_toArray, List.set_cons_zero, List.set_cons_succ, List.getElem_toArray, List.getElem_cons_zero, List.getElem_cons_succ]
              first | refine wpAnyH_take (i := 2) (v := undef) rfl (by kernel_rfl) (by kernel_rfl) (by kernel_rfl) (fun _ _ _ h => h) (Or.inr ⟨by rfl, rfl⟩) (by assumption) ?_ | (refine' wpAnyH_take (i := 2) (v := _) rfl (by kernel_rfl) (by kernel_rfl) (by kernel_rfl) (fun _ _ _ h => h) (Or.inl ⟨by rfl, ?hyoo3⟩) (by assumption) ?restoo3; case hyoo3 => (intro w hSw; (try dsimp only at hSw); (first | (go_simp; done) | (go_simp; with_reducible rfl))))
              try simp only [Act.put, List.setIfInBounds_toArray, List.set_cons_zero, List.set_cons_succ, List.getElem_toArray, List.getElem_cons_zero, List.getElem_cons_succ]
              refine wpAnyH_ready (rs := [3, 9]) (by kernel_rfl) (by simp) ?_
              refine AllReadyH.cons rfl (fun K hK => ?stoo4_0) (AllReadyH.cons rfl (fun K hK => ?stoo4_1) AllReadyH.nil)
              case stoo4_0 =>
                try simp only [Act.put, List.setIfInBounds_toArray, List.set_cons_zero, List.set_cons_succ, List.getElem_toArray, List.getElem_cons_zero, List.getElem_cons_succ]
                go_simp
                with_reducible refine (next_x _ _ _ _ (by omega) (by omega) HW.out.tp).mono ?_
                rintro e t1 ⟨f, fa, fb, rfl, T, g⟩
                replace HW := Lib.hid (HW.out.next T g)
                clear g T x0 x1
                obtain ⟨x0, x1, -, -⟩ := HW.out.dbox.two
                dsimp only
                refine hK.out _ _ ?_ (fun hHeld => ?_)
                · (try dsimp only); (refine ⟨?_, ?_⟩ <;> (repeat (first | (with_reducible assumption) | (with_reducible refine far_drew ?_) | (with_reducible refine far_alloc ?_) | (with_reducible refine far_cell hne ?_))))
                clear hK K
                refine wpAnyH_ready (rs := [4, 9]) (by kernel_rfl) (by simp) ?_
                refine AllReadyH.cons rfl (fun K hK => ?stoo5_0) (AllReadyH.cons rfl (fun K hK => ?stoo5_1) AllReadyH.nil)
                case stoo5_0 =>
                  try simp only [Act.put, List.setIfInBounds_toArray, List.set_cons_zero, List.set_cons_succ, List.getElem_toArray, List.getElem_cons_zero, List.getElem_cons_succ]
                  go_simp
                  obtain ⟨Y, hY⟩ : ∃ Y, opnD d p ⟨f, 1, 0, 0, 1⟩ = Y := ⟨_, rfl⟩
                  have HY := Lib.hid hY
                  have hD := HW.out.dd
                  with_reducible refine (open_p hD hol htl hrl HY.out).mono ?_
                  rintro e t2 ⟨a9, v9, rfl, D, g⟩
                  obtain ⟨a6, c6, rfl, -, -⟩ := D.rd.o.slice
                  obtain ⟨v6, e6, rfl, -, -⟩ := D.rd.t.slice
                  have HD2 := Lib.hid (HW.out.res D)
                  replace HW := Lib.hid (HW.out.grew g)
                  clear g D hD hY x0 x1
                  obtain ⟨x0, x1, -, -⟩ := HW.out.dbox.two
                  dsimp only
                  refine hK.out _ _ ?_ (fun hHeld => ?_)
                  · (try dsimp only); (refine ⟨?_, ?_⟩ <;> (repeat (first | (with_reducible assumption) | (with_reducible refine far_drew ?_) | (with_reducible refine far_alloc ?_) | (with_reducible refine far_cell hne ?_))))
                  clear hK K
                  first | refine wpAnyH_take (i := 5) (v := undef) rfl (by kernel_rfl) (by kernel_rfl) (by kernel_rfl) (fun _ _ _ h => h) (Or.inr ⟨by rfl, rfl⟩) (by assumption) ?_ | (refine' wpAnyH_take (i := 5) (v := _) rfl (by kernel_rfl) (by kernel_rfl) (by kernel_rfl) (fun _ _ _ h => h) (Or.inl ⟨by rfl, ?hyoo6⟩) (by assumption) ?restoo6; case hyoo6 => (intro w hSw; (try dsimp only at hSw); (first | (go_simp; done) | (go_simp; with_reducible rfl))))
                  try simp only [Act.put, List.setIfInBounds_toArray, List.set_cons_zero, List.set_cons_succ, List.getElem_toArray, List.getElem_cons_zero, List.getElem_cons_succ]
                  first | refine wpAnyH_take (i := 6) (v := undef) rfl (by kernel_rfl) (by kernel_rfl) (by kernel_rfl) (fun _ _ _ h => h) (Or.inr ⟨by rfl, rfl⟩) (by assumption) ?_ | (refine' wpAnyH_take (i := 6) (v := _) rfl (by kernel_rfl) (by kernel_rfl) (by kernel_rfl) (fun _ _ _ h => h) (Or.inl ⟨by rfl, ?hyoo7⟩) (by assumption) ?restoo7; case hyoo7 => (intro w hSw; (try dsimp only at hSw); (first | (go_simp; done) | (go_simp; with_reducible rfl))))
                  try simp only [Act.put, List.setIfInBounds_toArray, List.set_cons_zero, List.set_cons_succ, List.getElem_toArray, List.getElem_cons_zero, List.getElem_cons_succ]
                  first | refine wpAnyH_take (i := 7) (v := undef) rfl (by kernel_rfl) (by kernel_rfl) (by kernel_rfl) (fun _ _ _ h => h) (Or.inr ⟨by rfl, rfl⟩) (by assumption) ?_ | (refine' wpAnyH_take (i := 7) (v := _) rfl (by kernel_rfl) (by kernel_rfl) (by kernel_rfl) (fun _ _ _ h => h) (Or.inl ⟨by rfl, ?hyoo8⟩) (by assumption) ?restoo8; case hyoo8 => (intro w hSw; (try dsimp only at hSw); (first | (go_simp; done) | (go_simp; with_reducible rfl))))
                  try simp only [Act.put, List.setIfInBounds_toArray, List.set_cons_zero, List.set_cons_succ, List.getElem_toArray, List.getElem_cons_zero, List.getElem_cons_succ]
                  first | refine wpAnyH_take (i := 8) (v := undef) rfl (by kernel_rfl) (by kernel_rfl) (by kernel_rfl) (fun _ _ _ h => h) (Or.inr ⟨by rfl, rfl⟩) (by assumption) ?_ | (refine' wpAnyH_take (i := 8) (v := _) rfl (by kernel_rfl) (by kernel_rfl) (by kernel_rfl) (fun _ _ _ h => h) (Or.inl ⟨by rfl, ?hyoo9⟩) (by assumption) ?restoo9; case hyoo9 => (intro w hSw; (try dsimp only at hSw); (first | (go_simp; done) | (go_simp; with_reducible rfl))))
                  try simp only [Act.put, List.setIfInBounds_toArray, List.set_cons_zero, List.set_cons_succ, List.getElem_toArray, List.getElem_cons_zero, List.getElem_cons_succ]
                  refine wpAnyH_ready (rs := [9]) (by kernel_rfl) (by simp) ?_
                  refine AllReadyH.cons rfl (fun K hK => ?_) AllReadyH.nil
                  try simp only [Act.put, List.setIfInBounds_toArray, List.set_cons_zero, List.set_cons_succ, List.getElem_toArray, List.getElem_cons_zero, List.getElem_cons_succ]
                  go_simp
                  have HWp := HW
                  have HDp := HD2
                  have hgx : t2.heap.size ≠ gd := fun e => by have := HW.out.dbox.lt; omega
                  have HX := Lib.hid (Mine.Own.new t2 29 #[.slice none 0 0, .slice none 0 0])
                  replace HW := Lib.hid (HW.out.grew ((Grew.refl t2).alloc (.cells #[.slice none 0 0, .slice none 0 0] 29)))
                  refine hK.out _ _ ?_ (fun hHeld => ?_)
                  · (try dsimp only); (refine ⟨?_, ?_⟩ <;> (repeat (first | (with_reducible assumption) | (with_reducible refine far_drew ?_) | (with_reducible refine far_alloc ?_) | (with_reducible refine far_cell hne ?_))))
                  clear hK K
                  refine wpAnyH_ready (rs := [10]) (by kernel_rfl) (by simp) ?_
                  refine AllReadyH.cons rfl (fun K hK => ?_) AllReadyH.nil
                  try simp only [Act.put, List.getElem_toArray, List.getElem_cons_zero, List.getElem_cons_succ]
                  have hne := hgx
                  obtain ⟨y0, y1, y2, y3⟩ := HX.out.two
                  go_simp
                  refine hK.out _ _ ?_ (fun hHeld => ?_)
                  · (try dsimp only); (refine ⟨?_, ?_⟩ <;> (repeat (first | (with_reducible assumption) | (with_reducible refine far_drew ?_) | (with_reducible refine far_alloc ?_) | (with_reducible refine far_cell hne ?_))))
                  clear hK K
                  first | refine wpAnyH_take (i := 11) (v := undef) rfl (by kernel_rfl) (by kernel_rfl) (by kernel_rfl) (fun _ _ _ h => h) (Or.inr ⟨by rfl, rfl⟩) (by assumption) ?_ | (refine' wpAnyH_take (i := 11) (v := _) rfl (by kernel_rfl) (by kernel_rfl) (by kernel_rfl) (fun _ _ _ h => h) (Or.inl ⟨by rfl, ?hyoo10⟩) (by assumption) ?restoo10; case hyoo10 => (intro w hSw; (try dsimp only at hSw); (first | (go_simp; done) | (go_simp; with_reducible rfl))))
                  try simp only [Act.put, List.setIfInBounds_toArray, List.set_cons_zero, List.set_cons_succ, List.getElem_toArray, List.getElem_cons_zero, List.getElem_cons_succ]
                  first | refine wpAnyH_take (i := 12) (v := undef) rfl (by kernel_rfl) (by kernel_rfl) (by kernel_rfl) (fun _ _ _ h => h) (Or.inr ⟨by rfl, rfl⟩) (by assumption) ?_ | (refine' wpAnyH_take (i := 12) (v := _) rfl (by kernel_rfl) (by kernel_rfl) (by kernel_rfl) (fun _ _ _ h => h) (Or.inl ⟨by rfl, ?hyoo11⟩) (by assumption) ?restoo11; case hyoo11 => (intro w hSw; (try dsimp only at hSw); (first | (go_simp; done) | (go_simp; with_reducible rfl))))
                  try simp only [Act.put, List.setIfInBounds_toArray, List.set_cons_zero, List.set_cons_succ, List.getElem_toArray, List.getElem_cons_zero, List.getElem_cons_succ]
                  refine wpAnyH_done (by kernel_rfl) ?_ _
                  (first | go_wp2_with fail | skip)
                  go_meet
                  exact ⟨f, Y, _, a6, v6, c6, e6, rfl, rfl, rfl, fa, fb, HY, Lib.hid (Mine.Own.new t2 29 #[.slice a6 Y.1.o.length c6, .slice v6 Y.1.t.length e6]), Lib.hid (HDp.out.grew ((Grew.refl t2).alloc _)), hgx, Lib.hid (HWp.out.grew ((Grew.refl t2).alloc _))⟩
                case stoo5_1 =>
                  try simp only [Act.put, List.setIfInBounds_toArray, List.set_cons_zero, List.set_cons_succ, List.getElem_toArray, List.getElem_cons_zero, List.getElem_cons_succ]
                  go_simp
                  obtain ⟨hdx, hrx, hg1, hg2, hlx⟩ := HW.out.newX (.cells #[.slice none 0 0, .slice none 0 0] 29)
                  have HX := Lib.hid (Mine.Own.new t1 29 #[.slice none 0 0, .slice none 0 0])
                  have HDX := Lib.hid hdx
                  clear hdx
                  replace HW := Lib.hid (HW.out.grew ((Grew.refl t1).alloc (.cells #[.slice none 0 0, .slice none 0 0] 29)))
                  clear x0 x1
                  obtain ⟨x0, x1, -, -⟩ := HW.out.dbox.two
                  obtain ⟨gx, hgx0⟩ : ∃ gx, t1.heap.size = gx := ⟨_, rfl⟩
                  rw [hgx0] at hrx hg1 hg2 hlx HX HDX
                  try rw [hgx0]
                  have hgl : gx < t1.heap.size + 1 := by omega
                  clear hgx0
                  refine hK.out _ _ ?_ (fun hHeld => ?_)
                  · (try dsimp only); (refine ⟨?_, ?_⟩ <;> (repeat (first | (with_reducible assumption) | (with_reducible refine far_drew ?_) | (with_reducible refine far_alloc ?_) | (with_reducible refine far_cell hne ?_))))
                  clear hK K
                  refine wpAnyH_ready (rs := [4]) (by kernel_rfl) (by simp) ?_
                  refine AllReadyH.cons rfl (fun K hK => ?_) AllReadyH.nil
                  try simp only [Act.put, List.setIfInBounds_toArray, List.set_cons_zero, List.set_cons_succ, List.getElem_toArray, List.getElem_cons_zero, List.getElem_cons_succ]
                  go_simp
                  obtain ⟨Y, hY⟩ : ∃ Y, opnD d p ⟨f, 1, 0, 0, 1⟩ = Y := ⟨_, rfl⟩
                  have HY := Lib.hid hY
                  have hD := HDX.out
                  have hxl := HX.out.lt
                  with_reducible refine (open_p hD hol htl hrl HY.out).mono ?_
                  rintro e t2 ⟨a9, v9, rfl, D, g⟩
                  obtain ⟨a6, c6, rfl, -, -⟩ := D.rd.o.slice
                  obtain ⟨v6, e6, rfl, -, -⟩ := D.rd.t.slice
                  have HD2 := Lib.hid (HW.out.resX hxl D)
                  replace HX := Lib.hid (HX.out.grew g)
                  replace HDX := Lib.hid (HDX.out.grew g)
                  clear hxl
                  replace HW := Lib.hid (HW.out.grew g)
                  clear g D hD hY x0 x1
                  obtain ⟨x0, x1, -, -⟩ := HW.out.dbox.two
                  dsimp only
                  refine hK.out _ _ ?_ (fun hHeld => ?_)
                  · (try dsimp only); (refine ⟨?_, ?_⟩ <;> (repeat (first | (with_reducible assumption) | (with_reducible refine far_drew ?_) | (with_reducible refine far_alloc ?_) | (with_reducible refine far_cell hne ?_))))
                  clear hK K
                  first | refine wpAnyH_take (i := 5) (v := undef) rfl (by kernel_rfl) (by kernel_rfl) (by kernel_rfl) (fun _ _ _ h => h) (Or.inr ⟨by rfl, rfl⟩) (by assumption) ?_ | (refine' wpAnyH_take (i := 5) (v := _) rfl (by kernel_rfl) (by kernel_rfl) (by kernel_rfl) (fun _ _ _ h => h) (Or.inl ⟨by rfl, ?hyoo12⟩) (by assumption) ?restoo12; case hyoo12 => (intro w hSw; (try dsimp only at hSw); (first | (go_simp; done) | (go_simp; with_reducible rfl))))
                  try simp only [Act.put, List.setIfInBounds_toArray, List.set_cons_zero, List.set_cons_succ, List.getElem_toArray, List.getElem_cons_zero, List.getElem_cons_succ]
                  first | refine wpAnyH_take (i := 6) (v := undef) rfl (by kernel_rfl) (by kernel_rfl) (by kernel_rfl) (fun _ _ _ h => h) (Or.inr ⟨by rfl, rfl⟩) (by assumption) ?_ | (refine' wpAnyH_take (i := 6) (v := _) rfl (by kernel_rfl) (by kernel_rfl) (by kernel_rfl) (fun _ _ _ h => h) (Or.inl ⟨by rfl, ?hyoo13⟩) (by assumption) ?restoo13; case hyoo13 => (intro w hSw; (try dsimp only at hSw); (first | (go_simp; done) | (go_simp; with_reducible rfl))))
                  try simp only [Act.put, List.setIfInBounds_toArray, List.set_cons_zero, List.set_cons_succ, List.getElem_toArray, List.getElem_cons_zero, List.getElem_cons_succ]
                  first | refine wpAnyH_take (i := 7) (v := undef) rfl (by kernel_rfl) (by kernel_rfl) (by kernel_rfl) (fun _ _ _ h => h) (Or.inr ⟨by rfl, rfl⟩) (by assumption) ?_ | (refine' wpAnyH_take (i := 7) (v := _) rfl (by kernel_rfl) (by kernel_rfl) (by kernel_rfl) (fun _ _ _ h => h) (Or.inl ⟨by rfl, ?hyoo14⟩) (by assumption) ?restoo14; case hyoo14 => (intro w hSw; (try dsimp only at hSw); (first | (go_simp; done) | (go_simp; with_reducible rfl))))
                  try simp only [Act.put, List.setIfInBounds_toArray, List.set_cons_zero, List.set_cons_succ, List.getElem_toArray, List.getElem_cons_zero, List.getElem_cons_succ]
                  first | refine wpAnyH_take (i := 8) (v := undef) rfl (by kernel_rfl) (by kernel_rfl) (by kernel_rfl) (fun _ _ _ h => h) (Or.inr ⟨by rfl, rfl⟩) (by assumption) ?_ | (refine' wpAnyH_take (i := 8) (v := _) rfl (by kernel_rfl) (by kernel_rfl) (by kernel_rfl) (fun _ _ _ h => h) (Or.inl ⟨by rfl, ?hyoo15⟩) (by assumption) ?restoo15; case hyoo15 => (intro w hSw; (try dsimp only at hSw); (first | (go_simp; done) | (go_simp; with_reducible rfl))))
                  try simp only [Act.put, List.setIfInBounds_toArray, List.set_cons_zero, List.set_cons_succ, List.getElem_toArray, List.getElem_cons_zero, List.getElem_cons_succ]
                  refine wpAnyH_ready (rs := [10]) (by kernel_rfl) (by simp) ?_
                  refine AllReadyH.cons rfl (fun K hK => ?_) AllReadyH.nil
                  try simp only [Act.put, List.getElem_toArray, List.getElem_cons_zero, List.getElem_cons_succ]
                  have hne := hg1
                  obtain ⟨y0, y1, y2, y3⟩ := HX.out.two
                  go_simp
                  refine hK.out _ _ ?_ (fun hHeld => ?_)
                  · (try dsimp only); (refine ⟨?_, ?_⟩ <;> (repeat (first | (with_reducible assumption) | (with_reducible refine far_drew ?_) | (with_reducible refine far_alloc ?_) | (with_reducible refine far_cell hne ?_))))
                  clear hK K
                  first | refine wpAnyH_take (i := 11) (v := undef) rfl (by kernel_rfl) (by kernel_rfl) (by kernel_rfl) (fun _ _ _ h => h) (Or.inr ⟨by rfl, rfl⟩) (by assumption) ?_ | (refine' wpAnyH_take (i := 11) (v := _) rfl (by kernel_rfl) (by kernel_rfl) (by kernel_rfl) (fun _ _ _ h => h) (Or.inl ⟨by rfl, ?hyoo16⟩) (by assumption) ?restoo16; case hyoo16 => (intro w hSw; (try dsimp only at hSw); (first | (go_simp; done) | (go_simp; with_reducible rfl))))
                  try simp only [Act.put, List.setIfInBounds_toArray, List.set_cons_zero, List.set_cons_succ, List.getElem_toArray, List.getElem_cons_zero, List.getElem_cons_succ]
                  first | refine wpAnyH_take (i := 12) (v := undef) rfl (by kernel_rfl) (by kernel_rfl) (by kernel_rfl) (fun _ _ _ h => h) (Or.inr ⟨by rfl, rfl⟩) (by assumption) ?_ | (refine' wpAnyH_take (i := 12) (v := _) rfl (by kernel_rfl) (by kernel_rfl) (by kernel_rfl) (fun _ _ _ h => h) (Or.inl ⟨by rfl, ?hyoo17⟩) (by assumption) ?restoo17; case hyoo17 => (intro w hSw; (try dsimp only at hSw); (first | (go_simp; done) | (go_simp; with_reducible rfl))))
                  try simp only [Act.put, List.setIfInBounds_toArray, List.set_cons_zero, List.set_cons_succ, List.getElem_toArray, List.getElem_cons_zero, List.getElem_cons_succ]
                  refine wpAnyH_done (by kernel_rfl) ?_ _
                  (first | go_wp2_with fail | skip)
                  generalize hw : World.setCell (World.setCell t2 _ _) _ _ = wE
                  go_meet
                  exact ⟨f, Y, gx, a6, v6, c6, e6, rfl, rfl, rfl, fa, fb, HY, Lib.hid (HX.out.store2D hw), Lib.hid ((HD2.out.past (grown2D hw) (fun e => e.2 rfl)).mono fun z hz => hz.1), hg1, Lib.hid (HW.out.farX HDX.out hrx hg1 hg2 hlx hw)⟩
              case stoo4_1 =>
                try simp only [Act.put, List.setIfInBounds_toArray, List.set_cons_zero, List.set_cons_succ, List.getElem_toArray, List.getElem_cons_zero, List.getElem_cons_succ]
                go_simp
                obtain ⟨hdx, hrx, hg1, hg2, hlx⟩ := HW0.out.newX (.cells #[.slice none 0 0, .slice none 0 0] 29)
                have HX := Lib.hid (Mine.Own.new w6 29 #[.slice none 0 0, .slice none 0 0])
                have HDX := Lib.hid hdx
                clear hdx
                replace HW := Lib.hid (HW0.out.grew ((Grew.refl w6).alloc (.cells #[.slice none 0 0, .slice none 0 0] 29)))
                replace HW := Lib.hid (HW.out.grew (Grew.refl _).drew)
                replace HX := Lib.hid (HX.out.grew (Grew.refl _).drew)
                replace HDX := Lib.hid (HDX.out.grew (Grew.refl _).drew)
                clear x0 x1
                obtain ⟨x0, x1, -, -⟩ := HW.out.dbox.two
                obtain ⟨gx, hgx0⟩ : ∃ gx, w6.heap.size = gx := ⟨_, rfl⟩
                rw [hgx0] at hrx hg1 hg2 hlx HX HDX
                try rw [hgx0]
                have hgl : gx < w6.heap.size + 1 := by omega
                clear hgx0
                refine hK.out _ _ ?_ (fun hHeld => ?_)
                · (try dsimp only); (refine ⟨?_, ?_⟩ <;> (repeat (first | (with_reducible assumption) | (with_reducible refine far_drew ?_) | (with_reducible refine far_alloc ?_) | (with_reducible refine far_cell hne ?_))))
                clear hK K
                refine wpAnyH_ready (rs := [3]) (by kernel_rfl) (by simp) ?_
                refine AllReadyH.cons rfl (fun K hK => ?_) AllReadyH.nil
                try simp only [Act.put, List.setIfInBounds_toArray, List.set_cons_zero, List.set_cons_succ, List.getElem_toArray, List.getElem_cons_zero, List.getElem_cons_succ]
                go_simp
                with_reducible refine (next_x _ _ _ _ (by omega) (by omega) HW.out.tp).mono ?_
                rintro e t1 ⟨f, fa, fb, rfl, T, g⟩
                replace HX := Lib.hid (HX.out.past g (by omega))
                replace HDX := Lib.hid (HDX.out.past g (fun e => by have := e.1.1; omega))
                replace HW := Lib.hid (HW.out.next T g)
                clear g T x0 x1
                obtain ⟨x0, x1, -, -⟩ := HW.out.dbox.two
                dsimp only
                refine hK.out _ _ ?_ (fun hHeld => ?_)
                · (try dsimp only); (refine ⟨?_, ?_⟩ <;> (repeat (first | (with_reducible assumption) | (with_reducible refine far_drew ?_) | (with_reducible refine far_alloc ?_) | (with_reducible refine far_cell hne ?_))))
                clear hK K
                refine wpAnyH_ready (rs := [4]) (by kernel_rfl) (by simp) ?_
                refine AllReadyH.cons rfl (fun K hK => ?_) AllReadyH.nil
                try simp only [Act.put, List.setIfInBounds_toArray, List.set_cons_zero, List.set_cons_succ, List.getElem_toArray, List.getElem_cons_zero, List.getElem_cons_succ]
                go_simp
                obtain ⟨Y, hY⟩ : ∃ Y, opnD d p ⟨f, 1, 0, 0, 1⟩ = Y := ⟨_, rfl⟩
                have HY := Lib.hid hY
                have hD := HDX.out
                have hxl := HX.out.lt
                with_reducible refine (open_p hD hol htl hrl HY.out).mono ?_
                rintro e t2 ⟨a9, v9, rfl, D, g⟩
                obtain ⟨a6, c6, rfl, -, -⟩ := D.rd.o.slice
                obtain ⟨v6, e6, rfl, -, -⟩ := D.rd.t.slice
                have HD2 := Lib.hid (HW.out.resX hxl D)
                replace HX := Lib.hid (HX.out.grew g)
                replace HDX := Lib.hid (HDX.out.grew g)
                clear hxl
                replace HW := Lib.hid (HW.out.grew g)
                clear g D hD hY x0 x1
                obtain ⟨x0, x1, -, -⟩ := HW.out.dbox.two
                dsimp only
                refine hK.out _ _ ?_ (fun hHeld => ?_)
                · (try dsimp only); (refine ⟨?_, ?_⟩ <;> (repeat (first | (with_reducible assumption) | (with_reducible refine far_drew ?_) | (with_reducible refine far_alloc ?_) | (with_reducible refine far_cell hne ?_))))
                clear hK K
                first | refine wpAnyH_take (i := 5) (v := undef) rfl (by kernel_rfl) (by kernel_rfl) (by kernel_rfl) (fun _ _ _ h => h) (Or.inr ⟨by rfl, rfl⟩) (by assumption) ?_ | (refine' wpAnyH_take (i := 5) (v := _) rfl (by kernel_rfl) (by kernel_rfl) (by kernel_rfl) (fun _ _ _ h => h) (Or.inl ⟨by rfl, ?hyoo18⟩) (by assumption) ?restoo18; case hyoo18 => (intro w hSw; (try dsimp only at hSw); (first | (go_simp; done) | (go_simp; with_reducible rfl))))
                try simp only [Act.put, List.setIfInBounds_toArray, List.set_cons_zero, List.set_cons_succ, List.getElem_toArray, List.getElem_cons_zero, List.getElem_cons_succ]
                first | refine wpAnyH_take (i := 6) (v := undef) rfl (by kernel_rfl) (by kernel_rfl) (by kernel_rfl) (fun _ _ _ h => h) (Or.inr ⟨by rfl, rfl⟩) (by assumption) ?_ | (refine' wpAnyH_take (i := 6) (v := _) rfl (by kernel_rfl) (by kernel_rfl) (by kernel_rfl) (fun _ _ _ h => h) (Or.inl ⟨by rfl, ?hyoo19⟩) (by assumption) ?restoo19; case hyoo19 => (intro w hSw; (try dsimp only at hSw); (first | (go_simp; done) | (go_simp; with_reducible rfl))))
                try simp only [Act.put, List.setIfInBounds_toArray, List.set_cons_zero, List.set_cons_succ, List.getElem_toArray, List.getElem_cons_zero, List.getElem_cons_succ]
                first | refine wpAnyH_take (i := 7) (v := undef) rfl (by kernel_rfl) (by kernel_rfl) (by kernel_rfl) (fun _ _ _ h => h) (Or.inr ⟨by rfl, rfl⟩) (by assumption) ?_ | (refine' wpAnyH_take (i := 7) (v := _) rfl (by kernel_rfl) (by kernel_rfl) (by kernel_rfl) (fun _ _ _ h => h) (Or.inl ⟨by rfl, ?hyoo20⟩) (by assumption) ?restoo20; case hyoo20 => (intro w hSw; (try dsimp only at hSw); (first | (go_simp; done) | (go_simp; with_reducible rfl))))
                try simp only [Act.put, List.setIfInBounds_toArray, List.set_cons_zero, List.set_cons_succ, List.getElem_toArray, List.getElem_cons_zero, List.getElem_cons_succ]
                first | refine wpAnyH_take (i := 8) (v := undef) rfl (by kernel_rfl) (by kernel_rfl) (by kernel_rfl) (fun _ _ _ h => h) (Or.inr ⟨by rfl, rfl⟩) (by assumption) ?_ | (refine' wpAnyH_take (i := 8) (v := _) rfl (by kernel_rfl) (by kernel_rfl) (by kernel_rfl) (fun _ _ _ h => h) (Or.inl ⟨by rfl, ?hyoo21⟩) (by assumption) ?restoo21; case hyoo21 => (intro w hSw; (try dsimp only at hSw); (first | (go_simp; done) | (go_simp; with_reducible rfl))))
                try simp only [Act.put, List.setIfInBounds_toArray, List.set_cons_zero, List.set_cons_succ, List.getElem_toArray, List.getElem_cons_zero, List.getElem_cons_succ]
                refine wpAnyH_ready (rs := [10]) (by kernel_rfl) (by simp) ?_
                refine AllReadyH.cons rfl (fun K hK => ?_) AllReadyH.nil
                try simp only [Act.put, List.getElem_toArray, List.getElem_cons_zero, List.getElem_cons_succ]
                have hne := hg1
                obtain ⟨y0, y1, y2, y3⟩ := HX.out.two
                go_simp
                refine hK.out _ _ ?_ (fun hHeld => ?_)
                · (try dsimp only); (refine ⟨?_, ?_⟩ <;> (repeat (first | (with_reducible assumption) | (with_reducible refine far_drew ?_) | (with_reducible refine far_alloc ?_) | (with_reducible refine far_cell hne ?_))))
                clear hK K
                first | refine wpAnyH_take (i := 11) (v := undef) rfl (by kernel_rfl) (by kernel_rfl) (by kernel_rfl) (fun _ _ _ h => h) (Or.inr ⟨by rfl, rfl⟩) (by assumption) ?_ | (refine' wpAnyH_take (i := 11) (v := _) rfl (by kernel_rfl) (by kernel_rfl) (by kernel_rfl) (fun _ _ _ h => h) (Or.inl ⟨by rfl, ?hyoo22⟩) (by assumption) ?restoo22; case hyoo22 => (intro w hSw; (try dsimp only at hSw); (first | (go_simp; done) | (go_simp; with_reducible rfl))))
                try simp only [Act.put, List.setIfInBounds_toArray, List.set_cons_zero, List.set_cons_succ, List.getElem_toArray, List.getElem_cons_zero, List.getElem_cons_succ]
                first | refine wpAnyH_take (i := 12) (v := undef) rfl (by kernel_rfl) (by kernel_rfl) (by kernel_rfl) (fun _ _ _ h => h) (Or.inr ⟨by rfl, rfl⟩) (by assumption) ?_ | (refine' wpAnyH_take (i := 12) (v := _) rfl (by kernel_rfl) (by kernel_rfl) (by kernel_rfl) (fun _ _ _ h => h) (Or.inl ⟨by rfl, ?hyoo23⟩) (by assumption) ?restoo23; case hyoo23 => (intro w hSw; (try dsimp only at hSw); (first | (go_simp; done) | (go_simp; with_reducible rfl))))
                try simp only [Act.put, List.setIfInBounds_toArray, List.set_cons_zero, List.set_cons_succ, List.getElem_toArray, List.getElem_cons_zero, List.getElem_cons_succ]
                refine wpAnyH_done (by kernel_rfl) ?_ _
                (first | go_wp2_with fail | skip)
                generalize hw : World.setCell (World.setCell t2 _ _) _ _ = wE
                go_meet
                exact ⟨f, Y, gx, a6, v6, c6, e6, rfl, rfl, rfl, fa, fb, HY, Lib.hid (HX.out.store2D hw), Lib.hid ((HD2.out.past (grown2D hw) (fun e => e.2 rfl)).mono fun z hz => hz.1), hg1, Lib.hid (HW.out.farX HDX.out hrx hg1 hg2 hlx hw)⟩
            case rest => as_aux_lemma =>
              clear HW
              obtain ⟨f, Y, gx, a6, v6, c6, e6, rfl, rfl, rfl, fa, fb, HY, HX, HD2, hgx, HW⟩ := hcut
              have hpt : p < d.t.length := by rw [HI.out.tl]; exact hp
              have hrt := rt1_ok fa fb
              by_cases hL16 : L < 16
              · have HE : Hid (Y = (opD d p ⟨f, 1, 0, 0, 1⟩, (L : Int), 0)) := Lib.hid (HY.out.symm.trans ((opnD_0 (okD_iff.2 HI.out.ok) hpt hrt (by rw [HF.out]; exact hL16)).trans (by rw [HF.out])))
                have HI2 := Lib.hid (HI.out.opn hp (by rw [HF.out]; exact hL16) hrt rfl rfl)
                rw [HF.out, HNF.out] at HI2
                have hY := HE.out
                subst hY
                have hl16 : (L : Int) < 16 := by omega
                clear HE HY hpt hrt fa fb
                dsimp only at *
                obtain ⟨z0, z1, -, -⟩ := HX.out.two
                obtain ⟨x0, x1, x2, x3⟩ := HW.out.dbox.two
                go_upto_region 22 with fail
                generalize hw : World.setCell (World.setCell _ _ _) _ _ = w22
                replace HW := Lib.hid (HW.out.put HD2.out hw)
                clear hw HD2 HX z0 z1 x0 x1 x2 x3
                have HRW := Lib.hid (HW.out.row.alloc (.cells #[.int .i64 0] 3))
                have hzB : w.heap.size + 1 ≤ (w22.alloc (.cells #[.int .i64 0] 3)).heap.size := by have := HW.out.hl; simp; omega
                have hl6 : OF.length < 1000000 := by rw [HNF.out]; omega
                go_upto_region 23 with (at_builtin; go_loud (
                  refine wpList_append_row _ rfl _ _ 22 rfl (w.heap.size + 1) info_int Try.underlying22 (by decide) (by decide) enc1_len (.slice ao nf co) OF rfl HRW.out w22.heap.size 1 0 rfl (Mine.Own.new w22 _ _) enc1_one hl6 (by decide) hzB ?_
                  intro g9 cap9 w23 R9 G9 o9
                  rw [HNF.out] at R9 ⊢
                  replace HW := Lib.hid (HW.out.app ((Grew.refl w22).alloc _) R9 G9 o9)
                  clear R9 G9 o9))
                have hc3 := HW.out.whoAt HI.out.wl hp hL16
                have hcf := HW.out.whoFz (p * 16 + L)
                generalize whoW W p L = xl at hc3
                clear HRW hzB hl6
                have HEN : Hid (((nf + 1 : Nat) : Int) = (nf : Int) + 1) := Lib.hid (by omega)
                go_wp2_with fail
                go_meet
                exact ⟨some ⟨g9, 0, none⟩, cap9, OF ++ [0], W.set (p * 16 + L) ((nf : Int) + 1), _, _, _, by rw [List.length_append, HNF.out]; rfl, by rw [List.length_append, HNF.out, List.length_singleton]; omega, HI2, by rw [List.length_append, HNF.out]; exact Lib.hid (HW.out.setW (p * 16 + L) ((nf : Int) + 1))⟩
              · have HE : Hid (Y = (d, 0, 3)) := Lib.hid (HY.out.symm.trans (opnD_3 (okD_iff.2 HI.out.ok) hpt hrt (by rw [HF.out]; exact hL16)))
                have hY := HE.out
                subst hY
                have hl16 : decide ((L : Int) < 16) = false := decide_eq_false (by omega)
                have hl17 : decide (L < 16) = false := decide_eq_false hL16
                clear HE HY hpt hrt
                dsimp only at *
                go_wp2_with fail
                go_meet
                exact ⟨ao, co, OF, W, d, _, _, by rw [HNF.out], by rw [HNF.out]; omega, HI, by rw [HNF.out]; exact HW⟩
        have n1 : (c == 1) = false := by simpa using e1
        by_cases e2 : c = 2
        · as_aux_lemma =>
            subst e2
            obtain ⟨x0, x1, -, -⟩ := HW.out.dbox.two
            go_upto_region 25 with fail
            obtain ⟨Y, hY⟩ : ∃ Y, dupD d p fd = Y := ⟨_, rfl⟩
            have HY := Lib.hid hY
            clear hY
            go_wp2_with fail
            with_reducible refine (dup_p HW.out.dd hol htl hrl HY.out).mono ?_
            rintro e w20 ⟨a9, v9, rfl, D, g⟩
            obtain ⟨a6, c6, rfl, -, -⟩ := D.rd.o.slice
            obtain ⟨v6, e6, rfl, -, -⟩ := D.rd.t.slice
            have HD2 := Lib.hid ((HW.out.res D).grew ((Grew.refl w20).alloc (.cells #[.slice a6 Y.1.o.length c6, .slice v6 Y.1.t.length e6] 29)))
            replace HW := Lib.hid ((HW.out.grew g).grew ((Grew.refl w20).alloc (.cells #[.slice a6 Y.1.o.length c6, .slice v6 Y.1.t.length e6] 29)))
            have HX := Lib.hid (Mine.Own.new w20 29 #[.slice a6 Y.1.o.length c6, .slice v6 Y.1.t.length e6])
            clear D g x0 x1
            go_upto_region 26 with fail
            generalize World.alloc w20 _ = w21 at *
            generalize w20.heap.size = gx at *
            have hc := HW.out.whoAt HI.out.wl hp hfd
            rcases HI.out.lk hp hfd with ⟨hw0, hl⟩ | ⟨nn, hw0, hen, hno, hl⟩
            · have HE : Hid (Y = (d, 0, 4)) := Lib.hid (HY.out.symm.trans ((dupD_e (by rw [hl]; decide)).trans (by rw [hl])))
              rw [hw0] at hc
              have hY := HE.out
              subst hY
              clear hw0 hl HE HY
              dsimp only at *
              go_wp2_with fail
              go_meet
              exact ⟨ao, co, OF, W, d, _, _, by rw [HNF.out], by rw [HNF.out]; omega, HI, by rw [HNF.out]; exact HW⟩
            · have HWN := Lib.hid hw0
              have hl2 : (lkD d p fd).2.2 = 0 := by rw [hl]
              have hl1 : (lkD d p fd).1 = (nn : Int) := by rw [hl]
              obtain ⟨x, hx⟩ : ∃ x, whoW W p fd = x := ⟨_, rfl⟩
              have HXV := Lib.hid hx
              rw [hx] at hc hw0
              have hx1 : (x != 0) = true := by simpa using hw0
              have hx2 : (x == 0) = false := by simpa using hw0
              by_cases hL16 : L < 16
              · have HE : Hid (Y = (duD d p nn, (L : Int), 0)) := Lib.hid (HY.out.symm.trans ((dupD_0 hl2 hl1 (by rw [HF.out]; exact hL16)).trans (by rw [HF.out])))
                have HI2 := Lib.hid (HI.out.dup hp hfd (by rw [HF.out]; exact hL16) hen hno)
                rw [HF.out, HXV.out] at HI2
                have hY := HE.out
                subst hY
                have hl16 : (L : Int) < 16 := by omega
                clear hw0 hx hl hl1 hl2 hen HE HY
                dsimp only at *
                obtain ⟨z0, z1, -, -⟩ := HX.out.two
                obtain ⟨x0, x1, x2, x3⟩ := HW.out.dbox.two
                go_upto_region 30 with fail
                generalize hw : World.setCell (World.setCell w21 _ _) _ _ = w22
                replace HW := Lib.hid (HW.out.put HD2.out hw)
                have hc2 := HW.out.whoAt HI.out.wl hp hfd
                have hc3 := HW.out.whoAt HI.out.wl hp hL16
                have hcf := HW.out.whoFz (p * 16 + L)
                rw [HXV.out] at hc2
                generalize whoW W p L = xl at hc3
                clear hw HD2 HX z0 z1 x0 x1 x2 x3 hc
                refine wp_region_any (by kernel_rfl) ?_
                refine wpAny_take (i := 0) (oi := ⟨some 149, _, _, _, _, _⟩) (v := ?vvdd1) rfl (by kernel_rfl) (by kernel_rfl) (by kernel_rfl) (fun _ _ _ h => h) (Or.inl ⟨by rfl, ?yydd1⟩) ?rrdd1
                case yydd1 => (intro w; go_simp; (try with_reducible rfl))
                try simp only [Act.put, List.setIfInBounds_toArray, List.set_cons_zero, List.set_cons_succ]
                refine wpAny_take (i := 1) (oi := ⟨some 150, _, _, _, _, _⟩) (v := ?vvdd2) rfl (by kernel_rfl) (by kernel_rfl) (by kernel_rfl) (fun _ _ _ h => h) (Or.inl ⟨by rfl, ?yydd2⟩) ?rrdd2
                case yydd2 => (intro w; go_simp; (try with_reducible rfl))
                try simp only [Act.put, List.setIfInBounds_toArray, List.set_cons_zero, List.set_cons_succ]
                refine wpAny_take (i := 2) (oi := ⟨some 151, _, _, _, _, _⟩) (v := ?vvdd3) rfl (by kernel_rfl) (by kernel_rfl) (by kernel_rfl) (fun _ _ _ h => h) (Or.inl ⟨by rfl, ?yydd3⟩) ?rrdd3
                case yydd3 => (intro w; go_simp; (try with_reducible rfl))
                try simp only [Act.put, List.setIfInBounds_toArray, List.set_cons_zero, List.set_cons_succ]
                refine wpAny_take (i := 3) (oi := ⟨some 152, _, _, _, _, _⟩) (v := ?vvdd4) rfl (by kernel_rfl) (by kernel_rfl) (by kernel_rfl) (fun _ _ _ h => h) (Or.inl ⟨by rfl, ?yydd4⟩) ?rrdd4
                case yydd4 => (intro w; go_simp; (try with_reducible rfl))
                try simp only [Act.put, List.setIfInBounds_toArray, List.set_cons_zero, List.set_cons_succ]
                refine wpAny_take (i := 4) (oi := ⟨some 153, _, _, _, _, _⟩) (v := ?vvdd5) rfl (by kernel_rfl) (by kernel_rfl) (by kernel_rfl) (fun _ _ _ h => h) (Or.inl ⟨by rfl, ?yydd5⟩) ?rrdd5
                case yydd5 => (intro w; go_simp; (try with_reducible rfl))
                try simp only [Act.put, List.setIfInBounds_toArray, List.set_cons_zero, List.set_cons_succ]
                refine wpAny_take (i := 7) (oi := ⟨some 156, _, _, _, _, _⟩) (v := ?vvdd6) rfl (by kernel_rfl) (by kernel_rfl) (by kernel_rfl) (fun _ _ _ h => h) (Or.inl ⟨by rfl, ?yydd6⟩) ?rrdd6
                case yydd6 => (intro w; go_simp; (try with_reducible rfl))
                try simp only [Act.put, List.setIfInBounds_toArray, List.set_cons_zero, List.set_cons_succ]
                refine wpAny_take (i := 5) (oi := ⟨some 154, _, _, _, _, _⟩) (v := ?vvdd7) rfl (by kernel_rfl) (by kernel_rfl) (by kernel_rfl) (fun _ _ _ h => h) (Or.inl ⟨by rfl, ?yydd7⟩) ?rrdd7
                case yydd7 => (intro w; go_simp; (try with_reducible rfl))
                try simp only [Act.put, List.setIfInBounds_toArray, List.set_cons_zero, List.set_cons_succ]
                refine wpAny_ready (rs := [6]) (by kernel_rfl) (by simp) ?_
                refine AllReady.cons (o := ⟨some 155, _, _, _, _, _⟩) rfl (fun K hK => ?stdd8_0) AllReady.nil
                case stdd8_0 =>
                  go_simp
                  refine hK _ _ ?_
                  clear hK K
                  try simp only [Act.put, List.setIfInBounds_toArray, List.set_cons_zero, List.set_cons_succ]
                  refine wpAny_take (i := 8) (oi := ⟨some 157, _, _, _, _, _⟩) (v := ?vvdd9) rfl (by kernel_rfl) (by kernel_rfl) (by kernel_rfl) (fun _ _ _ h => h) (Or.inl ⟨by rfl, ?yydd9⟩) ?rrdd9
                  case yydd9 => (intro w; go_simp; (try with_reducible rfl))
                  try simp only [Act.put, List.setIfInBounds_toArray, List.set_cons_zero, List.set_cons_succ]
                  refine wpAny_ready (rs := [9]) (by kernel_rfl) (by simp) ?_
                  refine AllReady.cons (o := ⟨none, _, _, _, _, _⟩) rfl (fun K hK => ?stdd10_0) AllReady.nil
                  case stdd10_0 =>
                    go_simp
                    refine hK _ _ ?_
                    clear hK K
                    try simp only [Act.put, List.setIfInBounds_toArray, List.set_cons_zero, List.set_cons_succ]
                    refine wpAny_done (by kernel_rfl) ?_ _
                    (first | go_wp2_with fail | skip)
                    go_meet
                    exact ⟨ao, co, OF, W.set (p * 16 + L) x, _, _, _, by rw [HNF.out], by rw [HNF.out]; omega, HI2, by rw [HNF.out]; exact Lib.hid ((HW.out.setW (p * 16 + L) x).grew (Grew.refl _).drew)⟩
              · have HE : Hid (Y = (d, 0, 3)) := Lib.hid (HY.out.symm.trans (dupD_3 hl2 (by rw [HF.out]; exact hL16)))
                have hY := HE.out
                subst hY
                have hl16 : decide ((L : Int) < 16) = false := decide_eq_false (by omega)
                have hl17 : decide (L < 16) = false := decide_eq_false hL16
                clear hw0 hx hl hl1 hl2 hen HE HY
                dsimp only at *
                go_wp2_with fail
                go_meet
                exact ⟨ao, co, OF, W, d, _, _, by rw [HNF.out], by rw [HNF.out]; omega, HI, by rw [HNF.out]; exact HW⟩
        have n2 : (c == 2) = false := by simpa using e2
        by_cases e3 : c = 3
        · as_aux_lemma =>
            subst e3
            obtain ⟨x0, x1, -, -⟩ := HW.out.dbox.two
            go_upto_region 32 with fail
            obtain ⟨Y, hY⟩ : ∃ Y, clsD d p fd = Y := ⟨_, rfl⟩
            have HY := Lib.hid hY
            clear hY
            go_wp2_with fail
            with_reducible refine (close_p HW.out.dd hol htl hrl HY.out).mono ?_
            rintro e w20 ⟨a9, v9, rfl, D, g⟩
            obtain ⟨a6, c6, rfl, -, -⟩ := D.rd.o.slice
            obtain ⟨v6, e6, rfl, -, -⟩ := D.rd.t.slice
            have HD2 := Lib.hid ((HW.out.res D).grew ((Grew.refl w20).alloc (.cells #[.slice a6 Y.1.o.length c6, .slice v6 Y.1.t.length e6] 29)))
            replace HW := Lib.hid ((HW.out.grew g).grew ((Grew.refl w20).alloc (.cells #[.slice a6 Y.1.o.length c6, .slice v6 Y.1.t.length e6] 29)))
            have HX := Lib.hid (Mine.Own.new w20 29 #[.slice a6 Y.1.o.length c6, .slice v6 Y.1.t.length e6])
            clear D g x0 x1
            go_upto_region 33 with fail
            generalize World.alloc w20 _ = w21 at *
            generalize w20.heap.size = gx at *
            have hc := HW.out.whoAt HI.out.wl hp hfd
            rcases HI.out.lk hp hfd with ⟨hw0, hl⟩ | ⟨nn, hw0, hen, hno, hl⟩
            · have HE : Hid (Y = (d, false, 4)) := Lib.hid (HY.out.symm.trans ((clsD_e (by rw [hl]; decide)).trans (by rw [hl])))
              rw [hw0] at hc
              have hY := HE.out
              subst hY
              clear hw0 hl HE HY
              dsimp only at *
              go_wp2_with fail
              go_meet
              exact ⟨ao, co, OF, W, d, _, _, by rw [HNF.out], by rw [HNF.out]; omega, HI, by rw [HNF.out]; exact HW⟩
            · have hl2 : (lkD d p fd).2.2 = 0 := by rw [hl]
              have hl1 : (lkD d p fd).1 = (nn : Int) := by rw [hl]
              have HI2 := Lib.hid (HI.out.cls hp hfd hen hno)
              have HE : Hid (Y = ((clD d p fd nn).1, (clD d p fd nn).2, 0)) := Lib.hid (HY.out.symm.trans (clsD_0 hl2 hl1))
              obtain ⟨x, hx⟩ : ∃ x, whoW W p fd = x := ⟨_, rfl⟩
              rw [hx] at hc hw0 HI2
              have HXV := Lib.hid hx
              obtain ⟨D1, gb, hD1⟩ : ∃ D1 gb, clD d p fd nn = (D1, gb) := ⟨_, _, rfl⟩
              rw [hD1] at HE HI2
              have hY := HE.out
              subst hY
              have hx1 : (x != 0) = true := by simpa using hw0
              have hx2 : (x == 0) = false := by simpa using hw0
              clear hw0 hx hl hl1 hl2 hen HE HY hD1
              dsimp only at *
              obtain ⟨z0, z1, -, -⟩ := HX.out.two
              obtain ⟨x0, x1, x2, x3⟩ := HW.out.dbox.two
              go_upto_region 37 with fail
              generalize hw : World.setCell (World.setCell w21 _ _) _ _ = w22
              replace HW := Lib.hid (HW.out.put HD2.out hw)
              have hc2 := HW.out.whoAt HI.out.wl hp hfd
              have hcf := HW.out.whoFz (p * 16 + fd)
              rw [HXV.out] at hc2
              clear hw HD2 HX z0 z1 x0 x1 x2 x3 hc
              go_upto_region 39 with fail
              replace HW := Lib.hid (HW.out.setW (p * 16 + fd) 0)
              have HWL := Lib.hid HI2.out.1.wl
              obtain ⟨W2, hW2⟩ : ∃ W2, W.set (p * 16 + fd) 0 = W2 := ⟨_, rfl⟩
              rw [hW2] at HW HI2 HWL
              clear hc2 hcf hW2
              generalize World.setCell w22 _ _ = w23 at *
              go_upto_block 5 with fail
              go_cut [22, 23, 24] from 189 to 206 (fun v22 v23 v24 wx => ∃ lf : Bool, v22 = .bool lf ∧ Hid (lf = true ↔ leftW W2 x) ∧ Hid (w23 = wx))
              case first => as_aux_lemma =>
                go_wp2_with fail
                go_loopw [22, 23] (fun bv iv wr => ∃ (lf : Bool) (i : Nat), bv = .bool lf ∧ iv = .int .i64 i ∧ i ≤ 3 ∧ Hid (lf = true ↔ ∃ p' k', p' < i ∧ k' < 16 ∧ whoW W2 p' k' = x) ∧ Hid (w23 = wr)) (fun _ iv _ => 3 - (intOf iv).toNat)
                case atStart => exact ⟨false, 0, rfl, rfl, Nat.zero_le _, Lib.hid ⟨fun h => (by simp at h), fun ⟨p', k', h, _⟩ => absurd h (by omega)⟩, Lib.hid rfl⟩
                case round => as_aux_lemma =>
                  obtain ⟨lf, i, rfl, rfl, hi, HLF, HE⟩ := hrel
                  obtain rfl := HE.out
                  by_cases hi3 : i < 3
                  rotate_left
                  · obtain rfl : i = 3 := by omega
                    rw [show ((3 : Nat) : Int) = 3 from rfl]
                    go_wp2_with fail
                    go_meet
                    exact ⟨lf, rfl, Lib.hid (HLF.out.trans ⟨fun ⟨p', k', h1, h2, h3⟩ => ⟨p', k', h1, h2, h3⟩, fun ⟨p', k', h1, h2, h3⟩ => ⟨p', k', h1, h2, h3⟩⟩), Lib.hid (by first | rfl | trivial)⟩
                  have hi0 : (0 : Int) ≤ (i : Int) := by omega
                  have hi1 : (i : Int) < 3 := by omega
                  go_wp2_with fail
                  go_loopw [22, 24] (fun bv iv wr => ∃ (lf : Bool) (k : Nat), bv = .bool lf ∧ iv = .int .i64 k ∧ k ≤ 16 ∧ Hid (lf = true ↔ ((∃ p' k', p' < i ∧ k' < 16 ∧ whoW W2 p' k' = x) ∨ ∃ k', k' < k ∧ whoW W2 i k' = x)) ∧ Hid (w23 = wr)) (fun _ iv _ => 16 - (intOf iv).toNat)
                  case atStart => exact ⟨lf, 0, rfl, rfl, Nat.zero_le _, Lib.hid (HLF.out.trans ⟨fun h => .inl h, fun h => h.resolve_right (fun ⟨k', h, _⟩ => absurd h (by omega))⟩), Lib.hid rfl⟩
                  case round => as_aux_lemma =>
                    clear HLF HE
                    obtain ⟨lf, k, rfl, rfl, hk, HLF, HE⟩ := hrel
                    obtain rfl := HE.out
                    by_cases hk16 : k < 16
                    rotate_left
                    · obtain rfl : k = 16 := by omega
                      rw [show ((16 : Nat) : Int) = 16 from rfl]
                      have HLF2 : Hid (lf = true ↔ ∃ p' k', p' < i + 1 ∧ k' < 16 ∧ whoW W2 p' k' = x) := Lib.hid (HLF.out.trans ⟨fun h => by
                        rcases h with ⟨p', k', h1, h2, h3⟩ | ⟨k', h2, h3⟩
                        · exact ⟨p', k', by omega, h2, h3⟩
                        · exact ⟨i, k', by omega, h2, h3⟩, fun ⟨p', k', h1, h2, h3⟩ => by
                        by_cases e : p' = i
                        · exact .inr ⟨k', h2, by rw [← e]; exact h3⟩
                        · exact .inl ⟨p', k', by omega, h2, h3⟩⟩)
                      go_wp2_with fail
                      go_roundw
                      case rel => exact ⟨lf, i + 1, rfl, by go_num, by omega, HLF2, Lib.hid (by first | rfl | trivial)⟩
                      case measure => simp [intOf] <;> omega
                    have hk0 : (0 : Int) ≤ (k : Int) := by omega
                    have hk1 : (k : Int) < 16 := by omega
                    have hc := HW.out.whoAt HWL.out hi3 hk16
                    obtain ⟨y, hy⟩ : ∃ y, whoW W2 i k = y := ⟨_, rfl⟩
                    have HYV := Lib.hid hy
                    rw [hy] at hc
                    clear hy
                    have HNX : Hid (∀ lf' : Bool, (lf' = true ↔ (lf = true ∨ y = x)) → (lf' = true ↔ ((∃ p' k', p' < i ∧ k' < 16 ∧ whoW W2 p' k' = x) ∨ ∃ k', k' < k + 1 ∧ whoW W2 i k' = x))) := Lib.hid (fun lf' h => h.trans ⟨fun h => by
                      rcases h with h | h
                      · rcases HLF.out.1 h with h | ⟨k', h1, h2⟩
                        · exact .inl h
                        · exact .inr ⟨k', by omega, h2⟩
                      · exact .inr ⟨k, by omega, HYV.out.trans h⟩, fun h => by
                      rcases h with h | ⟨k', h1, h2⟩
                      · exact .inl (HLF.out.2 (.inl h))
                      · by_cases e : k' = k
                        · exact .inr (by rw [← HYV.out, ← e]; exact h2)
                        · exact .inl (HLF.out.2 (.inr ⟨k', by omega, h2⟩))⟩)
                    cases lf
                    · by_cases e : y = x
                      · subst e
                        have HL2 := Lib.hid (HNX.out true ⟨fun _ => .inr rfl, fun _ => rfl⟩)
                        clear HNX HYV
                        go_wp2_with fail
                        go_roundw
                        case rel => exact ⟨true, k + 1, by simp, by go_num, by omega, HL2, Lib.hid (by first | rfl | trivial)⟩
                        case measure => simp [intOf] <;> omega
                      · have HL2 := Lib.hid (HNX.out false ⟨fun h => (by simp at h), fun h => h.elim (fun h => (by simp at h)) (fun h => absurd h e)⟩)
                        have e1 : (y == x) = false := by simpa using e
                        clear HNX HYV e
                        go_wp2_with fail
                        go_roundw
                        case rel => exact ⟨false, k + 1, by simp, by go_num, by omega, HL2, Lib.hid (by first | rfl | trivial)⟩
                        case measure => simp [intOf] <;> omega
                    · have HL2 := Lib.hid (HNX.out true ⟨fun _ => .inl rfl, fun _ => rfl⟩)
                      clear HNX HYV
                      go_wp2_with fail
                      go_roundw
                      case rel => exact ⟨true, k + 1, by simp, by go_num, by omega, HL2, Lib.hid (by first | rfl | trivial)⟩
                      case measure => simp [intOf] <;> omega
              case rest => as_aux_lemma =>
                obtain ⟨lf, rfl, HLF, HE⟩ := hcut
                obtain rfl := HE.out
                have HG : Hid ((gb == lf) = false) := Lib.hid (by
                  have h1 := HI2.out.2
                  have h2 := HLF.out
                  cases gb <;> cases lf
                  · have h3 : ¬leftW W2 x := fun h => absurd (h2.2 h) (by decide)
                    exact absurd (h1.2 h3) (by decide)
                  · rfl
                  · rfl
                  · exact absurd (h2.1 rfl) (h1.1 rfl))
                have hg := HG.out
                have HI3 := Lib.hid HI2.out.1
                clear HG HLF HI2 HE
                go_wp2_with fail
                go_meet
                exact ⟨ao, co, OF, W2, _, _, _, by rw [HNF.out], by rw [HNF.out]; omega, HI3, by rw [HNF.out]; exact HW⟩
        have n3 : (c == 3) = false := by simpa using e3
        by_cases e4 : c = 4
        · as_aux_lemma =>
            subst e4
            go_upto_region 50 with fail
            go_wp2_with fail
            with_reducible refine (next_x _ _ _ _ (by omega) (by omega) HW.out.tp).mono ?_
            rintro e w20 ⟨q, q0, q1, rfl, T, g⟩
            replace HW := Lib.hid (HW.out.next T g)
            clear T g
            obtain ⟨q, rfl⟩ := Int.eq_ofNat_of_zero_le q0
            have hq : q < 3 := by omega
            have hqa : (0 : Int) ≤ (q : Int) := by omega
            have hqb : (q : Int) < 3 := by omega
            clear q0 q1
            go_upto_block 9 with fail
            go_cut [26, 27] from 214 to 226 (fun v26 v27 wx => ∃ fr : Bool, v26 = .bool fr ∧ Hid (fr = true ↔ ∀ k, k < 16 → whoW W q k = 0) ∧ Hid (w20 = wx))
            case first => as_aux_lemma =>
              go_wp2_with fail
              go_loopw [26, 27] (fun bv iv wr => ∃ (fr : Bool) (k : Nat), bv = .bool fr ∧ iv = .int .i64 k ∧ k ≤ 16 ∧ Hid (fr = true ↔ ∀ k', k' < k → whoW W q k' = 0) ∧ Hid (w20 = wr)) (fun _ iv _ => 16 - (intOf iv).toNat)
              case atStart => exact ⟨true, 0, rfl, rfl, Nat.zero_le _, Lib.hid ⟨fun _ k' h => absurd h (by omega), fun _ => rfl⟩, Lib.hid rfl⟩
              case round => as_aux_lemma =>
                obtain ⟨fr, k, rfl, rfl, hk, HFR, HE⟩ := hrel
                obtain rfl := HE.out
                by_cases hk16 : k < 16
                rotate_left
                · obtain rfl : k = 16 := by omega
                  rw [show ((16 : Nat) : Int) = 16 from rfl]
                  go_wp2_with fail
                  go_meet
                  exact ⟨fr, rfl, HFR, Lib.hid (by first | rfl | trivial)⟩
                have hk0 : (0 : Int) ≤ (k : Int) := by omega
                have hk1 : (k : Int) < 16 := by omega
                have hc := HW.out.whoAt HI.out.wl hq hk16
                obtain ⟨y, hy⟩ : ∃ y, whoW W q k = y := ⟨_, rfl⟩
                have HYV := Lib.hid hy
                rw [hy] at hc
                clear hy
                have HNX : Hid (∀ fr' : Bool, (fr' = true ↔ (fr = true ∧ y = 0)) → (fr' = true ↔ ∀ k', k' < k + 1 → whoW W q k' = 0)) := Lib.hid (fun fr' h => h.trans ⟨fun h k' hk' => by
                  by_cases e : k' = k
                  · rw [e, HYV.out]; exact h.2
                  · exact HFR.out.1 h.1 k' (by omega), fun h => ⟨HFR.out.2 (fun k' hk' => h k' (by omega)), HYV.out.symm.trans (h k (by omega))⟩⟩)
                cases fr
                · have HL2 := Lib.hid (HNX.out false ⟨fun h => (by simp at h), fun h => h.1⟩)
                  clear HNX HYV
                  go_wp2_with fail
                  go_roundw
                  case rel => exact ⟨false, k + 1, by simp, by go_num, by omega, HL2, Lib.hid (by first | rfl | trivial)⟩
                  case measure => simp [intOf] <;> omega
                · by_cases e : y = 0
                  · subst e
                    have HL2 := Lib.hid (HNX.out true ⟨fun _ => ⟨rfl, rfl⟩, fun _ => rfl⟩)
                    clear HNX HYV
                    go_wp2_with fail
                    go_roundw
                    case rel => exact ⟨true, k + 1, by simp, by go_num, by omega, HL2, Lib.hid (by first | rfl | trivial)⟩
                    case measure => simp [intOf] <;> omega
                  · have HL2 := Lib.hid (HNX.out false ⟨fun h => (by simp at h), fun h => absurd h.2 e⟩)
                    have e1 : (y == 0) = false := by simpa using e
                    clear HNX HYV e
                    go_wp2_with fail
                    go_roundw
                    case rel => exact ⟨false, k + 1, by simp, by go_num, by omega, HL2, Lib.hid (by first | rfl | trivial)⟩
                    case measure => simp [intOf] <;> omega
            case rest => as_aux_lemma =>
              obtain ⟨fr, rfl, HFR, HE⟩ := hcut
              obtain rfl := HE.out
              obtain ⟨x0, x1, -, -⟩ := HW.out.dbox.two
              obtain ⟨Y, hY⟩ : ∃ Y, frkD d p q = Y := ⟨_, rfl⟩
              have HY := Lib.hid hY
              clear hY HE
              go_upto_region 56 with fail
              go_wp2_with fail
              with_reducible refine (fork_p HW.out.dd hol htl hrl HY.out).mono ?_
              rintro e w21 ⟨a9, v9, rfl, D, g⟩
              obtain ⟨a6, c6, rfl, -, -⟩ := D.rd.o.slice
              obtain ⟨v6, e6, rfl, -, -⟩ := D.rd.t.slice
              have HD2 := Lib.hid ((HW.out.res D).grew ((Grew.refl w21).alloc (.cells #[.slice a6 Y.1.o.length c6, .slice v6 Y.1.t.length e6] 29)))
              replace HW := Lib.hid ((HW.out.grew g).grew ((Grew.refl w21).alloc (.cells #[.slice a6 Y.1.o.length c6, .slice v6 Y.1.t.length e6] 29)))
              have HX := Lib.hid (Mine.Own.new w21 29 #[.slice a6 Y.1.o.length c6, .slice v6 Y.1.t.length e6])
              clear D g x0 x1
              go_upto_region 57 with fail
              generalize World.alloc w21 _ = w22 at *
              generalize w21.heap.size = gx at *
              have hpt : p < d.t.length := by rw [HI.out.tl]; exact hp
              have hqt : q < d.t.length := by rw [HI.out.tl]; exact hq
              by_cases hpq : p = q
              · subst hpq
                have HE : Hid (Y = (d, 2)) := Lib.hid (HY.out.symm.trans (frkD_2 (okD_iff.2 HI.out.ok) (fun h => h.2.2 rfl)))
                have hY := HE.out
                subst hY
                clear HE HY hpt hqt
                dsimp only at *
                go_wp2_with fail
                go_meet
                exact ⟨ao, co, OF, W, d, _, _, by rw [HNF.out], by rw [HNF.out]; omega, HI, by rw [HNF.out]; exact HW⟩
              have n5 : ((p : Int) != (q : Int)) = true := by simp; omega
              have n6 : ((p : Int) == (q : Int)) = false := by simp; omega
              have n7 : decide (p = q) = false := decide_eq_false hpq
              cases fr
              · have HE : Hid (Y = (d, 5)) := Lib.hid (HY.out.symm.trans (frkD_5 (okD_iff.2 HI.out.ok) hpt hqt hpq (fun h => absurd (HFR.out.2 (fun k hk => (HI.out.z q k hq hk).1 (h k hk))) (by decide))))
                have hY := HE.out
                subst hY
                clear HE HY hpt hqt hpq
                dsimp only at *
                go_wp2_with fail
                go_meet
                exact ⟨ao, co, OF, W, d, _, _, by rw [HNF.out], by rw [HNF.out]; omega, HI, by rw [HNF.out]; exact HW⟩
              · have HZ := Lib.hid (HFR.out.1 rfl)
                have HE : Hid (Y = (fkD d p q, 0)) := Lib.hid (HY.out.symm.trans (frkD_0 (okD_iff.2 HI.out.ok) hpt hqt hpq (fun k hk => (HI.out.z q k hq hk).2 (HZ.out k hk))))
                have HI2 := Lib.hid (HI.out.frk hp hq HZ.out ((setsW_len _ _ _).trans HI.out.wl) (forkW HI.out.wl hp hq))
                have hY := HE.out
                subst hY
                clear HE HY hpt hqt hpq HFR
                dsimp only at *
                obtain ⟨z0, z1, -, -⟩ := HX.out.two
                obtain ⟨x0, x1, x2, x3⟩ := HW.out.dbox.two
                go_upto_region 61 with fail
                generalize hw : World.setCell (World.setCell w22 _ _) _ _ = w23
                replace HW := Lib.hid (HW.out.put HD2.out hw)
                clear hw HD2 HX z0 z1 x0 x1 x2 x3
                have HRG := Lib.hid (show w23.rangeAt gw (p * 16) ((rowW W p).map (Value.int .i64)) from HW.out.rangeW HI.out.wl hp)
                have hsz : (Try.prog.info? 51).map (fun i => i.size) = some 16 := by kernel_rfl
                have HSZ := Lib.hid (show (Try.prog.info? 51).map (fun i => i.size) = some ((rowW W p).map (Value.int .i64)).length by rw [List.length_map, rowW_len HI.out.wl hp]; exact hsz)
                have HSZ2 := Lib.hid (show (Try.prog.info? 51).map (fun i => i.size) = some ((rowW W p).map (Value.int .i64)).toArray.size by rw [List.size_toArray]; exact HSZ.out)
                have HTH := Lib.hid (show w23.there gw (q * 16) ((rowW W p).map (Value.int .i64)).toArray.size from fun j hj => by
                  rw [List.size_toArray, List.length_map, rowW_len HI.out.wl hp] at hj
                  exact ⟨by rw [HW.out.whoAt HI.out.wl hq hj]; rfl, HW.out.whoFz _⟩)
                have HONE := Lib.hid (show ((rowW W p).map (Value.int .i64)).toArray.all (fun v => v.oneCell') = true from all_oneCell_toArray (fun v hv => by obtain ⟨x, -, rfl⟩ := List.mem_map.1 hv; rfl))
                replace HW := Lib.hid (HW.out.setsW (rowW W p) (q * 16))
                generalize hcs : (rowW W p).map (Value.int .i64) = cs at *
                clear hsz hcs
                go_wp2_with (first
                  | (refine wpList_load_mid rfl 51 (.tmp 248) rfl gw (p * 16) (by rfl) cs _ HRG.out Try.underlying51 rfl HSZ.out ?_)
                  | (refine wpList_store_mid rfl 51 (.tmp 250) (.tmp 249) rfl gw (q * 16) cs.toArray (by rfl) (by rfl) HTH.out HSZ2.out HONE.out ?_))
                go_meet
                exact ⟨ao, co, OF, setsW W (q * 16) (rowW W p), _, _, _, by rw [HNF.out], by rw [HNF.out]; omega, HI2, by rw [HNF.out]; exact Lib.hid (by have h9 := HW.out; first | exact h9 | simpa using h9)⟩
        have n4 : (c == 4) = false := by simpa using e4
        have e5 : c = 5 := by omega
        · as_aux_lemma =>
            subst e5
            obtain ⟨x0, x1, -, -⟩ := HW.out.dbox.two
            go_upto_region 63 with fail
            rcases HI.out.lk hp hfd with ⟨hw0, hl⟩ | ⟨nn, hw0, hen, hno, hl⟩
            · have HWZ := Lib.hid hw0
              have HL := Lib.hid hl
              clear hw0 hl
              go_wp2_with fail
              with_reducible refine (lookup_p HW.out.dd.rd hol htl HL.out).mono ?_
              rintro e w60 ⟨rfl, g⟩
              replace HW := Lib.hid ((HW.out.grew g).grew ((Grew.refl w60).alloc (.cells #[.int .i64 0, .int .i64 0, .int .i64 0, .int .i64 0, .int .i64 0] 34)))
              clear g x0 x1
              go_upto_region 64 with fail
              generalize World.alloc w60 _ = w61 at *
              have hc := HW.out.whoAt HI.out.wl hp hfd
              rw [HWZ.out] at hc
              go_wp2_with fail
              go_meet
              exact ⟨ao, co, OF, W, d, _, _, by rw [HNF.out], by rw [HNF.out]; omega, HI, by rw [HNF.out]; exact HW⟩
            · have hrr := HI.out.r p fd nn hp hfd hen
              have hpt : p < d.t.length := by rw [HI.out.tl]; exact hp
              have hpos := cntD_mem (T := d.t) (p := p) (i := fd) (k := nn) hpt (by rw [HI.out.ok.t p hpt]; exact hfd) hen
              have hrn := HI.out.ok.r nn hno
              have hrt := hrn.2.2 hpos
              have hr0 : (d.o.getD nn zDs).r ≠ 0 := by have := hrn.1; omega
              obtain ⟨y, hy⟩ : ∃ y, d.o.getD nn zDs = y := ⟨_, rfl⟩
              rw [hy] at hl hrt hr0
              obtain ⟨x, hx⟩ : ∃ x, whoW W p fd = x := ⟨_, rfl⟩
              have HXV := Lib.hid hx
              rw [hx] at hrr hw0
              rw [HNF.out] at hrr
              obtain ⟨h1, h2, h3⟩ := hrr
              obtain ⟨j, hj⟩ : ∃ j : Nat, x - 1 = (j : Int) := ⟨(x - 1).toNat, by omega⟩
              have hjn : j < nf := by omega
              have HJN := Lib.hid hjn
              have hjz : (x == 0) = false := by simpa using hw0
              have hjz2 : (x != 0) = true := by simpa using hw0
              have hjw : IntKind.i64.wrap (x - 1) = (j : Int) := (IntWalk.i64_in _ (by omega)).trans hj
              have HJ := Lib.hid hj
              have HL := Lib.hid hl
              have HRT := Lib.hid hrt
              have HR0 := Lib.hid (show (d.o.getD nn zDs).r ≠ 0 by rw [hy]; exact hr0)
              have HEN := Lib.hid hen
              have HNO := Lib.hid hno
              clear h1 h2 h3 hl hx hw0 hen hj hrt hr0 hrn hpos hy hjn
              go_wp2_with fail
              with_reducible refine (lookup_p HW.out.dd.rd hol htl HL.out).mono ?_
              rintro e w60 ⟨rfl, g⟩
              replace HW := Lib.hid (HW.out.grew g)
              have HYB := Lib.hid (Mine.Own.new w60 34 #[.int .i64 y.f, .int .i64 y.g, .int .i64 y.o, .int .i64 y.c, .int .i64 y.r])
              have ga := (Grew.refl w60).alloc (.cells #[.int .i64 y.f, .int .i64 y.g, .int .i64 y.o, .int .i64 y.c, .int .i64 y.r] 34)
              have HT := Lib.hid (HW.out.tp.grew ga)
              have HK := Lib.hid (grown_alloc (grown_refl w60 (some w.heap.size)) (.cells #[.int .i64 y.f, .int .i64 y.g, .int .i64 y.o, .int .i64 y.c, .int .i64 y.r] 34))
              have hc := (HW.out.grew ga).whoAt HI.out.wl hp hfd
              have hgy := HW.out.hl
              have HGYD := Lib.hid (show gd < w60.heap.size from HW.out.dbox.lt)
              rw [HXV.out] at hc
              clear g ga x0 x1
              go_upto_region 64 with fail
              generalize World.alloc w60 _ = w61 at *
              obtain ⟨gy, hgy0⟩ : ∃ gy, w60.heap.size = gy := ⟨_, rfl⟩
              have HGY := Lib.hid hgy0
              rw [hgy0] at HYB hgy HGYD
              rw [hgy0]
              clear hgy0
              go_wp2_with fail
              with_reducible refine (next_x _ _ _ _ (by omega) (by omega) HT.out).mono ?_
              rintro e w62 ⟨z, z0, z1, rfl, T, g⟩
              replace HYB := Lib.hid (HYB.out.past g (by omega))
              replace HK := Lib.hid (grown_trans HK.out g)
              obtain ⟨f0, f1, f2, f3, f4⟩ := HYB.out.five0D
              obtain ⟨z0', z1', z2', z3', z4'⟩ := HYB.out.fiveD
              replace HT := Lib.hid T
              clear g T hc
              go_upto_region 68 with fail
              replace HK := Lib.hid (grown_set (p := ⟨gy, 2, none⟩) HK.out (.inr (show w60.heap.size ≤ gy from Nat.le_of_eq HGY.out)) (.int .i64 z))
              replace HT := Lib.hid (HT.out.set (p := ⟨gy, 2, none⟩) (show w.heap.size + 1 ≤ gy from hgy) (.int .i64 z))
              replace HYB := Lib.hid (show Mine.Own _ gy 34 #[.int .i64 y.f, .int .i64 y.g, .int .i64 z, .int .i64 y.c, .int .i64 y.r] from HYB.out.set 2 (.int .i64 z))
              replace HW := Lib.hid (HW.out.next HT.out HK.out)
              clear HK HT z0' z1' z2' z3' z4' f0 f1 f2 f3 f4
              generalize World.setCell w62 _ _ = w63 at *
              have hyb : (0 ≤ z ∧ z ≤ 128) ∧ 0 ≤ y.c ∧ y.c ≤ 1000000 := by have := HRT.out.2.2.2; omega
              have HU := Lib.hid (updD_0 (x := ⟨y.f, y.g, z, y.c, y.r⟩) (okD_iff.2 HI.out.ok) HNO.out HR0.out hyb)
              have HI2 := Lib.hid (HI.out.upd (y := ⟨y.f, y.g, z, y.c, y.r⟩) hp hfd HEN.out HNO.out hyb)
              rw [HXV.out, HJ.out, Int.toNat_natCast] at HI2
              dsimp only at HI2
              obtain ⟨x0, x1, x2, x3⟩ := HW.out.dbox.two
              obtain ⟨z0', z1', z2', z3', z4'⟩ := HYB.out.fiveD
              clear hyb
              go_wp2_with fail
              with_reducible refine (update_p (y := ⟨y.f, y.g, z, y.c, y.r⟩) HW.out.dd hol htl hrl HU.out).mono ?_
              rintro e w64 ⟨a9, v9, rfl, D, g⟩
              obtain ⟨a6, c6, rfl, -, -⟩ := D.rd.o.slice
              obtain ⟨v6, e6, rfl, -, -⟩ := D.rd.t.slice
              dsimp only at D
              have HD2 := Lib.hid ((HW.out.res D).grew ((Grew.refl w64).alloc (.cells #[.slice a6 (upO d nn ⟨y.f, y.g, z, y.c, y.r⟩).o.length c6, .slice v6 (upO d nn ⟨y.f, y.g, z, y.c, y.r⟩).t.length e6] 29)))
              replace HW := Lib.hid ((HW.out.grew g).grew ((Grew.refl w64).alloc (.cells #[.slice a6 (upO d nn ⟨y.f, y.g, z, y.c, y.r⟩).o.length c6, .slice v6 (upO d nn ⟨y.f, y.g, z, y.c, y.r⟩).t.length e6] 29)))
              replace HYB := Lib.hid ((HYB.out.grew g).alloc (.cells #[.slice a6 (upO d nn ⟨y.f, y.g, z, y.c, y.r⟩).o.length c6, .slice v6 (upO d nn ⟨y.f, y.g, z, y.c, y.r⟩).t.length e6] 29))
              have HX := Lib.hid (Mine.Own.new w64 29 #[.slice a6 (upO d nn ⟨y.f, y.g, z, y.c, y.r⟩).o.length c6, .slice v6 (upO d nn ⟨y.f, y.g, z, y.c, y.r⟩).t.length e6])
              have hgyd : gy ≠ gd := fun e => by have := HW.out.dbox.lt; have := HGYD.out; omega
              clear D g x0 x1 x2 x3 z0' z1' z2' z3' z4'
              go_upto_region 69 with fail
              generalize World.alloc w64 _ = w65 at *
              generalize w64.heap.size = gx at *
              obtain ⟨z0, z1, -, -⟩ := HX.out.two
              obtain ⟨x0, x1, x2, x3⟩ := HW.out.dbox.two
              go_upto_region 72 with fail
              generalize hw : World.setCell (World.setCell w65 _ _) _ _ = w66
              replace HW := Lib.hid (HW.out.put HD2.out hw)
              replace HYB := Lib.hid (HYB.out.far2D hw hgyd)
              clear hw HD2 HX z0 z1 x0 x1 x2 x3
              obtain ⟨-, -, y2, -, -⟩ := HYB.out.fiveD
              have hc := HW.out.whoAt HI.out.wl hp hfd
              rw [HXV.out] at hc
              obtain ⟨go, rfl, hgB, hgo, hof2, hofz⟩ := HW.out.row.atI.2 j HJN.out
              generalize OF.getD j 0 = z5 at hof2
              have hj0 : (0 : Int) ≤ (j : Int) := by omega
              have hj1 : (j : Int) < (nf : Int) := by have := HJN.out; omega
              refine wp_region_any (by kernel_rfl) ?_
              refine wpAny_take (i := 0) (oi := ⟨some 285, _, _, _, _, _⟩) (v := ?vvuu1) rfl (by kernel_rfl) (by kernel_rfl) (by kernel_rfl) (fun _ _ _ h => h) (Or.inl ⟨by rfl, ?yyuu1⟩) ?rruu1
              case yyuu1 => (intro w; go_simp; (try with_reducible rfl))
              try simp only [Act.put, List.setIfInBounds_toArray, List.set_cons_zero, List.set_cons_succ]
              refine wpAny_take (i := 1) (oi := ⟨some 286, _, _, _, _, _⟩) (v := ?vvuu2) rfl (by kernel_rfl) (by kernel_rfl) (by kernel_rfl) (fun _ _ _ h => h) (Or.inl ⟨by rfl, ?yyuu2⟩) ?rruu2
              case yyuu2 => (intro w; go_simp; (try with_reducible rfl))
              try simp only [Act.put, List.setIfInBounds_toArray, List.set_cons_zero, List.set_cons_succ]
              refine wpAny_take (i := 2) (oi := ⟨some 287, _, _, _, _, _⟩) (v := ?vvuu3) rfl (by kernel_rfl) (by kernel_rfl) (by kernel_rfl) (fun _ _ _ h => h) (Or.inl ⟨by rfl, ?yyuu3⟩) ?rruu3
              case yyuu3 => (intro w; go_simp; (try with_reducible rfl))
              try simp only [Act.put, List.setIfInBounds_toArray, List.set_cons_zero, List.set_cons_succ]
              refine wpAny_take (i := 7) (oi := ⟨some 292, _, _, _, _, _⟩) (v := ?vvuu4) rfl (by kernel_rfl) (by kernel_rfl) (by kernel_rfl) (fun _ _ _ h => h) (Or.inl ⟨by rfl, ?yyuu4⟩) ?rruu4
              case yyuu4 => (intro w; go_simp; (try with_reducible rfl))
              try simp only [Act.put, List.setIfInBounds_toArray, List.set_cons_zero, List.set_cons_succ]
              refine wpAny_take (i := 3) (oi := ⟨some 288, _, _, _, _, _⟩) (v := ?vvuu5) rfl (by kernel_rfl) (by kernel_rfl) (by kernel_rfl) (fun _ _ _ h => h) (Or.inl ⟨by rfl, ?yyuu5⟩) ?rruu5
              case yyuu5 => (intro w; go_simp; (try with_reducible rfl))
              try simp only [Act.put, List.setIfInBounds_toArray, List.set_cons_zero, List.set_cons_succ]
              refine wpAny_take (i := 4) (oi := ⟨some 289, _, _, _, _, _⟩) (v := ?vvuu6) rfl (by kernel_rfl) (by kernel_rfl) (by kernel_rfl) (fun _ _ _ h => h) (Or.inl ⟨by rfl, ?yyuu6⟩) ?rruu6
              case yyuu6 => (intro w; go_simp; (try with_reducible rfl))
              try simp only [Act.put, List.setIfInBounds_toArray, List.set_cons_zero, List.set_cons_succ]
              refine wpAny_ready (rs := [5, 8]) (by kernel_rfl) (by simp) ?_
              refine AllReady.cons (o := ⟨some 290, _, _, _, _, _⟩) rfl (fun K hK => ?stuu7_0) (AllReady.cons (o := ⟨some 293, _, _, _, _, _⟩) rfl (fun K hK => ?stuu7_1) AllReady.nil)
              case stuu7_0 =>
                go_simp
                refine hK _ _ ?_
                clear hK K
                try simp only [Act.put, List.setIfInBounds_toArray, List.set_cons_zero, List.set_cons_succ]
                refine wpAny_take (i := 6) (oi := ⟨some 291, _, _, _, _, _⟩) (v := ?vvuu8) rfl (by kernel_rfl) (by kernel_rfl) (by kernel_rfl) (fun _ _ _ h => h) (Or.inl ⟨by rfl, ?yyuu8⟩) ?rruu8
                case yyuu8 => (intro w; go_simp; (try with_reducible rfl))
                try simp only [Act.put, List.setIfInBounds_toArray, List.set_cons_zero, List.set_cons_succ]
                refine wpAny_ready (rs := [8]) (by kernel_rfl) (by simp) ?_
                refine AllReady.cons (o := ⟨some 293, _, _, _, _, _⟩) rfl (fun K hK => ?stuu9_0) AllReady.nil
                case stuu9_0 =>
                  go_simp
                  refine hK _ _ ?_
                  clear hK K
                  try simp only [Act.put, List.setIfInBounds_toArray, List.set_cons_zero, List.set_cons_succ]
                  refine wpAny_take (i := 9) (oi := ⟨some 294, _, _, _, _, _⟩) (v := ?vvuu10) rfl (by kernel_rfl) (by kernel_rfl) (by kernel_rfl) (fun _ _ _ h => h) (Or.inl ⟨by rfl, ?yyuu10⟩) ?rruu10
                  case yyuu10 => (intro w; go_simp; (try with_reducible rfl))
                  try simp only [Act.put, List.setIfInBounds_toArray, List.set_cons_zero, List.set_cons_succ]
                  refine wpAny_ready (rs := [10]) (by kernel_rfl) (by simp) ?_
                  refine AllReady.cons (o := ⟨none, _, _, _, _, _⟩) rfl (fun K hK => ?stuu11_0) AllReady.nil
                  case stuu11_0 =>
                    go_simp
                    refine hK _ _ ?_
                    clear hK K
                    try simp only [Act.put, List.setIfInBounds_toArray, List.set_cons_zero, List.set_cons_succ]
                    refine wpAny_done (by kernel_rfl) ?_ _
                    (first | go_wp2_with fail | skip)
                    go_meet
                    exact ⟨some ⟨go, 0, none⟩, co, OF.set j z, W, _, _, _, by rw [List.length_set, HNF.out], by rw [List.length_set, HNF.out]; omega, HI2, by rw [List.length_set, HNF.out]; exact Lib.hid ((HW.out.setO j z).grew (Grew.refl _).drew)⟩
              case stuu7_1 =>
                go_simp
                refine hK _ _ ?_
                clear hK K
                try simp only [Act.put, List.setIfInBounds_toArray, List.set_cons_zero, List.set_cons_succ]
                refine wpAny_ready (rs := [5]) (by kernel_rfl) (by simp) ?_
                refine AllReady.cons (o := ⟨some 290, _, _, _, _, _⟩) rfl (fun K hK => ?stuu12_0) AllReady.nil
                case stuu12_0 =>
                  go_simp
                  refine hK _ _ ?_
                  clear hK K
                  try simp only [Act.put, List.setIfInBounds_toArray, List.set_cons_zero, List.set_cons_succ]
                  refine wpAny_take (i := 6) (oi := ⟨some 291, _, _, _, _, _⟩) (v := ?vvuu13) rfl (by kernel_rfl) (by kernel_rfl) (by kernel_rfl) (fun _ _ _ h => h) (Or.inl ⟨by rfl, ?yyuu13⟩) ?rruu13
                  case yyuu13 => (intro w; go_simp; (try with_reducible rfl))
                  try simp only [Act.put, List.setIfInBounds_toArray, List.set_cons_zero, List.set_cons_succ]
                  refine wpAny_take (i := 9) (oi := ⟨some 294, _, _, _, _, _⟩) (v := ?vvuu14) rfl (by kernel_rfl) (by kernel_rfl) (by kernel_rfl) (fun _ _ _ h => h) (Or.inl ⟨by rfl, ?yyuu14⟩) ?rruu14
                  case yyuu14 => (intro w; go_simp; (try with_reducible rfl))
                  try simp only [Act.put, List.setIfInBounds_toArray, List.set_cons_zero, List.set_cons_succ]
                  refine wpAny_ready (rs := [10]) (by kernel_rfl) (by simp) ?_
                  refine AllReady.cons (o := ⟨none, _, _, _, _, _⟩) rfl (fun K hK => ?stuu15_0) AllReady.nil
                  case stuu15_0 =>
                    go_simp
                    refine hK _ _ ?_
                    clear hK K
                    try simp only [Act.put, List.setIfInBounds_toArray, List.set_cons_zero, List.set_cons_succ]
                    refine wpAny_done (by kernel_rfl) ?_ _
                    (first | go_wp2_with fail | skip)
                    go_meet
                    exact ⟨some ⟨go, 0, none⟩, co, OF.set j z, W, _, _, _, by rw [List.length_set, HNF.out], by rw [List.length_set, HNF.out]; omega, HI2, by rw [List.length_set, HNF.out]; exact Lib.hid ((HW.out.setO j z).grew (Grew.refl _).drew)⟩
      case rest => as_aux_lemma =>
        clear HW HI hol htl hrl HF hL hof HNF
        obtain ⟨ao', co', OF', W', d', a', b', rfl, hof, HI, HW⟩ := hcut
        obtain ⟨ad', cd', rfl, -, -⟩ := HW.out.dd.rd.o.slice
        obtain ⟨vd', ed', rfl, -, -⟩ := HW.out.dd.rd.t.slice
        obtain ⟨m', hm⟩ : ∃ m, d'.o.length = m := ⟨_, rfl⟩
        have hN := HI.out.tl
        rw [hm, hN] at HW
        have hol : d'.o.length ≤ 1000 := HI.out.ok.sm.o
        have htl : d'.t.length ≤ 1000 := HI.out.ok.sm.t
        have hrl := Lib.hid HI.out.ok.sm.r
        clear hm hN
        obtain ⟨nf', hnf⟩ : ∃ nf, OF'.length = nf := ⟨_, rfl⟩
        have HNF := Lib.hid hnf
        rw [hnf] at HW hof ⊢
        clear hnf
        go_wp2_with fail
        go_loopw [35] (fun iv wr => ∃ i : Nat, iv = .int .i64 i ∧ i ≤ 3 ∧ Hid (ShW w 29 52 3 gd gw (.slice ao' nf' co') OF' W' (.slice ad' m' cd') (.slice vd' 3 ed') d' wr)) (fun iv _ => 3 - (intOf iv).toNat)
        case atStart => exact ⟨0, rfl, Nat.zero_le _, HW⟩
        case round => as_aux_lemma =>
          clear HW
          obtain ⟨i, rfl, hi, HW⟩ := hrel
          obtain ⟨wi, rfl⟩ : ∃ wi : World, wi = wr := ⟨_, rfl⟩
          by_cases hi3 : i < 3
          rotate_left
          · obtain rfl : i = 3 := by omega
            rw [show ((3 : Nat) : Int) = 3 from rfl]
            go_wp2_with fail
            go_roundw
            case rel => exact ⟨n + 1, .slice ao' nf' co', OF', W', d', _, _, rfl, by go_num, by omega, by rw [HNF.out]; exact hof, HI, HW⟩
            case measure => simp [intOf] <;> omega
          have hi0 : (0 : Int) ≤ (i : Int) := by omega
          have hi1 : (i : Int) < 3 := by omega
          go_wp2_with fail
          go_loopw [36] (fun iv wr => ∃ k : Nat, iv = .int .i64 k ∧ k ≤ 16 ∧ Hid (ShW w 29 52 3 gd gw (.slice ao' nf' co') OF' W' (.slice ad' m' cd') (.slice vd' 3 ed') d' wr)) (fun iv _ => 16 - (intOf iv).toNat)
          case atStart => exact ⟨0, rfl, Nat.zero_le _, HW⟩
          case round => as_aux_lemma =>
            clear HW
            obtain ⟨k, rfl, hk, HW⟩ := hrel
            obtain ⟨wk, rfl⟩ : ∃ wk : World, wk = wr := ⟨_, rfl⟩
            by_cases hk16 : k < 16
            rotate_left
            · obtain rfl : k = 16 := by omega
              rw [show ((16 : Nat) : Int) = 16 from rfl]
              go_wp2_with fail
              go_roundw
              case rel => exact ⟨i + 1, by go_num, by omega, HW⟩
              case measure => simp [intOf] <;> omega
            have hk0 : (0 : Int) ≤ (k : Int) := by omega
            have hk1 : (k : Int) < 16 := by omega
            obtain ⟨x0, x1, -, -⟩ := HW.out.dbox.two
            rcases HI.out.lk hi3 hk16 with ⟨hw0, hl⟩ | ⟨nn, hw0, hen, hno, hl⟩
            · have HWZ := Lib.hid hw0
              have HL := Lib.hid hl
              clear hw0 hl
              go_wp2_with fail
              with_reducible refine (lookup_p HW.out.dd.rd hol htl HL.out).mono ?_
              rintro e w60 ⟨rfl, g⟩
              replace HW := Lib.hid ((HW.out.grew g).grew ((Grew.refl w60).alloc (.cells #[.int .i64 0, .int .i64 0, .int .i64 0, .int .i64 0, .int .i64 0] 34)))
              clear g x0 x1
              go_upto_region 80 with fail
              generalize World.alloc w60 _ = w61 at *
              have hc := HW.out.whoAt HI.out.wl hi3 hk16
              rw [HWZ.out] at hc
              go_quiet (fail)
              go_wp2_with fail
              go_roundw
              case rel => exact ⟨k + 1, by go_num, by omega, Lib.hid (HW.out.grew ((Grew.refl _).drewN _))⟩
              case measure => simp [intOf] <;> omega
            · have hrr := HI.out.r i k nn hi3 hk16 hen
              obtain ⟨y, hy⟩ : ∃ y, d'.o.getD nn zDs = y := ⟨_, rfl⟩
              rw [hy] at hl hrr
              clear hno hy
              obtain ⟨x, hx⟩ : ∃ x, whoW W' i k = x := ⟨_, rfl⟩
              have HXV := Lib.hid hx
              rw [hx] at hrr hw0
              rw [HNF.out] at hrr
              obtain ⟨h1, h2, h3⟩ := hrr
              obtain ⟨j, hj⟩ : ∃ j : Nat, x - 1 = (j : Int) := ⟨(x - 1).toNat, by omega⟩
              rw [hj, Int.toNat_natCast] at h3
              have hjn : j < nf' := by omega
              have hjz : (x == 0) = false := by simpa using hw0
              have hjz2 : (x != 0) = true := by simpa using hw0
              have hjw : IntKind.i64.wrap (x - 1) = (j : Int) := (IntWalk.i64_in _ (by omega)).trans hj
              have HJN := Lib.hid hjn
              have H3 := Lib.hid h3
              have HL := Lib.hid hl
              clear h1 h2 h3 hl hx hw0 hen hj hjn
              go_wp2_with fail
              with_reducible refine (lookup_p HW.out.dd.rd hol htl HL.out).mono ?_
              rintro e w60 ⟨rfl, g⟩
              replace HW := Lib.hid ((HW.out.grew g).grew ((Grew.refl w60).alloc (.cells #[.int .i64 y.f, .int .i64 y.g, .int .i64 y.o, .int .i64 y.c, .int .i64 y.r] 34)))
              have hyb := Mine.Own.new w60 34 #[.int .i64 y.f, .int .i64 y.g, .int .i64 y.o, .int .i64 y.c, .int .i64 y.r]
              clear g x0 x1
              go_upto_region 80 with fail
              generalize World.alloc w60 _ = w61 at *
              generalize w60.heap.size = gy at *
              obtain ⟨-, -, y2, -, -⟩ := hyb.fiveD
              rw [H3.out] at y2
              have hc := HW.out.whoAt HI.out.wl hi3 hk16
              rw [HXV.out] at hc
              obtain ⟨go, rfl, hgB, hgo, hof2, -⟩ := HW.out.row.atI.2 j HJN.out
              generalize OF'.getD j 0 = z at y2 hof2
              have hj0 : (0 : Int) ≤ (j : Int) := by omega
              have hj1 : (j : Int) < (nf' : Int) := by have := HJN.out; omega
              clear hyb
              refine wp_region_held_drew (S := (fun w' => w'.cell? ⟨gw, i * 16 + k, none⟩ = some (.int .i64 x) ∧ w'.cell? ⟨gy, 2, none⟩ = some (.int .i64 z) ∧ w'.cell? ⟨go, j, none⟩ = some (.int .i64 z))) (by kernel_rfl) ?_ (fun hHeld => ?_)
              · (try dsimp only); (refine ⟨?_, ?_, ?_⟩ <;> (repeat (first | (with_reducible assumption) | (with_reducible refine far_drew ?_))))
              first | refine wpAnyH_take (i := 0) (v := undef) rfl (by kernel_rfl) (by kernel_rfl) (by kernel_rfl) (fun _ _ _ h => h) (Or.inr ⟨by rfl, rfl⟩) (by assumption) ?_ | (refine' wpAnyH_take (i := 0) (v := _) rfl (by kernel_rfl) (by kernel_rfl) (by kernel_rfl) (fun _ _ _ h => h) (Or.inl ⟨by rfl, ?hy0h⟩) (by assumption) ?rest0h; case hy0h => (intro w hSw; (try dsimp only at hSw); (first | (go_simp; done) | (go_simp; with_reducible rfl))))
              try simp only [Act.put, List.setIfInBounds_toArray, List.set_cons_zero, List.set_cons_succ, List.getElem_toArray, List.getElem_cons_zero]
              first | refine wpAnyH_take (i := 1) (v := undef) rfl (by kernel_rfl) (by kernel_rfl) (by kernel_rfl) (fun _ _ _ h => h) (Or.inr ⟨by rfl, rfl⟩) (by assumption) ?_ | (refine' wpAnyH_take (i := 1) (v := _) rfl (by kernel_rfl) (by kernel_rfl) (by kernel_rfl) (fun _ _ _ h => h) (Or.inl ⟨by rfl, ?hy1h⟩) (by assumption) ?rest1h; case hy1h => (intro w hSw; (try dsimp only at hSw); (first | (go_simp; done) | (go_simp; with_reducible rfl))))
              try simp only [Act.put, List.setIfInBounds_toArray, List.set_cons_zero, List.set_cons_succ, List.getElem_toArray, List.getElem_cons_zero, List.getElem_cons_succ]
              first | refine wpAnyH_take (i := 2) (v := undef) rfl (by kernel_rfl) (by kernel_rfl) (by kernel_rfl) (fun _ _ _ h => h) (Or.inr ⟨by rfl, rfl⟩) (by assumption) ?_ | (refine' wpAnyH_take (i := 2) (v := _) rfl (by kernel_rfl) (by kernel_rfl) (by kernel_rfl) (fun _ _ _ h => h) (Or.inl ⟨by rfl, ?hy2h⟩) (by assumption) ?rest2h; case hy2h => (intro w hSw; (try dsimp only at hSw); (first | (go_simp; done) | (go_simp; with_reducible rfl))))
              try simp only [Act.put, List.setIfInBounds_toArray, List.set_cons_zero, List.set_cons_succ, List.getElem_toArray, List.getElem_cons_zero, List.getElem_cons_succ]
              first | refine wpAnyH_take (i := 3) (v := undef) rfl (by kernel_rfl) (by kernel_rfl) (by kernel_rfl) (fun _ _ _ h => h) (Or.inr ⟨by rfl, rfl⟩) (by assumption) ?_ | (refine' wpAnyH_take (i := 3) (v := _) rfl (by kernel_rfl) (by kernel_rfl) (by kernel_rfl) (fun _ _ _ h => h) (Or.inl ⟨by rfl, ?hy3h⟩) (by assumption) ?rest3h; case hy3h => (intro w hSw; (try dsimp only at hSw); (first | (go_simp; done) | (go_simp; with_reducible rfl))))
              try simp only [Act.put, List.setIfInBounds_toArray, List.set_cons_zero, List.set_cons_succ, List.getElem_toArray, List.getElem_cons_zero, List.getElem_cons_succ]
              first | refine wpAnyH_take (i := 4) (v := undef) rfl (by kernel_rfl) (by kernel_rfl) (by kernel_rfl) (fun _ _ _ h => h) (Or.inr ⟨by rfl, rfl⟩) (by assumption) ?_ | (refine' wpAnyH_take (i := 4) (v := _) rfl (by kernel_rfl) (by kernel_rfl) (by kernel_rfl) (fun _ _ _ h => h) (Or.inl ⟨by rfl, ?hy4h⟩) (by assumption) ?rest4h; case hy4h => (intro w hSw; (try dsimp only at hSw); (first | (go_simp; done) | (go_simp; with_reducible rfl))))
              try simp only [Act.put, List.setIfInBounds_toArray, List.set_cons_zero, List.set_cons_succ, List.getElem_toArray, List.getElem_cons_zero, List.getElem_cons_succ]
              first | refine wpAnyH_take (i := 5) (v := undef) rfl (by kernel_rfl) (by kernel_rfl) (by kernel_rfl) (fun _ _ _ h => h) (Or.inr ⟨by rfl, rfl⟩) (by assumption) ?_ | (refine' wpAnyH_take (i := 5) (v := _) rfl (by kernel_rfl) (by kernel_rfl) (by kernel_rfl) (fun _ _ _ h => h) (Or.inl ⟨by rfl, ?hy5h⟩) (by assumption) ?rest5h; case hy5h => (intro w hSw; (try dsimp only at hSw); (first | (go_simp; done) | (go_simp; with_reducible rfl))))
              try simp only [Act.put, List.setIfInBounds_toArray, List.set_cons_zero, List.set_cons_succ, List.getElem_toArray, List.getElem_cons_zero, List.getElem_cons_succ]
              first | refine wpAnyH_take (i := 6) (v := undef) rfl (by kernel_rfl) (by kernel_rfl) (by kernel_rfl) (fun _ _ _ h => h) (Or.inr ⟨by rfl, rfl⟩) (by assumption) ?_ | (refine' wpAnyH_take (i := 6) (v := _) rfl (by kernel_rfl) (by kernel_rfl) (by kernel_rfl) (fun _ _ _ h => h) (Or.inl ⟨by rfl, ?hy6h⟩) (by assumption) ?rest6h; case hy6h => (intro w hSw; (try dsimp only at hSw); (first | (go_simp; done) | (go_simp; with_reducible rfl))))
              try simp only [Act.put, List.setIfInBounds_toArray, List.set_cons_zero, List.set_cons_succ, List.getElem_toArray, List.getElem_cons_zero, List.getElem_cons_succ]
              first | refine wpAnyH_take (i := 7) (v := undef) rfl (by kernel_rfl) (by kernel_rfl) (by kernel_rfl) (fun _ _ _ h => h) (Or.inr ⟨by rfl, rfl⟩) (by assumption) ?_ | (refine' wpAnyH_take (i := 7) (v := _) rfl (by kernel_rfl) (by kernel_rfl) (by kernel_rfl) (fun _ _ _ h => h) (Or.inl ⟨by rfl, ?hy7h⟩) (by assumption) ?rest7h; case hy7h => (intro w hSw; (try dsimp only at hSw); (first | (go_simp; done) | (go_simp; with_reducible rfl))))
              try simp only [Act.put, List.setIfInBounds_toArray, List.set_cons_zero, List.set_cons_succ, List.getElem_toArray, List.getElem_cons_zero, List.getElem_cons_succ]
              first | refine wpAnyH_take (i := 8) (v := undef) rfl (by kernel_rfl) (by kernel_rfl) (by kernel_rfl) (fun _ _ _ h => h) (Or.inr ⟨by rfl, rfl⟩) (by assumption) ?_ | (refine' wpAnyH_take (i := 8) (v := _) rfl (by kernel_rfl) (by kernel_rfl) (by kernel_rfl) (fun _ _ _ h => h) (Or.inl ⟨by rfl, ?hy8h⟩) (by assumption) ?rest8h; case hy8h => (intro w hSw; (try dsimp only at hSw); (first | (go_simp; done) | (go_simp; with_reducible rfl))))
              try simp only [Act.put, List.setIfInBounds_toArray, List.set_cons_zero, List.set_cons_succ, List.getElem_toArray, List.getElem_cons_zero, List.getElem_cons_succ]
              first | refine wpAnyH_take (i := 9) (v := undef) rfl (by kernel_rfl) (by kernel_rfl) (by kernel_rfl) (fun _ _ _ h => h) (Or.inr ⟨by rfl, rfl⟩) (by assumption) ?_ | (refine' wpAnyH_take (i := 9) (v := _) rfl (by kernel_rfl) (by kernel_rfl) (by kernel_rfl) (fun _ _ _ h => h) (Or.inl ⟨by rfl, ?hy9h⟩) (by assumption) ?rest9h; case hy9h => (intro w hSw; (try dsimp only at hSw); (first | (go_simp; done) | (go_simp; with_reducible rfl))))
              try simp only [Act.put, List.setIfInBounds_toArray, List.set_cons_zero, List.set_cons_succ, List.getElem_toArray, List.getElem_cons_zero, List.getElem_cons_succ]
              first | refine wpAnyH_take (i := 10) (v := undef) rfl (by kernel_rfl) (by kernel_rfl) (by kernel_rfl) (fun _ _ _ h => h) (Or.inr ⟨by rfl, rfl⟩) (by assumption) ?_ | (refine' wpAnyH_take (i := 10) (v := _) rfl (by kernel_rfl) (by kernel_rfl) (by kernel_rfl) (fun _ _ _ h => h) (Or.inl ⟨by rfl, ?hy10h⟩) (by assumption) ?rest10h; case hy10h => (intro w hSw; (try dsimp only at hSw); (first | (go_simp; done) | (go_simp; with_reducible rfl))))
              try simp only [Act.put, List.setIfInBounds_toArray, List.set_cons_zero, List.set_cons_succ, List.getElem_toArray, List.getElem_cons_zero, List.getElem_cons_succ]
              first | refine wpAnyH_take (i := 11) (v := undef) rfl (by kernel_rfl) (by kernel_rfl) (by kernel_rfl) (fun _ _ _ h => h) (Or.inr ⟨by rfl, rfl⟩) (by assumption) ?_ | (refine' wpAnyH_take (i := 11) (v := _) rfl (by kernel_rfl) (by kernel_rfl) (by kernel_rfl) (fun _ _ _ h => h) (Or.inl ⟨by rfl, ?hy11h⟩) (by assumption) ?rest11h; case hy11h => (intro w hSw; (try dsimp only at hSw); (first | (go_simp; done) | (go_simp; with_reducible rfl))))
              try simp only [Act.put, List.setIfInBounds_toArray, List.set_cons_zero, List.set_cons_succ, List.getElem_toArray, List.getElem_cons_zero, List.getElem_cons_succ]
              first | refine wpAnyH_take (i := 12) (v := undef) rfl (by kernel_rfl) (by kernel_rfl) (by kernel_rfl) (fun _ _ _ h => h) (Or.inr ⟨by rfl, rfl⟩) (by assumption) ?_ | (refine' wpAnyH_take (i := 12) (v := _) rfl (by kernel_rfl) (by kernel_rfl) (by kernel_rfl) (fun _ _ _ h => h) (Or.inl ⟨by rfl, ?hy12h⟩) (by assumption) ?rest12h; case hy12h => (intro w hSw; (try dsimp only at hSw); (first | (go_simp; done) | (go_simp; with_reducible rfl))))
              try simp only [Act.put, List.setIfInBounds_toArray, List.set_cons_zero, List.set_cons_succ, List.getElem_toArray, List.getElem_cons_zero, List.getElem_cons_succ]
              first | refine wpAnyH_take (i := 13) (v := undef) rfl (by kernel_rfl) (by kernel_rfl) (by kernel_rfl) (fun _ _ _ h => h) (Or.inr ⟨by rfl, rfl⟩) (by assumption) ?_ | (refine' wpAnyH_take (i := 13) (v := _) rfl (by kernel_rfl) (by kernel_rfl) (by kernel_rfl) (fun _ _ _ h => h) (Or.inl ⟨by rfl, ?hy13h⟩) (by assumption) ?rest13h; case hy13h => (intro w hSw; (try dsimp only at hSw); (first | (go_simp; done) | (go_simp; with_reducible rfl))))
              try simp only [Act.put, List.setIfInBounds_toArray, List.set_cons_zero, List.set_cons_succ, List.getElem_toArray, List.getElem_cons_zero, List.getElem_cons_succ]
              first | refine wpAnyH_take (i := 14) (v := undef) rfl (by kernel_rfl) (by kernel_rfl) (by kernel_rfl) (fun _ _ _ h => h) (Or.inr ⟨by rfl, rfl⟩) (by assumption) ?_ | (refine' wpAnyH_take (i := 14) (v := _) rfl (by kernel_rfl) (by kernel_rfl) (by kernel_rfl) (fun _ _ _ h => h) (Or.inl ⟨by rfl, ?hy14h⟩) (by assumption) ?rest14h; case hy14h => (intro w hSw; (try dsimp only at hSw); (first | (go_simp; done) | (go_simp; with_reducible rfl))))
              try simp only [Act.put, List.setIfInBounds_toArray, List.set_cons_zero, List.set_cons_succ, List.getElem_toArray, List.getElem_cons_zero, List.getElem_cons_succ]
              first | refine wpAnyH_take (i := 15) (v := undef) rfl (by kernel_rfl) (by kernel_rfl) (by kernel_rfl) (fun _ _ _ h => h) (Or.inr ⟨by rfl, rfl⟩) (by assumption) ?_ | (refine' wpAnyH_take (i := 15) (v := _) rfl (by kernel_rfl) (by kernel_rfl) (by kernel_rfl) (fun _ _ _ h => h) (Or.inl ⟨by rfl, ?hy15h⟩) (by assumption) ?rest15h; case hy15h => (intro w hSw; (try dsimp only at hSw); (first | (go_simp; done) | (go_simp; with_reducible rfl))))
              try simp only [Act.put, List.setIfInBounds_toArray, List.set_cons_zero, List.set_cons_succ, List.getElem_toArray, List.getElem_cons_zero, List.getElem_cons_succ]
              first | refine wpAnyH_take (i := 16) (v := undef) rfl (by kernel_rfl) (by kernel_rfl) (by kernel_rfl) (fun _ _ _ h => h) (Or.inr ⟨by rfl, rfl⟩) (by assumption) ?_ | (refine' wpAnyH_take (i := 16) (v := _) rfl (by kernel_rfl) (by kernel_rfl) (by kernel_rfl) (fun _ _ _ h => h) (Or.inl ⟨by rfl, ?hy16h⟩) (by assumption) ?rest16h; case hy16h => (intro w hSw; (try dsimp only at hSw); (first | (go_simp; done) | (go_simp; with_reducible rfl))))
              try simp only [Act.put, List.setIfInBounds_toArray, List.set_cons_zero, List.set_cons_succ, List.getElem_toArray, List.getElem_cons_zero, List.getElem_cons_succ]
              first | refine wpAnyH_take (i := 17) (v := undef) rfl (by kernel_rfl) (by kernel_rfl) (by kernel_rfl) (fun _ _ _ h => h) (Or.inr ⟨by rfl, rfl⟩) (by assumption) ?_ | (refine' wpAnyH_take (i := 17) (v := _) rfl (by kernel_rfl) (by kernel_rfl) (by kernel_rfl) (fun _ _ _ h => h) (Or.inl ⟨by rfl, ?hy17h⟩) (by assumption) ?rest17h; case hy17h => (intro w hSw; (try dsimp only at hSw); (first | (go_simp; done) | (go_simp; with_reducible rfl))))
              try simp only [Act.put, List.setIfInBounds_toArray, List.set_cons_zero, List.set_cons_succ, List.getElem_toArray, List.getElem_cons_zero, List.getElem_cons_succ]
              first | refine wpAnyH_take (i := 18) (v := undef) rfl (by kernel_rfl) (by kernel_rfl) (by kernel_rfl) (fun _ _ _ h => h) (Or.inr ⟨by rfl, rfl⟩) (by assumption) ?_ | (refine' wpAnyH_take (i := 18) (v := _) rfl (by kernel_rfl) (by kernel_rfl) (by kernel_rfl) (fun _ _ _ h => h) (Or.inl ⟨by rfl, ?hy18h⟩) (by assumption) ?rest18h; case hy18h => (intro w hSw; (try dsimp only at hSw); (first | (go_simp; done) | (go_simp; with_reducible rfl))))
              try simp only [Act.put, List.setIfInBounds_toArray, List.set_cons_zero, List.set_cons_succ, List.getElem_toArray, List.getElem_cons_zero, List.getElem_cons_succ]
              first | refine wpAnyH_take (i := 19) (v := undef) rfl (by kernel_rfl) (by kernel_rfl) (by kernel_rfl) (fun _ _ _ h => h) (Or.inr ⟨by rfl, rfl⟩) (by assumption) ?_ | (refine' wpAnyH_take (i := 19) (v := _) rfl (by kernel_rfl) (by kernel_rfl) (by kernel_rfl) (fun _ _ _ h => h) (Or.inl ⟨by rfl, ?hy19h⟩) (by assumption) ?rest19h; case hy19h => (intro w hSw; (try dsimp only at hSw); (first | (go_simp; done) | (go_simp; with_reducible rfl))))
              try simp only [Act.put, List.setIfInBounds_toArray, List.set_cons_zero, List.set_cons_succ, List.getElem_toArray, List.getElem_cons_zero, List.getElem_cons_succ]
              first | refine wpAnyH_take (i := 20) (v := undef) rfl (by kernel_rfl) (by kernel_rfl) (by kernel_rfl) (fun _ _ _ h => h) (Or.inr ⟨by rfl, rfl⟩) (by assumption) ?_ | (refine' wpAnyH_take (i := 20) (v := _) rfl (by kernel_rfl) (by kernel_rfl) (by kernel_rfl) (fun _ _ _ h => h) (Or.inl ⟨by rfl, ?hy20h⟩) (by assumption) ?rest20h; case hy20h => (intro w hSw; (try dsimp only at hSw); (first | (go_simp; done) | (go_simp; with_reducible rfl))))
              try simp only [Act.put, List.setIfInBounds_toArray, List.set_cons_zero, List.set_cons_succ, List.getElem_toArray, List.getElem_cons_zero, List.getElem_cons_succ]
              first | refine wpAnyH_take (i := 21) (v := undef) rfl (by kernel_rfl) (by kernel_rfl) (by kernel_rfl) (fun _ _ _ h => h) (Or.inr ⟨by rfl, rfl⟩) (by assumption) ?_ | (refine' wpAnyH_take (i := 21) (v := _) rfl (by kernel_rfl) (by kernel_rfl) (by kernel_rfl) (fun _ _ _ h => h) (Or.inl ⟨by rfl, ?hy21h⟩) (by assumption) ?rest21h; case hy21h => (intro w hSw; (try dsimp only at hSw); (first | (go_simp; done) | (go_simp; with_reducible rfl))))
              try simp only [Act.put, List.setIfInBounds_toArray, List.set_cons_zero, List.set_cons_succ, List.getElem_toArray, List.getElem_cons_zero, List.getElem_cons_succ]
              first | refine wpAnyH_take (i := 22) (v := undef) rfl (by kernel_rfl) (by kernel_rfl) (by kernel_rfl) (fun _ _ _ h => h) (Or.inr ⟨by rfl, rfl⟩) (by assumption) ?_ | (refine' wpAnyH_take (i := 22) (v := _) rfl (by kernel_rfl) (by kernel_rfl) (by kernel_rfl) (fun _ _ _ h => h) (Or.inl ⟨by rfl, ?hy22h⟩) (by assumption) ?rest22h; case hy22h => (intro w hSw; (try dsimp only at hSw); (first | (go_simp; done) | (go_simp; with_reducible rfl))))
              try simp only [Act.put, List.setIfInBounds_toArray, List.set_cons_zero, List.set_cons_succ, List.getElem_toArray, List.getElem_cons_zero, List.getElem_cons_succ]
              first | refine wpAnyH_take (i := 23) (v := undef) rfl (by kernel_rfl) (by kernel_rfl) (by kernel_rfl) (fun _ _ _ h => h) (Or.inr ⟨by rfl, rfl⟩) (by assumption) ?_ | (refine' wpAnyH_take (i := 23) (v := _) rfl (by kernel_rfl) (by kernel_rfl) (by kernel_rfl) (fun _ _ _ h => h) (Or.inl ⟨by rfl, ?hy23h⟩) (by assumption) ?rest23h; case hy23h => (intro w hSw; (try dsimp only at hSw); (first | (go_simp; done) | (go_simp; with_reducible rfl))))
              try simp only [Act.put, List.setIfInBounds_toArray, List.set_cons_zero, List.set_cons_succ, List.getElem_toArray, List.getElem_cons_zero, List.getElem_cons_succ]
              first | refine wpAnyH_take (i := 24) (v := undef) rfl (by kernel_rfl) (by kernel_rfl) (by kernel_rfl) (fun _ _ _ h => h) (Or.inr ⟨by rfl, rfl⟩) (by assumption) ?_ | (refine' wpAnyH_take (i := 24) (v := _) rfl (by kernel_rfl) (by kernel_rfl) (by kernel_rfl) (fun _ _ _ h => h) (Or.inl ⟨by rfl, ?hy24h⟩) (by assumption) ?rest24h; case hy24h => (intro w hSw; (try dsimp only at hSw); (first | (go_simp; done) | (go_simp; with_reducible rfl))))
              try simp only [Act.put, List.setIfInBounds_toArray, List.set_cons_zero, List.set_cons_succ, List.getElem_toArray, List.getElem_cons_zero, List.getElem_cons_succ]
              first | refine wpAnyH_take (i := 25) (v := undef) rfl (by kernel_rfl) (by kernel_rfl) (by kernel_rfl) (fun _ _ _ h => h) (Or.inr ⟨by rfl, rfl⟩) (by assumption) ?_ | (refine' wpAnyH_take (i := 25) (v := _) rfl (by kernel_rfl) (by kernel_rfl) (by kernel_rfl) (fun _ _ _ h => h) (Or.inl ⟨by rfl, ?hy25h⟩) (by assumption) ?rest25h; case hy25h => (intro w hSw; (try dsimp only at hSw); (first | (go_simp; done) | (go_simp; with_reducible rfl))))
              try simp only [Act.put, List.setIfInBounds_toArray, List.set_cons_zero, List.set_cons_succ, List.getElem_toArray, List.getElem_cons_zero, List.getElem_cons_succ]
              first | refine wpAnyH_take (i := 26) (v := undef) rfl (by kernel_rfl) (by kernel_rfl) (by kernel_rfl) (fun _ _ _ h => h) (Or.inr ⟨by rfl, rfl⟩) (by assumption) ?_ | (refine' wpAnyH_take (i := 26) (v := _) rfl (by kernel_rfl) (by kernel_rfl) (by kernel_rfl) (fun _ _ _ h => h) (Or.inl ⟨by rfl, ?hy26h⟩) (by assumption) ?rest26h; case hy26h => (intro w hSw; (try dsimp only at hSw); (first | (go_simp; done) | (go_simp; with_reducible rfl))))
              try simp only [Act.put, List.setIfInBounds_toArray, List.set_cons_zero, List.set_cons_succ, List.getElem_toArray, List.getElem_cons_zero, List.getElem_cons_succ]
              refine wpAnyH_done (by kernel_rfl) ?_ _
              go_wp2_with fail
              go_roundw
              case rel => exact ⟨k + 1, by go_num, by omega, Lib.hid (HW.out.grew ((Grew.refl _).drew))⟩
              case measure => simp [intOf] <;> omega

theorem Try.own : ownKnob Try.prog.godebug = none := by kernel_rfl
theorem Try.laidOut : laidOutB Try.prog = true := by kernel_rfl

theorem descriptorShares_contract (W : World) (base : Nat) (args : Array Value) (H : Type) (enc : TypeId × Value → H) (ds : List (DataW H)) (p : List MemPlace)
    (hval : ∀ (j : Nat) t v, Try.f4.params[j]? = some t → args[j]? = some v → Value.okWide Try.prog W .any base t v)
    (hA : DataW.TrodAll enc Try.prog W 0 (fun _ => true) true Try.f4.params.toList args.toList ds p) :
    (∃ d0, ds = [d0]) ∧ Calls Try.prog 4 args W fun e W' => e = .returned (.bool true) ∧ Below W.heap.size W W' := by
  rw [Try.params4] at hval hA
  obtain ⟨v0, d0, p0, ha, hd, hp, h0⟩ := args_1 hA
  subst ha hd
  obtain ⟨A0, c0, xs0, rfl, hr0, hm0⟩ := open_introw Try.underlying22 Try.underlying3 (by kernel_rfl) (hval 0 _ _ rfl rfl) h0
  exact ⟨⟨_, rfl⟩, (shares_core A0 c0 xs0 W hr0 hm0).mono fun _ _ h => h⟩

set_option maxRecDepth 100000 in
theorem descriptorShares_lifted (os : Os) (started : os.Started) (H : Type) (enc : TypeId × Value → H) :
    ReturnsInHanded {} Try.checked os 4 .any (Rows.descriptorSharesSpec.pre6 enc Try.prog Try.f4 Rows.descriptorSharesRow.domain false) (Rows.descriptorSharesSpec.post enc Try.prog Try.f4 false true false false) := by
  refine returnsInHanded_of_change (C := Try.checked) Try.own started (by kernel_rfl) Try.func4
    (ChangeSpec.witness6 (enc := enc) (C := Try.checked) false ⟨#[], #[.slice none 0 0], []⟩ 8 (by kernel_rfl) (by kernel_rfl) (by kernel_rfl) (by kernel_rfl)) ?_
  intro W base args ds gs before hval hW _ _
  obtain ⟨p, q, hA, hV, hrest⟩ := id hW
  obtain ⟨⟨d0, rfl⟩, hc⟩ := descriptorShares_contract W base args H enc ds p hval hA
  obtain ⟨rfl, -⟩ := trodVars_none hV
  refine hc.mono fun e W' ⟨he, hb⟩ => ⟨_, he, ?_⟩
  exact law_close (tb := 4) Try.laidOut (by rw [Try.params4]; decide +kernel) Try.underlying4 rfl rfl hW rfl rfl rfl hb

theorem descriptorShares_holds : Rows.DescriptorSharesSaid :=
  OpenClaim.holds_of_wide 4 Try.f4 rfl rfl rfl rfl rfl rfl rfl ⟨rfl, rfl, rfl, rfl, rfl⟩ rfl rfl rfl rfl rfl (by kernel_rfl) Try.func4 (by kernel_rfl)
    (of_decide_eq_true (by kernel_rfl)) (by unfold Func.isWrapper; first | (rw [if_pos (by decide +kernel)]; kernel_rfl) | (rw [if_neg (by decide +kernel)]; exact ⟨rfl, rfl⟩))
    (fun os started H enc _ => descriptorShares_lifted os started H enc)
end Go.Proofs.Ytokijggckiidjaa
