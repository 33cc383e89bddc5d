/- ZoneOnce holds: a frame that was taken is not taken again before it was given back. -/
import Derived.Test.YtphccdfdknihdaaZo1
import Derived.StillTailTactics
namespace Go.Proofs.Ytphccdfdknihdaa
open Go.ChangeShapes Go.WideShapes Go.ChangeAt Go.RowKit Go.Mine

/-- Where the zones lie: apart from the tape and from the frames taken. -/
def pO (b : Nat) (r : Value) (x : Nat) : Prop := x ≠ b ∧ r.ownBlock ≠ some x
set_option maxRecDepth 100000 in
set_option maxHeartbeats 16000000 in
theorem zonc_core (A : Option Addr) (c : Nat) (xs : List Int) (w : World) (hr : IntRow w A xs) (hm : xs.length ≤ maxLen) :
    Calls Try.prog 5 #[.slice A xs.length c] w (RetG (.bool true) w) := by
  have tp := Tp.made hr hm c 25
  have gA := (Grew.refl w).alloc (.cells #[.slice A xs.length c, .int .i64 0] 25)
  clear hr hm
  generalize hX : xs.length = X at *
  clear hX
  go_enter Try.func5, Try.ntmps5
  go_wp2_with fail
  with_reducible refine (next_x _ _ _ _ (by omega) (by omega) tp).mono ?_
  rintro e w1 ⟨s, s0, s1, rfl, tp1, g1⟩
  have gA1 := gA.past g1 (Nat.le_refl _)
  clear tp gA g1
  go_wp2_with fail
  with_reducible refine (next_x _ _ _ _ (by omega) (by omega) tp1).mono ?_
  rintro e w2 ⟨t, t0, t1, rfl, tp2, g2⟩
  have gA2 := gA1.past g2 (Nat.le_refl _)
  clear tp1 gA1 g2
  have R0 : RowE 3 1 enc1 (w2.alloc (.cells #[.int .i64 (1 + s), .int .i64 (1 + t)] 3)) w2.heap.size (.slice (some ⟨w2.heap.size, 0, none⟩) 2 2) [1 + s, 1 + t] := RowE.lit w2 _ rfl rfl (show 2 ≤ maxLen by decide) (Nat.le_refl _)
  obtain ⟨a1, c1, e, hr, -⟩ := R0.rdI
  injection e with e1 e2 e3
  subst e1 e3
  have HR0 : Hid (RdI (w2.alloc (.cells #[.int .i64 (1 + s), .int .i64 (1 + t)] 3)) (fun g => w2.heap.size ≤ g) (some ⟨w2.heap.size, 0, none⟩) 2 [1 + s, 1 + t]) := Lib.hid hr
  have HGA := Lib.hid (gA2.alloc (.cells #[.int .i64 (1 + s), .int .i64 (1 + t)] 3))
  have HTP := Lib.hid (tp2.alloc (.cells #[.int .i64 (1 + s), .int .i64 (1 + t)] 3))
  have hs8 : ([1 + s, 1 + t] : List Int).length ≤ 1000 := by simp
  have hX : newX [1 + s, 1 + t] = ([mkZ 1 (1 + s), mkZ (1 + (1 + s)) (1 + t)], 0) := by
    have e : newG 1 [1 + s, 1 + t] = some [mkZ 1 (1 + s), mkZ (1 + (1 + s)) (1 + t)] := by
      unfold newG newG newG
      rw [if_pos ⟨by omega, by omega⟩, if_pos ⟨by omega, by omega⟩]
      rfl
    unfold newX
    rw [e]
  have HNW := Lib.hid hX
  have hst := OnceZ.start (s := 1 + s) (t := 1 + t) (by omega) (by omega) (by omega)
  have hPl : ((frees [mkZ 1 (1 + s), mkZ (1 + (1 + s)) (1 + t)]).length : Int) = (1 + s) + (1 + t) := by
    have := hst.2.2.1
    rw [this]
    show (1 + s) + ((1 + t) + 0) = _
    omega
  clear R0 hr e2 gA2 tp2 hX
  go_wp2_with fail
  with_reducible refine (new_p HR0.out hs8).mono ?_
  intro e w3 h
  obtain ⟨v3, rfl, Z3, G3⟩ := h.split HNW.out
  have htl := HTP.out.lt
  have HT3 := Lib.hid (HTP.out.grew G3)
  have HG3 := Lib.hid (HGA.out.trans G3)
  have HZ3 : Hid (ZsR w3 (pO w.heap.size (.slice none 0 0)) v3 [mkZ 1 (1 + s), mkZ (1 + (1 + s)) (1 + t)]) := Lib.hid (Z3.mono fun g h _ => ⟨fun e => by
    rcases h with h | h
    · exact h
    · omega, fun e => by cases e⟩)
  clear h Z3 G3 HNW HR0 HTP HGA
  have q1 : 1 ≤ 1 + s ∧ 1 + s ≤ 6 := by omega
  have q2 : 1 ≤ 1 + t ∧ 1 + t ≤ 6 := by omega
  obtain ⟨z1, hz1⟩ : ∃ z, 1 + s = z := ⟨_, rfl⟩
  obtain ⟨z2, hz2⟩ : ∃ z, 1 + t = z := ⟨_, rfl⟩
  rw [hz1, hz2] at hst hPl
  rw [hz1] at HZ3 q1
  rw [hz2] at HZ3 q2
  obtain ⟨a3, c3, rfl⟩ := HZ3.out.slice
  obtain ⟨g, b1, d1, rfl, -, hg, -, x1, -⟩ := HZ3.out.at_ (k := 0) (by simp)
  obtain ⟨g', b2, d2, e', -, -, -, y1, -⟩ := HZ3.out.at_ (k := 1) (by simp)
  injection e' with e'
  injection e' with e'
  subst e'
  have x1' : w3.cell? ⟨g, 1, none⟩ = some (.int .i64 z1) := x1
  have y1' : w3.cell? ⟨g, 7, none⟩ = some (.int .i64 z2) := y1
  have HON := Lib.hid hst
  have HPL := Lib.hid hPl
  have HZ3' : Hid (ZsR w3 (pO w.heap.size (.slice none 0 0)) (.slice (some ⟨g, 0, none⟩) 2 c3) [mkZ 1 z1, mkZ (1 + z1) z2]) := Lib.hid HZ3.out
  have HL0 : Hid ([mkZ 1 z1, mkZ (1 + z1) z2].length = 2) := Lib.hid rfl
  simp only [List.length_cons, List.length_nil, Nat.zero_add, Nat.reduceAdd]
  clear x1 y1 hst hPl HZ3 hz1 hz2 s0 s1 t0 t1 hs8
  generalize frees [mkZ 1 z1, mkZ (1 + z1) z2] = P at *
  generalize [mkZ 1 z1, mkZ (1 + z1) z2] = L0 at *
  go_upto_region 5 with fail
  go_quiet (fail)
  revert nq; intro nq1
  have HZd := Lib.hid (HZ3'.out.grew ((Grew.refl w3).drewN nq1))
  have HGd := Lib.hid (HG3.out.drewN nq1)
  have HTd := Lib.hid (HT3.out.drewN nq1)
  clear x1' y1' hg HZ3' HG3 HT3
  go_wp2_with fail
  generalize World.drewN w3 nq1 = wd at *
  have hall : z1 + z2 ≤ 12 := by omega
  go_loopw [4, 7, 8] (fun xv tv nv wr => ∃ (n : Nat) (L : List Zo) (T : List Int) (a : Option Addr) (c : Nat) (r : Value), xv = .slice a 2 c ∧ r = tv ∧ nv = .int .i64 n ∧ n ≤ 30 ∧ T.length ≤ n ∧ Hid (L.length = 2) ∧ Hid (OnceZ P L T) ∧ ZsR wr (pO w.heap.size r) (.slice a 2 c) L ∧ TkR 3 wr (w.heap.size + 1) r T ∧ Tp (w.heap.size + 1) wr w.heap.size ∧ Grew w wr) (fun _ _ nv _ => 30 - (intOf nv).toNat)
  case atStart => exact ⟨0, L0, [], _, _, _, rfl, rfl, rfl, by omega, by simp, HL0, HON, HZd.out, .inl (RowE.nil _ _), HTd.out, HGd.out⟩
  case round =>
    clear HZd HTd HGd HL0 HON
    obtain ⟨n, L, T, a, c4, r, rfl, rfl, rfl, hn, hT, HL2, HON, Z, TK, tp, G⟩ := hrel
    obtain ⟨wo, rfl⟩ : ∃ wo : World, wo = wr := ⟨_, rfl⟩
    have HZ := Lib.hid Z
    have HTK := Lib.hid TK
    have HTP := Lib.hid tp
    have HG := Lib.hid G
    obtain ⟨a5, c5, rfl⟩ := TK.len
    obtain ⟨m, hm⟩ : ∃ m, T.length = m := ⟨_, rfl⟩
    have HM := Lib.hid hm
    rw [hm] at hT HTK HZ ⊢
    clear Z TK tp G hm
    by_cases hlt : n < 30
    · have hn1 : (n : Int) < 30 := by omega
      by_cases h0 : m = 0
      · subst h0
        have HZ1 := HZ
        have HTK1 := HTK
        have HTP1 := HTP
        have HG1 := HG
        have HSM := Lib.hid (ok_small (HON.out.ok (by rw [HL2.out]; omega)))
        have htl3 := HTP1.out.lt
        go_wp2_with fail
        with_reducible refine (take_p HZ1.out HSM.out).mono ?_
        intro e w6 h
        rcases HON.out.take_x HL2.out with ⟨hX, hTl⟩ | ⟨L', f, hX, hON', hfT, hTl, hL'⟩
        · exact (show False by have h1 := HPL.out; have h2 := HM.out; omega).elim
        · obtain ⟨v6, rfl, Z6, G6⟩ := h.split hX
          have hlr := HTK1.out.lt
          have HZ6 : Hid (ZsR w6 (pO w.heap.size (.slice a5 0 c5)) v6 L') := Lib.hid (Z6.mono fun g h _ => by
            rcases h with h | h
            · exact h
            · exact ⟨by omega, fun e => by have := hlr g e; omega⟩)
          have HTK6 := Lib.hid (HTK1.out.grew G6)
          have HTP6 := Lib.hid (HTP1.out.grew G6)
          have HG6 := Lib.hid (HG1.out.trans G6)
          have hlt2 : (0 : Int) < z1 + z2 := by have h1 := HPL.out; have h2 := HM.out; omega
          have HON' := Lib.hid hON'
          have HFT := Lib.hid hfT
          have HL' := Lib.hid hL'
          obtain ⟨a6, c6, rfl⟩ := HZ6.out.slice
          rw [HL'.out] at HZ6 ⊢
          clear h Z6 G6 hX hTl hON' hfT hL' HZ1 HTK1 HTP1 HG1 hlr
          go_wp2_with fail
          go_loopw [15] (fun iv wr => iv = .int .i64 0 ∧ w6 = wr) (fun iv _ => 0)
          case atStart => exact ⟨rfl, rfl⟩
          case round =>
            obtain ⟨rfl, rfl⟩ := hrel
            have hx6 : T.length < 1000000 := by rw [HM.out]; omega
            have hl9 := HTK6.out.lt
            have h62 := HTP6.out.lt
            have HT1 : Hid (T.length = 0) := HM
            rcases HTK6.out with hrow | ⟨gf, ef, hBf, hgf, hcf⟩
            · have HROW := Lib.hid hrow
              have hz6 : ∀ o, w.heap.size + 1 ≤ (World.alloc w6 o).heap.size := fun o => by simp; omega
              clear hrow
              go_upto_region 27 with (at_builtin; go_loud (
                refine wpList_append_row _ rfl _ _ 22 rfl (w.heap.size + 1) info_int Try.underlying22 (by decide) (by decide) enc1_len _ T rfl (HROW.out.alloc _) _ _ f rfl (Own.new _ _ _) enc1_one hx6 (by decide) (hz6 _) ?_
                intro g9 cap9 w9 R9 G9 o9))
              have HR9 := Lib.hid (show TkR _ _ _ _ _ from .inl R9)
              have HT9 := Lib.hid (Tp.keptA (B := w.heap.size + 1) (HTP6.out.alloc (.cells #[.int .i64 f] 3)) G9 (fun x e => HROW.out.above x e) (Nat.le_refl _))
              have HG9 := Lib.hid (Grew.keptA (B := w.heap.size + 1) (HG6.out.alloc (.cells #[.int .i64 f] 3)) G9 (fun x e => HROW.out.above x e) (Nat.le_succ _))
              have HZ9 : Hid (ZsR w9 (pO w.heap.size (.slice (some ⟨g9, 0, none⟩) (T.length + 1) cap9)) (.slice a6 2 c6) L') := Lib.hid (HZ6.out.keep (Nat.le_trans (by simp) G9.size) (fun x h1 h2 => ⟨h1.1, fun e => by
                have e2 : g9 = x := Option.some.inj e
                rcases o9 with o9 | o9
                · exact h1.2 (by rw [← e2]; exact o9)
                · simp at o9; omega⟩) fun x h1 h2 => (G9.block x (by simp; omega) h1.2.symm).trans (Below.heap_alloc _ _ x h2))
              clear G9 R9 o9
              rw [HM.out] at HR9 HZ9 ⊢
              have HSM9 := Lib.hid (ok_small (HON'.out.ok (by rw [HL'.out]; omega)))
              have HOK9 := Lib.hid (HON'.out.ok (by rw [HL'.out]; omega))
              obtain ⟨fr, hfr⟩ : ∃ fr, freX L' = fr := ⟨_, rfl⟩
              have hfs : fr = z1 + z2 - 0 - 1 := by
                rw [← hfr]
                unfold freX
                rw [HOK9.out, if_pos rfl, sum_frees]
                have h1 := HON'.out.len
                have h2 := HON'.out.2.2.1
                rw [List.length_append, List.length_singleton, HM.out] at h1
                have h3 := HPL.out
                omega
              have HFR := Lib.hid hfr
              have hfs1 : fr + 1 = z1 + z2 := by omega
              have hfs2 : 0 ≤ fr ∧ fr ≤ 12 := by omega
              clear hfr hfs
              have HLT : Hid ((T ++ [f]).length = 0 + 1) := Lib.hid (by rw [List.length_append, List.length_singleton, HM.out])
              go_wp2_with fail
              with_reducible refine (free_p HZ9.out HSM9.out HFR.out).mono ?_
              rintro e w10 ⟨rfl, g10⟩
              have HZ10 := Lib.hid (HZ9.out.grew g10)
              have HR10 := Lib.hid (HR9.out.grew g10)
              have HT10 := Lib.hid (HT9.out.grew g10)
              have HG10 := Lib.hid (HG9.out.trans g10)
              clear g10
              go_wp2_with fail
              with_reducible refine (check_p HZ10.out HSM9.out HOK9.out).mono ?_
              rintro e w11 ⟨rfl, g11⟩
              have HZ11 := Lib.hid (HZ10.out.grew g11)
              have HR11 := Lib.hid (HR10.out.grew g11)
              have HT11 := Lib.hid (HT10.out.grew g11)
              have HG11 := Lib.hid (HG10.out.trans g11)
              clear g11
              go_wp2_with fail
              go_roundw
              case rel => exact ⟨n + 1, L', T ++ [f], _, _, _, rfl, rfl, by go_num, by omega, by rw [HLT.out]; omega, HL', HON', HZ11.out, HR11.out, HT11.out, HG11.out⟩
              case measure => simp [intOf] <;> omega
            · have HCF := Lib.hid hcf
              have hold : ∀ (b : Addr), some (⟨gf, 0, none⟩ : Addr) = some b → ∀ j u, (T.flatMap enc1)[j]? = some u → (World.alloc w6 (.cells #[.int .i64 f] 3)).cell? (b.add j) = some u := fun b e j u hj => by
                injection e with e
                subst e
                rw [fmI, List.getElem?_map] at hj
                obtain ⟨y, hy, rfl⟩ := Option.map_eq_some_iff.1 hj
                have hl := (List.getElem?_eq_some_iff.1 hy).1
                rw [Addr.add_lit, Nat.zero_add]
                refine (World.cell?_of_block (a := ⟨gf, j, none⟩) (Below.heap_alloc _ _ gf hgf)).trans ?_
                rw [HCF.out j hl, List.getD, hy]
                rfl
              have HOLD := Lib.hid hold
              rw [HM.out] at ef
              injection ef with ef1 ef2 ef3
              subst ef1
              have ef4 := ef3.symm
              subst ef4
              clear hcf hold
              go_upto_region 27 with (at_builtin; go_loud (
                refine wpList_append_new _ rfl _ _ 22 rfl info_int Try.underlying22 (by decide) (by decide) enc1_len (some ⟨gf, 0, none⟩) 0 T rfl HM.out (fun e => by cases e) HOLD.out _ _ f rfl (Own.new _ _ _) enc1_one (by omega) (by decide) ?_
                intro g9 cap9 w9 R9 G9))
              have g9' : Grew (World.alloc w6 (.cells #[.int .i64 f] 3)) w9 := below_of_grown G9
              have HR9 := Lib.hid (show TkR _ _ _ _ _ from .inl (R9.wider (C := w.heap.size + 1) (by simp; omega)))
              have HT9 := Lib.hid ((HTP6.out.alloc (.cells #[.int .i64 f] 3)).grew g9')
              have HG9 := Lib.hid ((HG6.out.alloc (.cells #[.int .i64 f] 3)).trans g9')
              have hab := R9.above
              have HZ9 : Hid (ZsR w9 (pO w.heap.size (.slice (some ⟨g9, 0, none⟩) (0 + 1) cap9)) (.slice a6 2 c6) L') := Lib.hid (HZ6.out.keep (Nat.le_trans (by simp) g9'.size) (fun x h1 h2 => ⟨h1.1, fun e => by
                have := hab x e
                simp at this
                omega⟩) fun x h1 h2 => (Below.block g9' x (by simp; omega)).trans (Below.heap_alloc _ _ x h2))
              clear G9 R9 g9' hab
              have HSM9 := Lib.hid (ok_small (HON'.out.ok (by rw [HL'.out]; omega)))
              have HOK9 := Lib.hid (HON'.out.ok (by rw [HL'.out]; omega))
              obtain ⟨fr, hfr⟩ : ∃ fr, freX L' = fr := ⟨_, rfl⟩
              have hfs : fr = z1 + z2 - 0 - 1 := by
                rw [← hfr]
                unfold freX
                rw [HOK9.out, if_pos rfl, sum_frees]
                have h1 := HON'.out.len
                have h2 := HON'.out.2.2.1
                rw [List.length_append, List.length_singleton, HM.out] at h1
                have h3 := HPL.out
                omega
              have HFR := Lib.hid hfr
              have hfs1 : fr + 1 = z1 + z2 := by omega
              have hfs2 : 0 ≤ fr ∧ fr ≤ 12 := by omega
              clear hfr hfs
              have HLT : Hid ((T ++ [f]).length = 0 + 1) := Lib.hid (by rw [List.length_append, List.length_singleton, HM.out])
              go_wp2_with fail
              with_reducible refine (free_p HZ9.out HSM9.out HFR.out).mono ?_
              rintro e w10 ⟨rfl, g10⟩
              have HZ10 := Lib.hid (HZ9.out.grew g10)
              have HR10 := Lib.hid (HR9.out.grew g10)
              have HT10 := Lib.hid (HT9.out.grew g10)
              have HG10 := Lib.hid (HG9.out.trans g10)
              clear g10
              go_wp2_with fail
              with_reducible refine (check_p HZ10.out HSM9.out HOK9.out).mono ?_
              rintro e w11 ⟨rfl, g11⟩
              have HZ11 := Lib.hid (HZ10.out.grew g11)
              have HR11 := Lib.hid (HR10.out.grew g11)
              have HT11 := Lib.hid (HT10.out.grew g11)
              have HG11 := Lib.hid (HG10.out.trans g11)
              clear g11
              go_wp2_with fail
              go_roundw
              case rel => exact ⟨n + 1, L', T ++ [f], _, _, _, rfl, rfl, by go_num, by omega, by rw [HLT.out]; omega, HL', HON', HZ11.out, HR11.out, HT11.out, HG11.out⟩
              case measure => simp [intOf] <;> omega
      · have hm0 : (0 : Int) < (m : Int) := by omega
        have hm00 : 0 < m := by omega
        go_wp2_with fail
        with_reducible refine (next_x _ _ _ _ (by omega) (by omega) HTP.out).mono ?_
        rintro e w5 ⟨q, q0, q1', rfl, t5, g5⟩
        have htl2 := HTP.out.lt
        have HZ1 : Hid (ZsR w5 (pO w.heap.size (.slice a5 m c5)) (.slice a 2 c4) L) := Lib.hid (past_r HZ.out g5 (fun x hx _ => hx.1))
        have HTK1 : Hid (TkR 3 w5 (w.heap.size + 1) (.slice a5 m c5) T) := Lib.hid (HTK.out.past g5 (Nat.lt_succ_self _))
        have HTP1 := Lib.hid t5
        have HG1 := Lib.hid (HG.out.past g5 (Nat.le_refl _))
        clear t5 g5 HZ HTK HTP HG
        by_cases hq : q = 0
        · subst hq
          go_wp2_with fail
          with_reducible refine (next_x _ _ _ _ (by omega) (by omega) HTP1.out).mono ?_
          rintro e w6 ⟨p, p0, p1, rfl, t6, g6⟩
          obtain ⟨p, rfl⟩ := Int.eq_ofNat_of_zero_le p0
          have HZ6 : Hid (ZsR w6 (pO w.heap.size (.slice a5 m c5)) (.slice a 2 c4) L) := Lib.hid (past_r HZ1.out g6 (fun x hx _ => hx.1))
          have HTK6 : Hid (TkR 3 w6 (w.heap.size + 1) (.slice a5 m c5) T) := Lib.hid (HTK1.out.past g6 (Nat.lt_succ_self _))
          have HTP6 := Lib.hid t6
          have HG6 := Lib.hid (HG1.out.past g6 (Nat.le_refl _))
          have hpm : p < m := by omega
          have hpm1 : (p : Int) < (m : Int) := by omega
          have hp0 : (0 : Int) ≤ (p : Int) := by omega
          obtain ⟨gt, ct, e9, hBt, hgt, hct, hcl⟩ := HTK6.out.read (by rw [HM.out]; omega)
          rw [HM.out] at e9 hct
          injection e9 with e91 e92 e93
          subst e91 e93
          have hce := hcl p (by rw [HM.out]; exact hpm)
          obtain ⟨L', hX, hON', hL'⟩ := HON.out.give_x (k := p) (by rw [HL2.out]; omega) (by rw [HM.out]; exact hpm)
          have HX := Lib.hid hX
          have HON' := Lib.hid hON'
          have HL' : Hid (L'.length = 2) := Lib.hid (hL'.trans HL2.out)
          have HSM := Lib.hid (ok_small (HON.out.ok (by rw [HL2.out]; omega)))
          have HCL := Lib.hid hcl
          have hlr := HTK6.out.lt
          have htl3 := HTP6.out.lt
          clear t6 g6 hX hON' hL' hcl HZ1 HTK1 HTP1 HG1 p0 p1
          go_wp2_with fail
          with_reducible refine (give_p HZ6.out HSM.out).mono ?_
          intro e w7 h
          obtain ⟨v7, rfl, Z7, G7⟩ := h.split HX.out
          have HZ7 : Hid (ZsR w7 (pO w.heap.size (.slice (some ⟨gt, 0, none⟩) m c5)) v7 L') := Lib.hid (Z7.mono fun g h _ => by
            rcases h with h | h
            · exact h
            · exact ⟨by omega, fun e => by have := hlr g e; omega⟩)
          have HTP7 := Lib.hid (HTP6.out.grew G7)
          have HG7 := Lib.hid (HG6.out.trans G7)
          have HCL7 : Hid (∀ k, k < T.length → w7.cell? ⟨gt, k, none⟩ = some (.int .i64 (T.getD k 0))) := Lib.hid fun k hk => (G7.cells.1 gt k hgt).trans (HCL.out k hk)
          have hgt7 : gt < w7.heap.size := Nat.lt_of_lt_of_le hgt G7.size
          have htl7 := HTP7.out.lt
          obtain ⟨a7, c7, rfl⟩ := HZ7.out.slice
          rw [HL'.out] at HZ7 ⊢
          clear h Z7 G7 HX hce HZ6 HTP6 HG6 hlr HCL
          go_upto_region 16 with fail
          have b1 : IntKind.i64.wrap ((p : Int) + 1) = (p : Int) + 1 := by rw [IntKind.wrap_i64]; omega
          have b2 : ((p : Int) + 1).toNat = p + 1 := by omega
          have b3 : (0 : Int) ≤ (p : Int) + 1 := by omega
          have b4 : (p : Int) + 1 ≤ (m : Int) := by omega
          have b5 : (p : Int) ≤ (c5 : Int) := by omega
          have b6 : (p : Int) ≤ (m : Int) := by omega
          have HLE : Hid ((T.eraseIdx p).length = m - 1) := Lib.hid (by rw [List.length_eraseIdx, if_pos (by rw [HM.out]; exact hpm), HM.out])
          by_cases hlast : p + 1 = m
          · have b7 : m - (p + 1) = 0 := by omega
            have HER : Hid (T.eraseIdx p = T.take p) := Lib.hid (by rw [erase_list, List.drop_of_length_le (by rw [HM.out]; omega), List.append_nil])
            have HFU : Hid (TkR 3 w7.drew (w.heap.size + 1) (.slice (some ⟨gt, 0, none⟩) p p) (T.eraseIdx p)) := Lib.hid (.inr ⟨gt, by rw [HLE.out, show m - 1 = p by omega], hBt, hgt7, fun k hk => by
              rw [HLE.out] at hk
              rw [HER.out]
              refine (HCL7.out k (by rw [HM.out]; omega)).trans ?_
              rw [List.getD, List.getD, List.getElem?_take_of_lt (by omega)]⟩)
            have HZd : Hid (ZsR w7.drew (pO w.heap.size (.slice (some ⟨gt, 0, none⟩) p p)) (.slice a7 2 c7) L') := Lib.hid (HZ7.out.keep (Nat.le_refl _) (fun x h _ => h) fun _ _ _ => rfl)
            have HTd := Lib.hid HTP7.out.drew
            have HGd := Lib.hid HG7.out.drew
            go_still_tail 8, (by kernel_rfl)
            change wpList _ _ _ _ _ w7.drew
            refine wpList_append_none _ rfl (.tmp 77) (.tmp 81) rfl _ _ _ (Nat.le_refl _) rfl _ _ rfl ?_
            go_wp2_with fail
            go_roundw
            case rel => exact ⟨n + 1, L', T.eraseIdx p, _, _, _, rfl, rfl, by go_num, by omega, by rw [HLE.out]; omega, HL', HON', HZd.out, HFU.out, HTd.out, HGd.out⟩
            case measure => simp [intOf] <;> omega
          · have b7 : ¬c5 = p + 1 := by omega
            have hl30 : m ≤ 300 := by omega
            have hp1 : p + 1 < m := by omega
            have HCd : Hid (∀ k, k < T.length → w7.drew.cell? ⟨gt, k, none⟩ = some (.int .i64 (T.getD k 0))) := Lib.hid HCL7.out
            go_still_tail 8, (by kernel_rfl)
            change wpList _ _ _ _ _ w7.drew
            refine wpList_cutI _ rfl (.tmp 77) (.tmp 81) rfl HCd.out p m HM.out.symm hp1 hl30 rfl rfl ?_
            intro v9 w9 R9 G9
            obtain ⟨a9, c9, rfl⟩ := R9.len
            have hab := R9.above
            have HR9 := Lib.hid (show TkR _ _ _ _ _ from .inl (R9.wider (C := w.heap.size + 1) (show w.heap.size + 1 ≤ w7.heap.size by omega)))
            have HZ9 : Hid (ZsR w9 (pO w.heap.size (.slice a9 (T.eraseIdx p).length c9)) (.slice a7 2 c7) L') := Lib.hid (HZ7.out.keep G9.size (fun x h1 h2 => ⟨h1.1, fun e => by
              have : w7.heap.size ≤ x := hab x e
              omega⟩) fun x h1 h2 => Below.block G9 x h2)
            have HT9 := Lib.hid (HTP7.out.drew.grew G9)
            have HG9 := Lib.hid (HG7.out.drew.trans G9)
            rw [HLE.out] at HR9 HZ9 ⊢
            clear R9 G9 hab
            go_wp2_with fail
            go_roundw
            case rel => exact ⟨n + 1, L', T.eraseIdx p, _, _, _, rfl, rfl, by go_num, by omega, by rw [HLE.out]; omega, HL', HON', HZ9.out, HR9.out, HT9.out, HG9.out⟩
            case measure => simp [intOf] <;> omega
        · have hq' : (q == 0) = false := by simpa using hq
          have HSM := Lib.hid (ok_small (HON.out.ok (by rw [HL2.out]; omega)))
          have htl3 := HTP1.out.lt
          go_wp2_with fail
          with_reducible refine (take_p HZ1.out HSM.out).mono ?_
          intro e w6 h
          rcases HON.out.take_x HL2.out with ⟨hX, hTl⟩ | ⟨L', f, hX, hON', hfT, hTl, hL'⟩
          · obtain ⟨v6, rfl, -, G6⟩ := h.split hX
            have HZ6 := Lib.hid (HZ1.out.grew G6)
            have HTK6 := Lib.hid (HTK1.out.grew G6)
            have HTP6 := Lib.hid (HTP1.out.grew G6)
            have HG6 := Lib.hid (HG1.out.trans G6)
            have hne : ¬((m : Int) : Int) < z1 + z2 := by have h1 := HPL.out; have h2 := HM.out; omega
            clear h G6 hX hTl
            go_wp2_with fail
            go_roundw
            case rel => exact ⟨n + 1, L, T, _, _, _, rfl, rfl, by go_num, by omega, by have := HM.out; omega, HL2, HON, HZ6.out, HTK6.out, HTP6.out, HG6.out⟩
            case measure => simp [intOf] <;> omega
          · obtain ⟨v6, rfl, Z6, G6⟩ := h.split hX
            have hlr := HTK1.out.lt
            have HZ6 : Hid (ZsR w6 (pO w.heap.size (.slice a5 m c5)) v6 L') := Lib.hid (Z6.mono fun g h _ => by
              rcases h with h | h
              · exact h
              · exact ⟨by omega, fun e => by have := hlr g e; omega⟩)
            have HTK6 := Lib.hid (HTK1.out.grew G6)
            have HTP6 := Lib.hid (HTP1.out.grew G6)
            have HG6 := Lib.hid (HG1.out.trans G6)
            have hlt2 : ((m : Int) : Int) < z1 + z2 := by have h1 := HPL.out; have h2 := HM.out; omega
            have HON' := Lib.hid hON'
            have HFT := Lib.hid hfT
            have HL' := Lib.hid hL'
            obtain ⟨a6, c6, rfl⟩ := HZ6.out.slice
            rw [HL'.out] at HZ6 ⊢
            clear h Z6 G6 hX hTl hON' hfT hL' HZ1 HTK1 HTP1 HG1 hlr
            go_wp2_with fail
            go_loopw [15] (fun iv wr => ∃ i : Nat, iv = .int .i64 i ∧ i ≤ m ∧ w6 = wr) (fun iv _ => m - (intOf iv).toNat)
            case atStart => exact ⟨0, rfl, by omega, rfl⟩
            case round =>
              obtain ⟨i, rfl, hi, rfl⟩ := hrel
              by_cases him : i < m
              · obtain ⟨gt, ct, e9, -, hgt, hct, hcl⟩ := HTK6.out.read (by rw [HM.out]; omega)
                injection e9 with e91 e92 e93
                subst e91
                have hce := hcl i (by rw [HM.out]; exact him)
                have hnf : ¬T.getD i 0 = f := fun e => HFT.out (by rw [← e, getD_get (by rw [HM.out]; exact him)]; exact List.getElem_mem _)
                have hnf2 : (T.getD i 0 == f) = false := by simpa using hnf
                have i0 : (0 : Int) ≤ (i : Int) := by omega
                have i1 : (i : Int) < (m : Int) := by omega
                clear hcl hnf
                generalize T.getD i 0 = y at *
                go_wp2_with fail
                go_roundw
                case rel => exact ⟨i + 1, by go_num, by omega, by first | rfl | trivial⟩
                case measure => simp [intOf] <;> omega
              · skip
                have hx6 : T.length < 1000000 := by rw [HM.out]; omega
                have hl9 := HTK6.out.lt
                have h62 := HTP6.out.lt
                have HT1 : Hid (T.length = m) := HM
                rcases HTK6.out with hrow | ⟨gf, ef, hBf, hgf, hcf⟩
                · have HROW := Lib.hid hrow
                  have hz6 : ∀ o, w.heap.size + 1 ≤ (World.alloc w6 o).heap.size := fun o => by simp; omega
                  clear hrow
                  go_upto_region 27 with (at_builtin; go_loud (
                    refine wpList_append_row _ rfl _ _ 22 rfl (w.heap.size + 1) info_int Try.underlying22 (by decide) (by decide) enc1_len _ T rfl (HROW.out.alloc _) _ _ f rfl (Own.new _ _ _) enc1_one hx6 (by decide) (hz6 _) ?_
                    intro g9 cap9 w9 R9 G9 o9))
                  have HR9 := Lib.hid (show TkR _ _ _ _ _ from .inl R9)
                  have HT9 := Lib.hid (Tp.keptA (B := w.heap.size + 1) (HTP6.out.alloc (.cells #[.int .i64 f] 3)) G9 (fun x e => HROW.out.above x e) (Nat.le_refl _))
                  have HG9 := Lib.hid (Grew.keptA (B := w.heap.size + 1) (HG6.out.alloc (.cells #[.int .i64 f] 3)) G9 (fun x e => HROW.out.above x e) (Nat.le_succ _))
                  have HZ9 : Hid (ZsR w9 (pO w.heap.size (.slice (some ⟨g9, 0, none⟩) (T.length + 1) cap9)) (.slice a6 2 c6) L') := Lib.hid (HZ6.out.keep (Nat.le_trans (by simp) G9.size) (fun x h1 h2 => ⟨h1.1, fun e => by
                    have e2 : g9 = x := Option.some.inj e
                    rcases o9 with o9 | o9
                    · exact h1.2 (by rw [← e2]; exact o9)
                    · simp at o9; omega⟩) fun x h1 h2 => (G9.block x (by simp; omega) h1.2.symm).trans (Below.heap_alloc _ _ x h2))
                  clear G9 R9 o9
                  rw [HM.out] at HR9 HZ9 ⊢
                  have HSM9 := Lib.hid (ok_small (HON'.out.ok (by rw [HL'.out]; omega)))
                  have HOK9 := Lib.hid (HON'.out.ok (by rw [HL'.out]; omega))
                  obtain ⟨fr, hfr⟩ : ∃ fr, freX L' = fr := ⟨_, rfl⟩
                  have hfs : fr = z1 + z2 - (m : Int) - 1 := by
                    rw [← hfr]
                    unfold freX
                    rw [HOK9.out, if_pos rfl, sum_frees]
                    have h1 := HON'.out.len
                    have h2 := HON'.out.2.2.1
                    rw [List.length_append, List.length_singleton, HM.out] at h1
                    have h3 := HPL.out
                    omega
                  have HFR := Lib.hid hfr
                  have hfs1 : fr + ((m : Int) + 1) = z1 + z2 := by omega
                  have hfs2 : 0 ≤ fr ∧ fr ≤ 12 := by omega
                  clear hfr hfs
                  have HLT : Hid ((T ++ [f]).length = m + 1) := Lib.hid (by rw [List.length_append, List.length_singleton, HM.out])
                  go_wp2_with fail
                  with_reducible refine (free_p HZ9.out HSM9.out HFR.out).mono ?_
                  rintro e w10 ⟨rfl, g10⟩
                  have HZ10 := Lib.hid (HZ9.out.grew g10)
                  have HR10 := Lib.hid (HR9.out.grew g10)
                  have HT10 := Lib.hid (HT9.out.grew g10)
                  have HG10 := Lib.hid (HG9.out.trans g10)
                  clear g10
                  go_wp2_with fail
                  with_reducible refine (check_p HZ10.out HSM9.out HOK9.out).mono ?_
                  rintro e w11 ⟨rfl, g11⟩
                  have HZ11 := Lib.hid (HZ10.out.grew g11)
                  have HR11 := Lib.hid (HR10.out.grew g11)
                  have HT11 := Lib.hid (HT10.out.grew g11)
                  have HG11 := Lib.hid (HG10.out.trans g11)
                  clear g11
                  go_wp2_with fail
                  go_roundw
                  case rel => exact ⟨n + 1, L', T ++ [f], _, _, _, rfl, rfl, by go_num, by omega, by rw [HLT.out]; omega, HL', HON', HZ11.out, HR11.out, HT11.out, HG11.out⟩
                  case measure => simp [intOf] <;> omega
                · have HCF := Lib.hid hcf
                  have hold : ∀ (b : Addr), some (⟨gf, 0, none⟩ : Addr) = some b → ∀ j u, (T.flatMap enc1)[j]? = some u → (World.alloc w6 (.cells #[.int .i64 f] 3)).cell? (b.add j) = some u := fun b e j u hj => by
                    injection e with e
                    subst e
                    rw [fmI, List.getElem?_map] at hj
                    obtain ⟨y, hy, rfl⟩ := Option.map_eq_some_iff.1 hj
                    have hl := (List.getElem?_eq_some_iff.1 hy).1
                    rw [Addr.add_lit, Nat.zero_add]
                    refine (World.cell?_of_block (a := ⟨gf, j, none⟩) (Below.heap_alloc _ _ gf hgf)).trans ?_
                    rw [HCF.out j hl, List.getD, hy]
                    rfl
                  have HOLD := Lib.hid hold
                  rw [HM.out] at ef
                  injection ef with ef1 ef2 ef3
                  subst ef1
                  have ef4 := ef3.symm
                  subst ef4
                  clear hcf hold
                  go_upto_region 27 with (at_builtin; go_loud (
                    refine wpList_append_new _ rfl _ _ 22 rfl info_int Try.underlying22 (by decide) (by decide) enc1_len (some ⟨gf, 0, none⟩) m T rfl HM.out (fun e => by cases e) HOLD.out _ _ f rfl (Own.new _ _ _) enc1_one (by omega) (by decide) ?_
                    intro g9 cap9 w9 R9 G9))
                  have g9' : Grew (World.alloc w6 (.cells #[.int .i64 f] 3)) w9 := below_of_grown G9
                  have HR9 := Lib.hid (show TkR _ _ _ _ _ from .inl (R9.wider (C := w.heap.size + 1) (by simp; omega)))
                  have HT9 := Lib.hid ((HTP6.out.alloc (.cells #[.int .i64 f] 3)).grew g9')
                  have HG9 := Lib.hid ((HG6.out.alloc (.cells #[.int .i64 f] 3)).trans g9')
                  have hab := R9.above
                  have HZ9 : Hid (ZsR w9 (pO w.heap.size (.slice (some ⟨g9, 0, none⟩) (m + 1) cap9)) (.slice a6 2 c6) L') := Lib.hid (HZ6.out.keep (Nat.le_trans (by simp) g9'.size) (fun x h1 h2 => ⟨h1.1, fun e => by
                    have := hab x e
                    simp at this
                    omega⟩) fun x h1 h2 => (Below.block g9' x (by simp; omega)).trans (Below.heap_alloc _ _ x h2))
                  clear G9 R9 g9' hab
                  have HSM9 := Lib.hid (ok_small (HON'.out.ok (by rw [HL'.out]; omega)))
                  have HOK9 := Lib.hid (HON'.out.ok (by rw [HL'.out]; omega))
                  obtain ⟨fr, hfr⟩ : ∃ fr, freX L' = fr := ⟨_, rfl⟩
                  have hfs : fr = z1 + z2 - (m : Int) - 1 := by
                    rw [← hfr]
                    unfold freX
                    rw [HOK9.out, if_pos rfl, sum_frees]
                    have h1 := HON'.out.len
                    have h2 := HON'.out.2.2.1
                    rw [List.length_append, List.length_singleton, HM.out] at h1
                    have h3 := HPL.out
                    omega
                  have HFR := Lib.hid hfr
                  have hfs1 : fr + ((m : Int) + 1) = z1 + z2 := by omega
                  have hfs2 : 0 ≤ fr ∧ fr ≤ 12 := by omega
                  clear hfr hfs
                  have HLT : Hid ((T ++ [f]).length = m + 1) := Lib.hid (by rw [List.length_append, List.length_singleton, HM.out])
                  go_wp2_with fail
                  with_reducible refine (free_p HZ9.out HSM9.out HFR.out).mono ?_
                  rintro e w10 ⟨rfl, g10⟩
                  have HZ10 := Lib.hid (HZ9.out.grew g10)
                  have HR10 := Lib.hid (HR9.out.grew g10)
                  have HT10 := Lib.hid (HT9.out.grew g10)
                  have HG10 := Lib.hid (HG9.out.trans g10)
                  clear g10
                  go_wp2_with fail
                  with_reducible refine (check_p HZ10.out HSM9.out HOK9.out).mono ?_
                  rintro e w11 ⟨rfl, g11⟩
                  have HZ11 := Lib.hid (HZ10.out.grew g11)
                  have HR11 := Lib.hid (HR10.out.grew g11)
                  have HT11 := Lib.hid (HT10.out.grew g11)
                  have HG11 := Lib.hid (HG10.out.trans g11)
                  clear g11
                  go_wp2_with fail
                  go_roundw
                  case rel => exact ⟨n + 1, L', T ++ [f], _, _, _, rfl, rfl, by go_num, by omega, by rw [HLT.out]; omega, HL', HON', HZ11.out, HR11.out, HT11.out, HG11.out⟩
                  case measure => simp [intOf] <;> omega
    · obtain rfl : n = 30 := by omega
      rw [show ((30 : Nat) : Int) = 30 from rfl]
      go_wp2_with fail
      with_reducible refine (awake_any _).mono ?_
      rintro e w7 ⟨rfl, g7⟩
      have HG7 := Lib.hid (HG.out.trans g7)
      clear g7
      go_wp2
      go_ret
      exact ⟨rfl, HG7.out⟩

theorem Try.own : ownKnob Try.prog.godebug = none := by kernel_rfl
theorem Try.laidOut : laidOutB Try.prog = true := by kernel_rfl

theorem zoneOnce_contract (W : World) (base : Nat) (args : Array Value) (H : Type) (enc : TypeId × Value → H) (ds : List (DataW H)) (p : List MemPlace)
    (hval : ∀ (j : Nat) t v, Try.f5.params[j]? = some t → args[j]? = some v → Value.okWide Try.prog W .any base t v)
    (hA : DataW.TrodAll enc Try.prog W 0 (fun _ => true) true Try.f5.params.toList args.toList ds p) :
    (∃ d0, ds = [d0]) ∧ Calls Try.prog 5 args W fun e W' => e = .returned (.bool true) ∧ Below W.heap.size W W' := by
  rw [Try.params5] at hval hA
  obtain ⟨v0, d0, p0, ha, hd, hp, h0⟩ := args_1 hA
  subst ha hd
  obtain ⟨A0, c0, xs0, rfl, hr0, hm0⟩ := open_introw Try.underlying22 Try.underlying3 (by kernel_rfl) (hval 0 _ _ rfl rfl) h0
  exact ⟨⟨_, rfl⟩, (zonc_core A0 c0 xs0 W hr0 hm0).mono fun _ _ h => h⟩

set_option maxRecDepth 100000 in
theorem zoneOnce_lifted (os : Os) (started : os.Started) (H : Type) (enc : TypeId × Value → H) :
    ReturnsInHanded {} Try.checked os 5 .any (Rows.zoneOnceSpec.pre6 enc Try.prog Try.f5 Rows.zoneOnceRow.domain false) (Rows.zoneOnceSpec.post enc Try.prog Try.f5 false true false false) := by
  refine returnsInHanded_of_change (C := Try.checked) Try.own started (by kernel_rfl) Try.func5
    (ChangeSpec.witness6 (enc := enc) (C := Try.checked) false ⟨#[], #[.slice none 0 0], []⟩ 8 (by kernel_rfl) (by kernel_rfl) (by kernel_rfl) (by kernel_rfl)) ?_
  intro W base args ds gs before hval hW _ _
  obtain ⟨p, q, hA, hV, hrest⟩ := id hW
  obtain ⟨⟨d0, rfl⟩, hc⟩ := zoneOnce_contract W base args H enc ds p hval hA
  obtain ⟨rfl, -⟩ := trodVars_none hV
  refine hc.mono fun e W' ⟨he, hb⟩ => ⟨_, he, ?_⟩
  exact law_close (tb := 4) Try.laidOut (by rw [Try.params5]; decide +kernel) Try.underlying4 rfl rfl hW rfl rfl rfl hb

theorem zoneOnce_holds : Rows.ZoneOnceSaid :=
  OpenClaim.holds_of_wide 5 Try.f5 rfl rfl rfl rfl rfl rfl rfl ⟨rfl, rfl, rfl, rfl, rfl⟩ rfl rfl rfl rfl rfl (by kernel_rfl) Try.func5 (by kernel_rfl)
    (of_decide_eq_true (by kernel_rfl)) (by unfold Func.isWrapper; first | (rw [if_pos (by decide +kernel)]; kernel_rfl) | (rw [if_neg (by decide +kernel)]; exact ⟨rfl, rfl⟩))
    (fun os started H enc _ => zoneOnce_lifted os started H enc)
end Go.Proofs.Ytphccdfdknihdaa
