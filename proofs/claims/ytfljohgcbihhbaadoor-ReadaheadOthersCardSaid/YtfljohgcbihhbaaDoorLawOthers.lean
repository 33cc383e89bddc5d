/- ReadaheadOthers holds: streams that are not sure have no pages read ahead, and those of backward and strided ones are what they predict. -/
import Derived.Test.YtfljohgcbihhbaaDoorRa10
import Derived.Test.YtfljohgcbihhbaaDoorStU
import Derived.Deep.RegionHeld3
import Derived.Test.YtfljohgcbihhbaaDoorCards
import Derived.Test.YtfljohgcbihhbaaDoorTie
import Derived.ProofKit
import Derived.OpenShut
import Derived.SevenTiedAt
import Derived.Stop.Joined
namespace Go.Proofs.YtfljohgcbihhbaaDoor
open Go.ChangeShapes Go.WideShapes Go.ChangeAt Go.RowKit Go.Mine

/-- What stands behind the Plan of an element: its window, its pages, no error. -/
def OthCut (w : World) (g i : Nat) (s : Str) (z : Wn) (PL : List Int) (vL : Value) (L : List Str) (v6 v7 v8 : Value) (wx : World) : Prop :=
  ∃ (h : Nat) (r : Value), v6 = .pointer (some ⟨h, 0, none⟩) ∧ r = v7 ∧ v8 = .int .i64 0 ∧ Own wx h 32 (csW z) ∧ RowE 3 1 enc1 wx 0 r PL ∧ ElS wx g i s ∧ g < wx.heap.size ∧ RowN 29 wx (w.heap.size + 1) vL L ∧ Grew w wx
set_option maxRecDepth 100000 in
set_option maxHeartbeats 4000000 in
theorem others_core (A : Option Addr) (c : Nat) (xs : List Int) (w : World) (hr : IntRow w A xs) (hm : xs.length ≤ maxLen) (hZ : Sz w) :
    Calls Tryd.prog 5 #[.slice A xs.length c] w (RetG (.bool true) w) := by
  have tp := Tp.made hr hm c 25
  clear hr
  generalize hX : xs.length = X at *
  clear hX
  go_enter Tryd.func5, Tryd.ntmps5
  go_wp2_with fail
  have G0 : w.grownBy (w.alloc (.cells #[.slice A X c, .int .i64 0] 25)) (some w.heap.size) := grown_alloc (grown_refl _ _) _
  generalize World.alloc w _ = w0 at *
  have hsz0 : w.heap.size + 1 ≤ w0.heap.size := tp.lt
  with_reducible refine (streams_x _ _ _ tp hsz0).mono ?_
  rintro e w1 ⟨v, L, rfl, hS, R, T1, g1⟩
  have R1 := R.wider hsz0
  have G1 := (Grew.refl w).past (grown_trans G0 g1) (Nat.le_refl _)
  have HS := Lib.hid hS
  have hle := hS.le
  clear R tp G0 g1 T1 hS hsz0 w0
  obtain ⟨a, c1, rfl, -⟩ := R1.rd
  have HR1 := Lib.hid R1
  clear R1
  go_wp2_with fail
  go_loopw [5] (fun iv wr => ∃ i : Nat, iv = .int .i64 i ∧ i ≤ L.length ∧ RowN 29 wr (w.heap.size + 1) (.slice a L.length c1) L ∧ Grew w wr) (fun iv _ => L.length - (intOf iv).toNat)
  case atStart => exact ⟨0, rfl, by omega, HR1.out, G1⟩
  case round =>
    clear HR1 G1
    obtain ⟨i, rfl, hi, R, G⟩ := hrel
    obtain ⟨wo, rfl⟩ : ∃ wo : World, wo = wr := ⟨_, rfl⟩
    by_cases hlt : i < L.length
    · obtain ⟨g, rfl, -, hg, he⟩ := rowN_at R hlt
      have hri : RgtP (L.getD i zS) := (HS.out.all i hlt).1
      obtain ⟨s, hs⟩ : ∃ s, L.getD i zS = s := ⟨_, rfl⟩
      rw [hs] at he hri
      clear hs
      have hpe : plE ⟨0, 0, 0⟩ s s.a s.b 256 = 0 := plE_3 (by kernel_rfl) (decide_eq_true hri) ⟨hri.1, by omega, by omega⟩
      have MI := Lib.hid (rgt_mild hri)
      have RI := Lib.hid hri
      have i0 : (0 : Int) ≤ (i : Int) := by omega
      have i1 : (i : Int) < (L.length : Int) := by omega
      have i4 : (L.length : Int) ≤ 4 := by omega
      have HE := Lib.hid he
      have HG := Lib.hid hg
      have HRr := Lib.hid R
      have HGw := Lib.hid G
      have PE := Lib.hid hpe
      obtain ⟨z, hz⟩ : ∃ z, plW ⟨0, 0, 0⟩ s s.a s.b 256 = z := ⟨_, rfl⟩
      obtain ⟨PL, hp⟩ : ∃ PL, plL ⟨0, 0, 0⟩ s s.a s.b 256 = PL := ⟨_, rfl⟩
      have ZB := Lib.hid hz
      have PB := Lib.hid hp
      clear hz hp hpe hri R G hg
      obtain ⟨p0, p1, p2, p3, p4, p5⟩ := he
      go_upto_region 6 with fail
      go_cut [6, 7, 8] from 14 to 83 (OthCut w g i s z PL (.slice (some ⟨g, 0, none⟩) L.length c1) L)
      case first =>
        go_region_held3 (fun w' => w'.cell? ⟨g, i * 6, none⟩ = some (.int .i64 s.k) ∧ w'.cell? ⟨g, i * 6 + 1, none⟩ = some (.int .i64 s.a) ∧ w'.cell? ⟨g, i * 6 + 2, none⟩ = some (.int .i64 s.b) ∧ w'.cell? ⟨g, i * 6 + 3, none⟩ = some (.int .i64 s.d) ∧ w'.cell? ⟨g, i * 6 + 4, none⟩ = some (.int .i64 s.h) ∧ w'.cell? ⟨g, i * 6 + 5, none⟩ = some (.int .i64 s.t))
          (refine ⟨?_, ?_, ?_, ?_, ?_, ?_⟩ <;> (repeat (first | with_reducible assumption | with_reducible refine far_drew ?_ | with_reducible refine far_alloc ?_ | with_reducible refine far_cell ne1 ?_)))
          (first
            | (go_at_call 9
               first
                | (have k1 : Grew wo wo.drew := (Grew.refl wo).drew
                   (with_reducible refine (plan_q ⟨0, 0, 0⟩ s s.a s.b 256 _ MI.out (hZ.grew (HGw.out.trans k1)) ZB.out PB.out PE.out).mono ?_))
                | (have k1 : Grew wo (wo.alloc (.cells z3 32)).drew := ((Grew.refl wo).alloc _).drew
                   have O1 := (Own.new wo 32 z3).drew
                   (with_reducible refine (plan_q ⟨0, 0, 0⟩ s s.a s.b 256 _ MI.out (hZ.grew (HGw.out.trans k1)) ZB.out PB.out PE.out).mono ?_))
               rintro e w8 ⟨vp, rfl, RP, g8⟩
               have RP1 := Lib.hid RP
               have k2 := k1.trans g8
               have E8 := HE.out.grew k2 HG.out
               have ne1 : wo.heap.size ≠ g := (by have := HG.out; omega)
               have K2 := Lib.hid k2
               have K8 := Lib.hid g8
               clear RP g8 p0 p1 p2 p3 p4 p5 k1 k2
               obtain ⟨p0, p1, p2, p3, p4, p5⟩ := E8
               first
                | (with_reducible replace O1 := O1.grew K8.out
                   obtain ⟨o0, o1, o2, o3, o4, o5⟩ := O1.three)
                | skip))
        all_goals go_wp2
        all_goals go_meet
        · have k := K2.out.trans ((Grew.refl w8).alloc (.cells (csW z) 32))
          exact ⟨_, _, rfl, rfl, rfl, Own.new w8 _ _, (RP1.out.grew ((Grew.refl w8).alloc (.cells (csW z) 32))).wider (Nat.zero_le _), HE.out.grew k HG.out, Nat.lt_of_lt_of_le HG.out k.size, HRr.out.grew k, HGw.out.trans k⟩
        · generalize hw14 : World.setCell _ _ _ = wx
          have k := K2.out.far3 hw14 (Nat.le_refl _)
          exact ⟨_, _, rfl, rfl, rfl, O1.store3 hw14, (RP1.out.far3 hw14 (by show wo.heap.size < (wo.alloc (.cells z3 32)).heap.size; rw [World.size_alloc]; omega)).wider (Nat.zero_le _), HE.out.grew k HG.out, Nat.lt_of_lt_of_le HG.out k.size, HRr.out.grew k, HGw.out.trans k⟩
      case rest =>
        clear HE HG HRr HGw p0 p1 p2 p3 p4 p5
        obtain ⟨h, r, rfl, rfl, rfl, O, RP, HE, HG, HR, HGw⟩ := hcut
        obtain ⟨o0, o1, o2, o3, o4, o5⟩ := O.three
        obtain ⟨p0, p1, p2, p3, p4, p5⟩ := id HE
        obtain ⟨ap, cp, rfl⟩ := RP.len
        have HRP := Lib.hid RP
        have HR2 := Lib.hid HR
        have HG2 := Lib.hid HGw
        have HE2 := Lib.hid HE
        clear RP HR HGw HE
        cases hb : sureB s
        · have hPL : PL = [] := PB.out.symm.trans (by rw [plL, if_neg (by rw [hb]; simp)])
          have hz0 : z = ⟨0, 0, 0⟩ := ZB.out.symm.trans (by rw [plW, if_neg (by rw [hb]; simp)]; rfl)
          subst hPL hz0
          have SB := Lib.hid hb
          clear hb
          go_wp2_with fail
          with_reducible refine (sure_q s _ MI.out SB.out).mono ?_
          rintro e w9 ⟨rfl, g9⟩
          replace O := O.grew g9
          have E9 := HE2.out.grew g9 HG
          have HR3 := Lib.hid (HR2.out.grew g9)
          have HG3 := Lib.hid (HG2.out.trans g9)
          have HRP3 := Lib.hid (HRP.out.grew g9)
          replace HG := Nat.lt_of_lt_of_le HG g9.size
          clear o0 o1 o2 o3 o4 o5 p0 p1 p2 p3 p4 p5 HR2 HG2 HRP HE2 g9
          obtain ⟨o0, o1, o2, o3, o4, o5⟩ := O.three
          have HE3 := Lib.hid E9
          obtain ⟨p0, p1, p2, p3, p4, p5⟩ := E9
          go_wp2
          exact ⟨⟨i + 1, by go_num, by omega, HR3.out, HG3.out⟩, by simp [intOf]; omega⟩
        · have SB := Lib.hid hb
          go_wp2_with fail
          with_reducible refine (sure_q s _ MI.out SB.out).mono ?_
          rintro e w9 ⟨rfl, g9⟩
          replace O := O.grew g9
          have E9 := HE2.out.grew g9 HG
          have HR3 := Lib.hid (HR2.out.grew g9)
          have HG3 := Lib.hid (HG2.out.trans g9)
          have HRP3 := Lib.hid (HRP.out.grew g9)
          replace HG := Nat.lt_of_lt_of_le HG g9.size
          clear o0 o1 o2 o3 o4 o5 p0 p1 p2 p3 p4 p5 HR2 HG2 HRP HE2 g9
          obtain ⟨o0, o1, o2, o3, o4, o5⟩ := O.three
          have HE3 := Lib.hid E9
          obtain ⟨p0, p1, p2, p3, p4, p5⟩ := E9
          by_cases hk : s.k = 2
          · rw [hk] at p0
            clear hb
            go_wp2
            exact ⟨⟨i + 1, by go_num, by omega, HR3.out, HG3.out⟩, by simp [intOf]; omega⟩
          · have hPL : PL = prF s (firF (s.b - s.a)) := PB.out.symm.trans (by rw [plL, if_pos ⟨PE.out, hb⟩, if_neg hk, prF_all])
            have hkd : (s.k == 2) = false := beqF hk
            have hn := Nat.le_trans (prF_len s (firF (s.b - s.a)) (by have := (fir_pos (s.b - s.a)).2; omega)) (show 100 ≤ 100000 by omega)
            rw [← hPL] at hn
            obtain ⟨q, hq⟩ : ∃ q, firF (s.b - s.a) = q := ⟨_, rfl⟩
            rw [hq] at hPL
            have HQ := Lib.hid hq
            have HP := Lib.hid hPL.symm
            have HL := Lib.hid hn
            have hwr : IntKind.i64.wrap (s.b - s.a) = s.b - s.a := IntWalk.i64_in _ (by have := RI.out.1; unfold AccP at this; omega)
            clear hb hPL hq hn hk
            have HE4 : Hid (ElS w9.drew g i s) := Lib.hid HE3.out
            have HG4 : Hid (g < w9.drew.heap.size) := Lib.hid HG
            have HR4 := Lib.hid HR3.out.drew
            have HGD := Lib.hid HG3.out.drew
            have HRP4 := Lib.hid HRP3.out.drew
            clear HE3 HG HR3 HG3 HRP3
            go_upto_region 13 with fail
            go_region_held3 (fun w' => w'.cell? ⟨g, i * 6, none⟩ = some (.int .i64 s.k) ∧ w'.cell? ⟨g, i * 6 + 1, none⟩ = some (.int .i64 s.a) ∧ w'.cell? ⟨g, i * 6 + 2, none⟩ = some (.int .i64 s.b) ∧ w'.cell? ⟨g, i * 6 + 3, none⟩ = some (.int .i64 s.d) ∧ w'.cell? ⟨g, i * 6 + 4, none⟩ = some (.int .i64 s.h) ∧ w'.cell? ⟨g, i * 6 + 5, none⟩ = some (.int .i64 s.t))
              (refine ⟨?_, ?_, ?_, ?_, ?_, ?_⟩ <;> (repeat (first | with_reducible assumption | with_reducible refine far_drew ?_)))
              (first
                | (go_at_call 16; (with_reducible refine (first_v _ _ (hZ.grew HGD.out) HQ.out).mono ?_); rintro e w3 ⟨rfl, rfl⟩)
                | (go_at_call 23; (with_reducible refine (rpred_v s q _ HP.out).mono ?_); rintro e w11 ⟨vq, rfl, RQ, g8⟩; have RP2 := Lib.hid (HRP4.out.grew g8); have RQ1 := Lib.hid RQ; have E8 := HE4.out.grew g8 HG4.out; replace HE4 := Lib.hid E8; replace HG4 := Lib.hid (Nat.lt_of_lt_of_le HG4.out g8.size); replace HR4 := Lib.hid (HR4.out.grew g8); replace HGD := Lib.hid (HGD.out.trans g8); clear RQ HRP4 p0 p1 p2 p3 p4 p5; obtain ⟨p0, p1, p2, p3, p4, p5⟩ := E8)
                | (go_at_call 13; (with_reducible refine (ints_same _ _ _ RP2.out RQ1.out HL.out).mono ?_); rintro e w12 ⟨rfl, g8⟩; have E8 := HE4.out.grew g8 HG4.out; replace HE4 := Lib.hid E8; replace HG4 := Lib.hid (Nat.lt_of_lt_of_le HG4.out g8.size); replace HR4 := Lib.hid (HR4.out.grew g8); replace HGD := Lib.hid (HGD.out.trans g8); clear RP2 RQ1 p0 p1 p2 p3 p4 p5; obtain ⟨p0, p1, p2, p3, p4, p5⟩ := E8))
            go_wp2
            exact ⟨⟨i + 1, by go_num, by omega, HR4.out, HGD.out⟩, by simp [intOf]; omega⟩
    · have hin : i = L.length := by omega
      subst hin
      go_wp2_with fail
      with_reducible refine (awake_any _ (hZ.grew G)).mono ?_
      rintro e w5 ⟨rfl, g5⟩
      go_wp2
      go_ret
      exact ⟨rfl, G.trans g5⟩

theorem Tryd.own : ownKnob Tryd.prog.godebug = none := by kernel_rfl
theorem Tryd.laidOut : laidOutB Tryd.prog = true := by kernel_rfl

theorem readaheadOthers_contract (W : World) (base : Nat) (args : Array Value) (H : Type) (enc : TypeId × Value → H) (ds : List (DataW H)) (p : List MemPlace)
    (hval : ∀ (j : Nat) t v, Tryd.f5.params[j]? = some t → args[j]? = some v → Value.okWide Tryd.prog W .any base t v)
    (hA : DataW.TrodAll enc Tryd.prog W 0 (fun _ => true) true Tryd.f5.params.toList args.toList ds p) (hL : laidMetH Tryd.prog [("pagecache/readahead.sizes", Rows.laid_pagecache_readahead_sizes)] W) :
    (∃ d0, ds = [d0]) ∧ Calls Tryd.prog 5 args W fun e W' => e = .returned (.bool true) ∧ Below W.heap.size W W' := by
  rw [Tryd.params5] at hval hA
  obtain ⟨v0, d0, p0, ha, hd, hp, h0⟩ := args_1 hA
  subst ha hd
  obtain ⟨A0, c0, xs0, rfl, hr0, hm0⟩ := open_introw Tryd.underlying22 Tryd.underlying3 (by kernel_rfl) (hval 0 _ _ rfl rfl) h0
  exact ⟨⟨_, rfl⟩, (others_core A0 c0 xs0 W hr0 hm0 (of_laid hL)).mono fun _ _ h => h⟩

set_option maxRecDepth 100000 in
theorem readaheadOthers_lifted (os : Os) (started : os.Started) (H : Type) (enc : TypeId × Value → H) :
    ReturnsInHanded {} Tryd.checked os 5 .any (fun w args => (Rows.readaheadOthersSpec.pre enc Tryd.prog Tryd.f5 Rows.readaheadOthersRow.domain false w args ∧ laidMetH Tryd.prog [("pagecache/readahead.sizes", Rows.laid_pagecache_readahead_sizes)] w) ∧ sizedMet enc Tryd.prog Tryd.f5 (OpenSpec.ofChange Rows.readaheadOthersSpec) false w args)
      (Rows.readaheadOthersSpec.post enc Tryd.prog Tryd.f5 false true false false) := by
  refine returnsInHanded_of_change_and (C := Tryd.checked) (X := fun w _ => laidMetH Tryd.prog [("pagecache/readahead.sizes", Rows.laid_pagecache_readahead_sizes)] w) (fun _ _ _ hh h => h.of_heap hh) Tryd.own started (by kernel_rfl) Tryd.func5
    (ChangeSpec.witness_shaped (enc := enc) (C := Tryd.checked) (os := os) (X := fun w _ => laidMetH Tryd.prog [("pagecache/readahead.sizes", Rows.laid_pagecache_readahead_sizes)] w) false (World.laidAll Tryd.prog os [("pagecache/readahead.sizes", Rows.laid_pagecache_readahead_sizes)]) #[.slice none 0 0] 8 (World.laidAll_os _ _ _)
      (World.shaped_of_ZipB (by kernel_rfl) (by kernel_rfl)) (by kernel_rfl) (by kernel_rfl) (by kernel_rfl)
      (by rw [MakeChecks.laidMetH_plain _ _ _ (by kernel_rfl)]; exact laidMet_laidAll _ (by kernel_rfl) (by kernel_rfl))) ?_
  intro W base args ds gs before hval hW _ _ hL _
  obtain ⟨p, q, hA, hV, hrest⟩ := id hW
  obtain ⟨⟨d0, rfl⟩, hc⟩ := readaheadOthers_contract W base args H enc ds p hval hA hL
  obtain ⟨rfl, -⟩ := trodVars_none hV
  refine hc.mono fun e W' ⟨he, hb⟩ => ⟨_, he, ?_⟩
  exact law_close (tb := 4) Tryd.laidOut (by rw [Tryd.params5]; decide +kernel) Tryd.underlying4 rfl rfl hW rfl rfl rfl hb

theorem readaheadOthers_holds : Rows.ReadaheadOthersSaid :=
  OpenClaim.holds_of_wide 5 Tryd.f5 rfl rfl rfl rfl rfl rfl rfl ⟨rfl, rfl, rfl, rfl, rfl⟩ rfl rfl rfl rfl rfl (by kernel_rfl) Tryd.func5 (by kernel_rfl)
    (of_decide_eq_true (by kernel_rfl)) (by unfold Func.isWrapper; first | (rw [if_pos (by decide +kernel)]; kernel_rfl) | (rw [if_neg (by decide +kernel)]; exact ⟨rfl, rfl⟩))
    (fun os started H enc _ => readaheadOthers_lifted os started H enc)
theorem readaheadOthers_card : Rows.ReadaheadOthersCardSaid :=
  Claim7.holds_tied_plain_at .later [] [.data] true (true, "bbe472f733f79f83881be3010bf559a9cc438f3dc1f5b568f2096c7ff7523005") false readaheadOthers_holds (fun _ h => by cases h) (by kernel_rfl) (fun _ h => by cases h) readaheadOthers_row_tie rfl ⟨rfl, rfl⟩ (by kernel_rfl) rfl
    (fun f fn hf hfn => by
      obtain rfl : f = 5 := Option.some.inj ((show Tryd.prog.funcNamed "pagecache/pagecachelaw07.ReadaheadOthers" = some 5 by kernel_rfl).symm.trans hf) |>.symm
      obtain rfl : fn = Tryd.f5 := (Option.some.inj (Tryd.func5.symm.trans hfn)).symm
      exact ⟨by kernel_rfl, fun j t ht => by
        rw [Tryd.params5] at ht
        have hm : t ∈ [22] := by simpa using Array.mem_of_getElem? ht
        have hall : ([22].all fun u => !Tryd.prog.wantsStandIn u) = true := by kernel_rfl
        exact (show Tryd.prog.wantsStandIn t = false by simpa using List.all_eq_true.1 hall t hm)⟩)
    (by kernel_rfl)
end Go.Proofs.YtfljohgcbihhbaaDoor
