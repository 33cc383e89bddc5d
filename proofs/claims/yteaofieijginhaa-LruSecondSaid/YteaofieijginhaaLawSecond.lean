/- LruSecond holds: a frame that is touched between two scans is no victim of the second one, held frames never are, and a frame that is touched twice while it is inactive becomes active. -/
import Derived.Test.YteaofieijginhaaLp12
import Derived.Deep.RegionHeld3
import Derived.Deep.DeepCutAuto
import Derived.Deep.RegionWith
namespace Go.Proofs.Yteaofieijginhaa
open Go.ChangeShapes Go.WideShapes Go.ChangeAt Go.RowKit Go.Mine

set_option maxRecDepth 100000 in
set_option maxHeartbeats 8000000 in
theorem second_core (A : Option Addr) (c : Nat) (xs : List Int) (A2 : Option Addr) (c2 : Nat) (xs2 : List Int) (w : World) (hr : IntRow w A xs) (hm : xs.length ≤ maxLen) (hr2 : IntRow w A2 xs2) (hm2 : xs2.length ≤ maxLen) :
    Calls Try.prog 6 #[.slice A xs.length c, .slice A2 xs2.length c2] w (RetG (.bool true) w) := by
  have tp := Tp.made hr hm c 25
  have HR2 := Lib.hid hr2
  have HM2 := Lib.hid hm2
  clear hr hr2 hm2
  generalize hX : xs.length = X at *
  clear hX
  go_enter Try.func6, Try.ntmps6
  go_wp2_with fail
  have G0 : w.grownBy (w.alloc (.cells #[.slice A X c, .int .i64 0] 25)) (some w.heap.size) := grown_alloc (grown_refl _ _) _
  generalize World.alloc w _ = w0 at *
  have hsz0 : w.heap.size + 1 ≤ w0.heap.size := tp.lt
  with_reducible refine (lru_x _ _ _ tp hsz0).mono ?_
  rintro e w1 ⟨va, vi, vr, x, rfl, hok, hln, R, T1, g1⟩
  have G1 := (Grew.refl w).past (grown_trans G0 g1) (Nat.le_refl _)
  obtain ⟨aa, ca, rfl⟩ := R.a.len
  obtain ⟨ai, ci, rfl⟩ := R.i.len
  obtain ⟨ar, cr, rfl⟩ := R.r.len
  have G2 := G1.alloc (.cells #[.slice aa x.a.length ca, .slice ai x.i.length ci, .slice ar x.r.length cr] 27)
  have tp2 := TapN.made HR2.out HM2.out rfl G2 c2 25
  have G3 := G2.alloc (.cells #[.slice A2 xs2.length c2, .int .i64 0] 25)
  have O := (Mine.Own.new w1 27 #[.slice aa x.a.length ca, .slice ai x.i.length ci, .slice ar x.r.length cr]).alloc (.cells #[.slice A2 xs2.length c2, .int .i64 0] 25)
  have hF1 := Far3.of_lt R (Nat.le_refl _)
  have hF2 := Far3.of_lt R (Nat.le_succ _)
  have R2 := (R.grew (((Grew.refl w1).alloc (.cells #[.slice aa x.a.length ca, .slice ai x.i.length ci, .slice ar x.r.length cr] 27)).alloc (.cells #[.slice A2 xs2.length c2, .int .i64 0] 25))).wider hsz0
  rw [World.size_alloc] at tp2
  have hsb0 : w.heap.size + 1 ≤ w1.heap.size := Nat.le_trans hsz0 g1.size
  clear R tp G0 g1 T1 G1 G2 hsz0 HR2 HM2
  generalize hX2 : xs2.length = X2 at *
  clear hX2
  go_upto_region 3 with fail
  generalize World.alloc (World.alloc w1 _) _ = w2 at *
  generalize w1.heap.size = sb at *
  have HST : Hid (LrSt w 12 sb w2) := Lib.hid ⟨x, _, _, _, _, _, _, hok, hln, R2, hF1, hF2, O, tp2, G3⟩
  clear hok hln R2 hF1 hF2 O tp2 G3
  go_cut [] from 22 to 29 (LrSt w 12 sb)
  case first =>
    obtain ⟨y, a1, c1, a2, c2, a3, c3, hok, hln, R, F1, F2, O, tp, G⟩ := HST.out
    clear HST
    have HR := Lib.hid R.drew
    have HOK := Lib.hid hok
    have HLN := Lib.hid hln
    have HWF := Lib.hid (wf_ok hok)
    have HQ : Hid (∀ w', RwI w' (w.heap.size + 1) (.slice none 0 0) []) := Lib.hid fun _ => RowE.nil _ _
    obtain ⟨l1, hl1⟩ : ∃ n, y.a.length = n := ⟨_, rfl⟩
    obtain ⟨l2, hl2⟩ : ∃ n, y.i.length = n := ⟨_, rfl⟩
    obtain ⟨l3, hl3⟩ : ∃ n, y.r.length = n := ⟨_, rfl⟩
    have hb1 : y.a.length ≤ 1000 ∧ y.i.length ≤ 400 ∧ y.r.length ≤ 1000 := ⟨by have := hln.1; omega, by have := hln.1; omega, by have := hln.2; omega⟩
    rw [hl1, hl2, hl3] at HR O F1 F2
    clear R hok hln hl1 hl2 hl3
    have HF2 := Lib.hid F2
    have HG := Lib.hid G.drew
    have HTP := Lib.hid (tp.grew ((Grew.refl w2).drew))
    have HO := Lib.hid O.drew
    have hwz : w.heap.size + 1 ≤ w2.heap.size := by have := O.lt; omega
    have hwd : w.heap.size + 1 ≤ w2.drew.heap.size := hwz
    have hnw : ∀ y ∈ ([] : List Int), (Lit.int .i64 y).wf = true := by simp
    have hnl : ([] : List Int).length ≤ 1000 := by simp
    obtain ⟨o0, o1, o2, o3, o4, o5⟩ := O.three
    clear F2 F1 G tp O
    go_region_with
      (first
        | (go_at_call 10; (with_reducible refine (next_n _ _ _ _ (by omega) (by omega) HTP.out).mono ?_)
           rintro e w3 ⟨q, q0, q1, rfl, tp3, g3⟩
           have gz3 := g3.size
           have hwq : IntKind.i64.wrap (1 + q) = 1 + q := IntWalk.i64_in _ (by omega)
           replace HTP := Lib.hid tp3
           replace HO := Lib.hid (HO.out.past g3 (by omega))
           replace HR := Lib.hid (LrR.keptG HR.out g3 HF2.out)
           replace HG := Lib.hid (HG.out.past g3 (by omega))
           have hwz3 : w.heap.size + 1 ≤ w3.heap.size := by omega
           have hsz3 : sb + 1 < w3.heap.size := HTP.out.lt
           clear tp3 g3 o0 o1 o2 o3 o4 o5
           obtain ⟨o0, o1, o2, o3, o4, o5⟩ := HO.out.three)
        | (go_at_call 26; obtain ⟨z, hz⟩ : ∃ z, scnF y (1 + q) (hlB []) = z := ⟨_, rfl⟩
           obtain ⟨y9, V9⟩ := z
           (with_reducible refine (scn_v (1 + q) (.slice none 0 0) HR.out (HQ.out _) hb1.1 hb1.2.1 hb1.2.2 hnl HWF.out hnw hz (Nat.le_refl _)).mono ?_)
           rintro e w4 ⟨u1, u2, u3, uv, rfl, RN, RV, g4⟩
           obtain ⟨a5, c5, rfl⟩ := RN.a.len
           obtain ⟨a6, c6, rfl⟩ := RN.i.len
           obtain ⟨a7, c7, rfl⟩ := RN.r.len
           have HRN := Lib.hid RN
           have HOK9 := Lib.hid (show OkP y9 from by have := (ok_scn (n := 1 + q) (held := hlB []) HOK.out).1; rwa [hz] at this)
           have HLN9 := Lib.hid (show LnP 12 y9 from by have := ln_scn (n := 1 + q) (h := hlB []) HOK.out HLN.out; rwa [hz] at this)
           replace HTP := Lib.hid (HTP.out.grew g4)
           replace HO := Lib.hid (HO.out.grew g4)
           replace HG := Lib.hid (HG.out.trans g4)
           clear RN RV g4 hz o0 o1 o2 o3 o4 o5
           obtain ⟨o0, o1, o2, o3, o4, o5⟩ := HO.out.three))
    all_goals
      go_wp2
      go_meet
      generalize hw : World.setCell _ _ _ = wz
      have GW : w4.grownBy wz (some sb) := by
        rw [← hw]
        exact grown_set (p := ⟨sb, 2, none⟩) (grown_set (p := ⟨sb, 1, none⟩) (grown_set (p := ⟨sb, 0, none⟩) (grown_refl _ _) (.inl rfl) _) (.inl rfl) _) (.inl rfl) _
      have F3 := HRN.out.farB (show sb < w3.heap.size by omega)
      exact ⟨y9, _, _, _, _, _, _, HOK9.out, HLN9.out, (HRN.out.set3F hw F3).wider hwz3, F3, HRN.out.farB hsz3, HO.out.store3 hw, HTP.out.kept GW (by omega) (by omega), HG.out.far3 hw (by omega)⟩
  case rest =>
    clear HST
    obtain ⟨y, a1, c1, a2, c2, a3, c3, hok, hln, R, F1, F2, O, tp, G⟩ := hcut
    have HOK := Lib.hid hok
    have HWF := Lib.hid (wf_ok hok)
    have HSM := Lib.hid (hln.sm (show 12 ≤ 1000 by omega))
    have hb1 : y.i.length ≤ 12 := by have := hln.1; omega
    have HLN := Lib.hid hln
    have hY := O.lt
    obtain ⟨o0, o1, o2, o3, o4, o5⟩ := O.three
    clear hok hln
    by_cases h0 : y.i.length = 0
    · have e0 : ((y.i.length : Int) == 0) = true := by simp [h0]
      clear h0
      go_wp2_with fail
      with_reducible refine (awake_any _).mono ?_
      rintro e w4 ⟨rfl, g4⟩
      go_wp2
      go_ret
      exact ⟨rfl, G.trans g4⟩
    · have e0 : ((y.i.length : Int) == 0) = false := by simpa using h0
      have hl0 : 0 < y.i.length := by omega
      obtain ⟨g, rfl, hg, -⟩ := rowI_at R.i hl0
      have HR := Lib.hid R
      have HF2 := Lib.hid F2
      have HG := Lib.hid G
      have HTP := Lib.hid (tp.grew ((Grew.refl wc).drew))
      have HO := Lib.hid O
      have hwd : w.heap.size + 1 ≤ wc.heap.size := by omega
      have hwd2 : w.heap.size + 1 ≤ wc.drew.heap.size := hwd
      clear h0 R F1 F2 G tp O
      go_upto_region 6 with fail
      have hln : (y.i.length : Int) ≤ 12 := by omega
      have hln1 : 1 ≤ (y.i.length : Int) := by omega
      obtain ⟨Fy, hFy⟩ : ∃ Fy : Nat → Int, ∀ k, y.i.getD k 0 = Fy k := ⟨_, fun _ => rfl⟩
      have hcl : ∀ w'' : World, LrR w'' (w.heap.size + 1) (.slice a1 y.a.length c1) (.slice (some ⟨g, 0, none⟩) y.i.length c2) (.slice a3 y.r.length c3) y → ∀ k, k < y.i.length → w''.cell? ⟨g, k, none⟩ = some (.int .i64 (Fy k)) := fun w'' h k hk => by
        obtain ⟨g', eg, -, p5⟩ := rowI_at h.i hk
        obtain rfl : g = g' := by injection eg with eg; injection eg
        rw [p5, hFy]
      have HCL := Lib.hid hcl
      have hS0 := hcl _ HR.out.drew
      have HFY := Lib.hid hFy
      have ho1 : wc.drew.cell? ⟨sb, 1, none⟩ = some (.slice (some ⟨g, 0, none⟩) y.i.length c2) := o1
      clear hcl hFy
      go_region_held3 (fun w' => w'.cell? ⟨sb, 1, none⟩ = some (.slice (some ⟨g, 0, none⟩) y.i.length c2) ∧ ∀ k, k < y.i.length → w'.cell? ⟨g, k, none⟩ = some (.int .i64 (Fy k)))
        (refine ⟨?_, ?_⟩ <;> assumption)
        (first
          | (go_at_call 10; (with_reducible refine (next_n _ _ _ _ (by omega) (by omega) HTP.out).mono ?_)
             rintro e w5 ⟨q, q0, q1, rfl, tp5, g5⟩
             obtain ⟨i, rfl⟩ := Int.eq_ofNat_of_zero_le q0
             have gz5 := g5.size
             have hi : i < y.i.length := by omega
             have HR5 := Lib.hid (LrR.keptG HR.out.drew g5 HF2.out)
             have hS5 := HCL.out _ HR5.out
             have HF := Lib.hid (show Fy i ∈ y.i from HFY.out i ▸ getD_mem hi)
             have HO5 := Lib.hid (HO.out.drew.past g5 (by omega))
             have HG5 := Lib.hid (HG.out.drew.past g5 (by omega))
             have HTP5 := Lib.hid tp5
             clear tp5 g5 o0 o1 o2 o3 o4 o5 hS0 ho1
             obtain ⟨o0, o1, o2, o3, o4, o5⟩ := HO5.out.three))
      obtain ⟨f, hf⟩ : ∃ f, Fy i = f := ⟨_, rfl⟩
      rw [hf] at HF ⊢
      clear hf hS5
      go_wp2_with fail
      with_reducible refine (next_n _ _ _ _ (by omega) (by omega) HTP5.out).mono ?_
      rintro e w6 ⟨q6, q60, q61, rfl, tp6, g6⟩
      have hwq6 : IntKind.i64.wrap (1 + q6) = 1 + q6 := IntWalk.i64_in _ (by omega)
      have HR6 := Lib.hid (LrR.keptG HR5.out g6 HF2.out)
      have HO6 := Lib.hid (HO5.out.past g6 (by omega))
      have HG6 := Lib.hid (HG5.out.past g6 (by omega))
      have gz6 := g6.size
      have hwz6 : w.heap.size + 1 ≤ w6.heap.size := by omega
      obtain ⟨s1, s2, s3, s4⟩ := second HOK.out HF.out 64 (hlB [1 + q6])
      obtain ⟨y2, hy2⟩ : ∃ y2, touX y f = y2 := ⟨_, rfl⟩
      have HOK2 := Lib.hid (show OkP y2 from hy2 ▸ (ok_tou HOK.out).1)
      have HLN2 := Lib.hid (show LnP 13 y2 from hy2 ▸ ln_tou HLN.out)
      rw [hy2] at s2 s3 s4
      have HE1 := Lib.hid s1
      have HY2 := Lib.hid hy2
      have HE2 := Lib.hid s2
      have HV := Lib.hid s3
      have HA := Lib.hid s4
      clear s1 s2 s3 s4 hy2 tp6 g6 HR5 HO5 HG5 HR HO HG HTP HTP5 o0 o1 o2 o3 o4 o5
      obtain ⟨o0, o1, o2, o3, o4, o5⟩ := HO6.out.three
      go_wp2_with fail
      with_reducible refine (tou_v f HR6.out HSM.out HWF.out HY2.out HE1.out hwz6).mono ?_
      rintro e w7 ⟨u1, u2, u3, rfl, RN, g7⟩
      obtain ⟨a5, c5, rfl⟩ := RN.a.len
      obtain ⟨a6, c6, rfl⟩ := RN.i.len
      obtain ⟨a7, c7, rfl⟩ := RN.r.len
      obtain ⟨l5, hl5⟩ : ∃ n, y2.a.length = n := ⟨_, rfl⟩
      obtain ⟨l6, hl6⟩ : ∃ n, y2.i.length = n := ⟨_, rfl⟩
      obtain ⟨l7, hl7⟩ : ∃ n, y2.r.length = n := ⟨_, rfl⟩
      rw [hl5, hl6, hl7] at RN ⊢
      have hln2 : l5 + l6 ≤ 13 ∧ l7 ≤ 13 := ⟨by have := HLN2.out.1; omega, by have := HLN2.out.2; omega⟩
      have hs2 : y2.a.length ≤ 1000 ∧ y2.i.length ≤ 400 ∧ y2.r.length ≤ 1000 := by omega
      have g8 := (Grew.refl w7).alloc (.cells #[.slice a5 l5 c5, .slice a6 l6 c6, .slice a7 l7 c7] 27)
      have O8 := Mine.Own.new w7 27 #[.slice a5 l5 c5, .slice a6 l6 c6, .slice a7 l7 c7]
      have HR8 := Lib.hid (RN.grew g8)
      have HG8 := Lib.hid ((HG6.out.trans g7).trans g8)
      have hwz8 : w.heap.size + 1 ≤ (w7.alloc (.cells #[.slice a5 l5 c5, .slice a6 l6 c6, .slice a7 l7 c7] 27)).heap.size := by have := g7.size; have := g8.size; omega
      obtain ⟨s9, hs9⟩ : ∃ s9, w7.heap.size = s9 := ⟨_, rfl⟩
      rw [hs9] at O8
      clear hl5 hl6 hl7 g7 g8 RN o0 o1 o2 o3 o4 o5 HR6 HO6 HG6
      go_upto_region 9 with fail
      try rw [hs9]
      clear hs9
      generalize World.alloc w7 _ = w8 at *
      obtain ⟨o0, o1, o2, o3, o4, o5⟩ := O8.three
      have ga := (Grew.refl w8).alloc (.cells #[.int .i64 (1 + q6)] 3)
      have HB := Lib.hid (show RwI (w8.alloc (.cells #[.int .i64 (1 + q6)] 3)) w8.heap.size (.slice (some ⟨w8.heap.size, 0, none⟩) 1 1) [1 + q6] from RowE.lit (L := [1 + q6]) w8 #[.int .i64 (1 + q6)] (by simp [enc1]) (by simp) (by simp [maxLen]) (Nat.le_refl _))
      have HR9 := Lib.hid (HR8.out.grew ga)
      have HO9 := Lib.hid (O8.grew ga)
      have HG9 := Lib.hid (HG8.out.trans ga)
      have hwz9 : w.heap.size + 1 ≤ (w8.alloc (.cells #[.int .i64 (1 + q6)] 3)).heap.size := by have := ga.size; omega
      have hWF2 := Lib.hid (wf_ok HOK2.out)
      have hnl : [1 + q6].length ≤ 1000 := by simp
      have hnw : ∀ z ∈ [1 + q6], (Lit.int .i64 z).wf = true := fun z hz => by rw [List.mem_singleton] at hz; exact WalkArith.wf_i64 (by omega)
      obtain ⟨zz, hzz⟩ : ∃ z, scnF y2 64 (hlB [1 + q6]) = z := ⟨_, rfl⟩
      obtain ⟨y3, V⟩ := zz
      clear ga HR8
      go_wp2_with fail
      with_reducible refine (scn_v 64 _ HR9.out HB.out hs2.1 hs2.2.1 hs2.2.2 hnl hWF2.out hnw hzz hwz9).mono ?_
      rintro e w10 ⟨u4, u5, u6, uv, rfl, RN, RV, g10⟩
      obtain ⟨b5, d5, rfl⟩ := RN.a.len
      obtain ⟨b6, d6, rfl⟩ := RN.i.len
      obtain ⟨b7, d7, rfl⟩ := RN.r.len
      obtain ⟨m5, hm5⟩ : ∃ n, y3.a.length = n := ⟨_, rfl⟩
      obtain ⟨m6, hm6⟩ : ∃ n, y3.i.length = n := ⟨_, rfl⟩
      obtain ⟨m7, hm7⟩ : ∃ n, y3.r.length = n := ⟨_, rfl⟩
      rw [hm5, hm6, hm7]
      have hVl : V.length ≤ 100000 := by
        have := scnF_v (x := y2) (n := 64) (h := hlB [1 + q6])
        rw [hzz] at this
        have h9 : y2.i.length ≤ 400 := hs2.2.1
        show V.length ≤ 100000
        have : V.length ≤ y2.i.length := this
        omega
      have hVf : decide (f ∈ V) = false := decide_eq_false (by have := HV.out; rw [hzz] at this; exact this)
      have hVh : decide (1 + q6 ∈ V) = false := decide_eq_false (fun h => by
        have h9 := scnF_held (x := y2) (n := 64) (h := hlB [1 + q6]) (g := 1 + q6) (by rw [hzz]; exact h)
        simp [hlB] at h9)
      have HVF := Lib.hid hVf
      have HVH := Lib.hid hVh
      have gb := (Grew.refl w10).alloc (.cells #[.slice b5 m5 d5, .slice b6 m6 d6, .slice b7 m7 d7] 27)
      have HRV := Lib.hid (RV.grew gb)
      have O11 := HO9.out.grew (g10.trans gb)
      have HR11 := Lib.hid (HR9.out.grew (g10.trans gb))
      have HG11 := Lib.hid (HG9.out.trans (g10.trans gb))
      have hwz11 : w.heap.size + 1 ≤ (w10.alloc (.cells #[.slice b5 m5 d5, .slice b6 m6 d6, .slice b7 m7 d7] 27)).heap.size := by have := g10.size; have := gb.size; omega
      have HSM2 := Lib.hid (HLN2.out.sm (show 13 ≤ 1000 by omega))
      clear hm5 hm6 hm7 hVf hVh gb RN RV g10 HR9 HO9 HG9 HB O8 o0 o1 o2 o3 o4 o5 hzz HG8 hnl hnw HV
      go_upto_region 10 with fail
      generalize World.alloc w10 _ = w11 at *
      obtain ⟨o0, o1, o2, o3, o4, o5⟩ := O11.three
      go_wp2_with fail
      with_reducible refine (tou_v f HR11.out HSM2.out hWF2.out rfl HE2.out hwz11).mono ?_
      rintro e w12 ⟨r1, r2, r3, rfl, RZ, g12⟩
      obtain ⟨e5, f5, rfl⟩ := RZ.a.len
      obtain ⟨e6, f6, rfl⟩ := RZ.i.len
      obtain ⟨e7, f7, rfl⟩ := RZ.r.len
      obtain ⟨y4, hy4⟩ : ∃ y4, touX y2 f = y4 := ⟨_, rfl⟩
      have HLN4 := Lib.hid (show LnP 14 y4 from hy4 ▸ ln_tou HLN2.out)
      rw [hy4] at RZ HA
      rw [hy4]
      have HAF := Lib.hid (decide_eq_true HA.out)
      obtain ⟨k5, hk5⟩ : ∃ n, y4.a.length = n := ⟨_, rfl⟩
      obtain ⟨k6, hk6⟩ : ∃ n, y4.i.length = n := ⟨_, rfl⟩
      obtain ⟨k7, hk7⟩ : ∃ n, y4.r.length = n := ⟨_, rfl⟩
      rw [hk5, hk6, hk7] at RZ ⊢
      have hk5l : y4.a.length ≤ 100000 := by have := HLN4.out.1; omega
      have gc := (Grew.refl w12).alloc (.cells #[.slice e5 k5 f5, .slice e6 k6 f6, .slice e7 k7 f7] 27)
      have O13 := Mine.Own.new w12 27 #[.slice e5 k5 f5, .slice e6 k6 f6, .slice e7 k7 f7]
      have HRZ := Lib.hid (RZ.grew gc)
      have HRV13 := Lib.hid (HRV.out.grew (g12.trans gc))
      have HG13 := Lib.hid (HG11.out.trans (g12.trans gc))
      obtain ⟨s13, hs13⟩ : ∃ s, w12.heap.size = s := ⟨_, rfl⟩
      rw [hs13] at O13
      clear hy4 hk5 hk6 hk7 gc g12 RZ HRV HR11 HG11 O11 o0 o1 o2 o3 o4 o5
      go_upto_region 11 with fail
      try rw [hs13]
      clear hs13
      generalize World.alloc w12 _ = w13 at *
      obtain ⟨o0, o1, o2, o3, o4, o5⟩ := O13.three
      go_wp2_with fail
      with_reducible refine (at_v _ f _ HRV13.out hVl HVF.out).mono ?_
      rintro e w14 ⟨z, rfl, -, hz, rfl⟩
      have hz1 : z < 0 := by have : ¬0 ≤ z := fun h => by have := hz.1 h; simp at this
                             omega
      clear hz
      go_wp2_with fail
      with_reducible refine (at_v _ (1 + q6) _ HRV13.out hVl HVH.out).mono ?_
      rintro e w14 ⟨z2, rfl, -, hz, rfl⟩
      have hz2 : z2 < 0 := by have : ¬0 ≤ z2 := fun h => by have := hz.1 h; simp at this
                              omega
      clear hz
      go_wp2_with fail
      with_reducible refine (at_v _ f _ HRZ.out.a hk5l HAF.out).mono ?_
      rintro e w14 ⟨z3, rfl, -, hz, rfl⟩
      have hz3 : 0 ≤ z3 := hz.2 rfl
      clear hz
      go_wp2_with fail
      with_reducible refine (awake_any _).mono ?_
      rintro e w15 ⟨rfl, g15⟩
      go_wp2
      go_ret
      exact ⟨rfl, HG13.out.trans g15⟩

theorem Try.own : ownKnob Try.prog.godebug = none := by kernel_rfl
theorem Try.laidOut : laidOutB Try.prog = true := by kernel_rfl

theorem lruSecond_contract (W : World) (base : Nat) (args : Array Value) (H : Type) (enc : TypeId × Value → H) (ds : List (DataW H)) (p : List MemPlace)
    (hval : ∀ (j : Nat) t v, Try.f6.params[j]? = some t → args[j]? = some v → Value.okWide Try.prog W .any base t v)
    (hA : DataW.TrodAll enc Try.prog W 0 (fun _ => true) true Try.f6.params.toList args.toList ds p) :
    (∃ d0 d1, ds = [d0, d1]) ∧ Calls Try.prog 6 args W fun e W' => e = .returned (.bool true) ∧ Below W.heap.size W W' := by
  rw [Try.params6] at hval hA
  obtain ⟨v0, v1, d0, d1, p0, p1, ha, hd, hp, h0, h1⟩ := args_2 hA
  subst ha hd
  obtain ⟨A0, c0, xs0, rfl, hr0, hm0⟩ := open_introw Try.underlying22 Try.underlying3 (by kernel_rfl) (hval 0 _ _ rfl rfl) h0
  obtain ⟨A1, c1, xs1, rfl, hr1, hm1⟩ := open_introw Try.underlying22 Try.underlying3 (by kernel_rfl) (hval 1 _ _ rfl rfl) h1
  exact ⟨⟨_, _, rfl⟩, (second_core A0 c0 xs0 A1 c1 xs1 W hr0 hm0 hr1 hm1).mono fun _ _ h => h⟩

set_option maxRecDepth 100000 in
theorem lruSecond_lifted (os : Os) (started : os.Started) (H : Type) (enc : TypeId × Value → H) :
    ReturnsInHanded {} Try.checked os 6 .any (Rows.lruSecondSpec.pre6 enc Try.prog Try.f6 Rows.lruSecondRow.domain false) (Rows.lruSecondSpec.post enc Try.prog Try.f6 false true false false) := by
  refine returnsInHanded_of_change (C := Try.checked) Try.own started (by kernel_rfl) Try.func6
    (ChangeSpec.witness6 (enc := enc) (C := Try.checked) false ⟨#[], #[.slice none 0 0, .slice none 0 0], []⟩ 8 (by kernel_rfl) (by kernel_rfl) (by kernel_rfl) (by kernel_rfl)) ?_
  intro W base args ds gs before hval hW _ _
  obtain ⟨p, q, hA, hV, hrest⟩ := id hW
  obtain ⟨⟨d0, d1, rfl⟩, hc⟩ := lruSecond_contract W base args H enc ds p hval hA
  obtain ⟨rfl, -⟩ := trodVars_none hV
  refine hc.mono fun e W' ⟨he, hb⟩ => ⟨_, he, ?_⟩
  exact law_close (tb := 4) Try.laidOut (by rw [Try.params6]; decide +kernel) Try.underlying4 rfl rfl hW rfl rfl rfl hb

theorem lruSecond_holds : Rows.LruSecondSaid :=
  OpenClaim.holds_of_wide 6 Try.f6 rfl rfl rfl rfl rfl rfl rfl ⟨rfl, rfl, rfl, rfl, rfl⟩ rfl rfl rfl rfl rfl (by kernel_rfl) Try.func6 (by kernel_rfl)
    (of_decide_eq_true (by kernel_rfl)) (by unfold Func.isWrapper; first | (rw [if_pos (by decide +kernel)]; kernel_rfl) | (rw [if_neg (by decide +kernel)]; exact ⟨rfl, rfl⟩))
    (fun os started H enc _ => lruSecond_lifted os started H enc)
end Go.Proofs.Yteaofieijginhaa
