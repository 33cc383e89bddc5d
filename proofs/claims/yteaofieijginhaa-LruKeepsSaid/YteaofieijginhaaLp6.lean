/- The program's Remove, Touch (layer 8): contracts. -/
import Derived.Test.YteaofieijginhaaLp5
namespace Go.Proofs.Yteaofieijginhaa
open Go.RowKit Go.Mine

theorem touE_0 {x : Lr} {f : Int} (h : remE x f = 0) : okB x = true ∧ inB x f = true := by
  unfold remE at h
  cases h0 : okB x
  · rw [h0] at h; simp at h
  · rw [h0] at h
    cases h1 : decide (1 ≤ f ∧ f ≤ 64)
    · rw [h1] at h; simp at h
    · rw [h1] at h
      cases h2 : inB x f
      · rw [h2] at h; simp at h
      · exact ⟨rfl, rfl⟩
theorem withRef_w {L M : List Int} {B : Nat} (v : Value) (f : Int) (w : World) (R : RwI w B v L) (hl : L.length ≤ 1000) (hs : AscP L) (hn : ¬f ∈ L) (h : inl L f = M) : Calls Try.prog 41 #[v, .int .i64 f] w (RetL1 M w) := h ▸ withRef_p v f w R (by omega) hs hn
set_option maxRecDepth 100000 in
set_option maxHeartbeats 4000000 in
theorem remp_any {B : Nat} (va vi vr : Value) (x : Lr) (f : Int) (w : World) (R : LrR w B va vi vr x) (hs : SmP x) (hw : WfR x) : Calls Try.prog 14 #[lruV va vi vr, .int .i64 f] w (RetLE (remX x f) (remE x f) w.heap.size w) := by
  obtain ⟨aa, ca, rfl⟩ := R.a.len
  obtain ⟨ai, ci, rfl⟩ := R.i.len
  obtain ⟨ar, cr, rfl⟩ := R.r.len
  obtain ⟨na, hna⟩ : ∃ na, x.a.length = na := ⟨_, rfl⟩
  obtain ⟨ni, hni⟩ : ∃ ni, x.i.length = ni := ⟨_, rfl⟩
  obtain ⟨nr, hnr⟩ : ∃ nr, x.r.length = nr := ⟨_, rfl⟩
  rw [hna, hni, hnr] at R ⊢
  clear hna hni hnr
  have W0 : Grew w ((w.alloc (.cells #[(.slice aa na ca), (.slice ai ni ci), (.slice ar nr cr)] 27)).alloc (.cells n3 27)) := ((Grew.refl w).alloc _).alloc _
  obtain ⟨sx, hsx⟩ : ∃ sx, w.heap.size = sx := ⟨_, rfl⟩
  have X : Own ((w.alloc (.cells #[(.slice aa na ca), (.slice ai ni ci), (.slice ar nr cr)] 27)).alloc (.cells n3 27)) sx 27 #[(.slice aa na ca), (.slice ai ni ci), (.slice ar nr cr)] := hsx ▸ (Own.new w 27 #[(.slice aa na ca), (.slice ai ni ci), (.slice ar nr cr)]).alloc _
  have S : Own ((w.alloc (.cells #[(.slice aa na ca), (.slice ai ni ci), (.slice ar nr cr)] 27)).alloc (.cells n3 27)) (sx + 1) 27 n3 := hsx ▸ Own.new2 w (.cells #[(.slice aa na ca), (.slice ai ni ci), (.slice ar nr cr)] 27) 27 n3
  have hz0 : ((w.alloc (.cells #[(.slice aa na ca), (.slice ai ni ci), (.slice ar nr cr)] 27)).alloc (.cells n3 27)).heap.size = sx + 2 := by simp; omega
  have HR := Lib.hid R
  have HS := Lib.hid hs
  have HSX := Lib.hid hsx
  have hsw : w.heap.size ≤ sx := by omega
  clear R hs
  have HW := Lib.hid hw
  clear hw
  obtain ⟨c, hc⟩ : ∃ c, remE x f = c := ⟨_, rfl⟩
  have HC := Lib.hid hc
  rw [hc]
  by_cases c0 : c = 0
  · subst c0
    have HX := Lib.hid (show remX x f = ⟨wol x.a f, wol x.i f, wol x.r f⟩ from by unfold remX; rw [if_pos hc])
    obtain ⟨MA, hMA⟩ : ∃ M, wol x.a f = M := ⟨_, rfl⟩
    obtain ⟨MI, hMI⟩ : ∃ M, wol x.i f = M := ⟨_, rfl⟩
    obtain ⟨MR, hMR⟩ : ∃ M, wol x.r f = M := ⟨_, rfl⟩
    have HMA := Lib.hid hMA
    have HMI := Lib.hid hMI
    have HMR := Lib.hid hMR
    rw [hMA, hMI, hMR] at HX
    clear hc hMA hMI hMR
    obtain ⟨x0, x1, x2, x3, x4, x5⟩ := X.three
    go_enter Try.func14, Try.ntmps14
    go_upto_region 1 with fail
    try rw [hsx]
    generalize World.alloc (World.alloc w _) _ = wb at *
    clear hsx
    go_wp2_with fail
    with_reducible refine (chkL_v _ _ _ _ _ _ (HR.out.grew W0) HS.out HW.out HC.out).mono ?_
    rintro e_w2 w2 ⟨rfl, g1⟩
    replace X := X.grew g1
    replace S := S.grew g1
    replace W0 := W0.trans g1
    clear g1 x0 x1 x2 x3 x4 x5
    obtain ⟨x0, x1, x2, x3, x4, x5⟩ := X.three
    go_upto_region 4 with fail
    have ne1 : sx + 1 ≠ sx := by omega
    replace X := X.drew
    replace S := S.drew
    replace W0 := W0.drew
    clear x0 x1 x2 x3 x4 x5
    obtain ⟨x0, x1, x2, x3, x4, x5⟩ := X.three
    obtain ⟨s0, s1, s2, s3, s4, s5⟩ := S.three
    have HRD := Lib.hid (HR.out.grew W0)
    have hzz := S.lt
    go_region_held3 (fun w' => w'.cell? ⟨sx, 0, none⟩ = some (.slice aa na ca) ∧ w'.cell? ⟨sx, 1, none⟩ = some (.slice ai ni ci) ∧ w'.cell? ⟨sx, 2, none⟩ = some (.slice ar nr cr))
      (refine ⟨?_, ?_, ?_⟩ <;> (repeat (first | with_reducible assumption | with_reducible refine far_drew ?_ | with_reducible refine far_cell ne1 ?_)))
      (first
        | (go_at_call 38; (with_reducible refine (without_w (.slice aa na ca) f _ HRD.out.a HS.out.a HMA.out).mono ?_); rintro e_w5 w5 ⟨v5, rfl, R5, g1⟩
           obtain ⟨a5, c5, rfl⟩ := R5.len
           have HR5 := Lib.hid R5
           have hz5 : sx + 1 < w5.heap.size := by have := S.lt; have := g1.size; omega
           replace HRD := Lib.hid (HRD.out.grew g1)
           replace X := X.grew g1
           replace S := S.grew g1
           replace W0 := W0.trans g1
           clear g1 R5 x0 x1 x2 x3 x4 x5 s0 s1 s2 s3 s4 s5
           obtain ⟨x0, x1, x2, x3, x4, x5⟩ := X.three
           obtain ⟨s0, s1, s2, s3, s4, s5⟩ := S.three)
        | (go_at_call 38; (with_reducible refine (without_w (.slice ai ni ci) f _ HRD.out.i HS.out.i HMI.out).mono ?_); rintro e_w6 w6 ⟨v6, rfl, R6, g1⟩
           obtain ⟨a6, c6, rfl⟩ := R6.len
           have HR6 := Lib.hid R6
           have hz6 : sx + 1 < w6.heap.size := by have := S.lt; have := g1.size; omega
           replace HR5 := Lib.hid (HR5.out.grew g1)
           replace HRD := Lib.hid (HRD.out.grew g1)
           replace X := X.grew g1
           replace S := S.grew g1
           replace W0 := W0.trans g1
           clear g1 R6 x0 x1 x2 x3 x4 x5 s0 s1 s2 s3 s4 s5
           obtain ⟨x0, x1, x2, x3, x4, x5⟩ := X.three
           obtain ⟨s0, s1, s2, s3, s4, s5⟩ := S.three)
        | (go_at_call 38; (with_reducible refine (without_w (.slice ar nr cr) f _ HRD.out.r HS.out.r HMR.out).mono ?_); rintro e_w7 w7 ⟨v7, rfl, R7, g1⟩
           obtain ⟨a7, c7, rfl⟩ := R7.len
           have HR7 := Lib.hid R7
           have hz7 : sx + 1 < w7.heap.size := by have := S.lt; have := g1.size; omega
           replace HR5 := Lib.hid (HR5.out.grew g1)
           replace HR6 := Lib.hid (HR6.out.grew g1)
           replace HRD := Lib.hid (HRD.out.grew g1)
           replace X := X.grew g1
           replace S := S.grew g1
           replace W0 := W0.trans g1
           clear g1 R7 x0 x1 x2 x3 x4 x5 s0 s1 s2 s3 s4 s5
           obtain ⟨x0, x1, x2, x3, x4, x5⟩ := X.three
           obtain ⟨s0, s1, s2, s3, s4, s5⟩ := S.three))
    have hzd : sx + 1 < w2.drew.heap.size := hzz
    go_wp2
    generalize hw : World.setCell _ _ _ = wz
    have RR := S.store3 hw
    have gB := W0.far3 hw (show w.heap.size ≤ sx + 1 by omega)
    obtain ⟨u0, u1, u2, u3, u4, u5⟩ := RR.three
    refine bodyPost_ret (v := .tuple #[lruV (.slice a5 MA.length c5) (.slice a6 MI.length c6) (.slice a7 MR.length c7), .int .i64 0]) (by simp [results, Try.results14, go_sem, u0, u1, u2]) rfl ⟨_, _, _, rfl, by rw [HX.out]; exact ⟨(HR5.out.far3 hw hzd).wider (by omega), (HR6.out.far3 hw hz5).wider (by omega), (HR7.out.far3 hw hz6).wider (by omega)⟩, gB⟩
  · have HX := Lib.hid (show remX x f = x from remX_e (by rw [hc]; exact c0))
    have hb2 : (c != 0) = true := by simp [c0]
    have hb : (c == 0) = false := beqF c0
    clear hc c0
    obtain ⟨x0, x1, x2, x3, x4, x5⟩ := X.three
    go_enter Try.func14, Try.ntmps14
    go_upto_region 1 with fail
    try rw [hsx]
    generalize World.alloc (World.alloc w _) _ = wb at *
    clear hsx
    go_wp2_with fail
    with_reducible refine (chkL_v _ _ _ _ _ _ (HR.out.grew W0) HS.out HW.out HC.out).mono ?_
    rintro e_w2 w2 ⟨rfl, g1⟩
    replace X := X.grew g1
    replace S := S.grew g1
    replace W0 := W0.trans g1
    clear g1 x0 x1 x2 x3 x4 x5
    obtain ⟨x0, x1, x2, x3, x4, x5⟩ := X.three
    go_wp2_with fail
    with_reducible refine (copied_any _ _ _ _ _ (HR.out.grew W0) HS.out).mono ?_
    rintro e_w3 w3 ⟨v1, v2, v3, rfl, RN, g1⟩
    obtain ⟨a1, c1, rfl⟩ := RN.a.len
    obtain ⟨a2, c2, rfl⟩ := RN.i.len
    obtain ⟨a3, c3, rfl⟩ := RN.r.len
    obtain ⟨l1, hl1⟩ : ∃ n, x.a.length = n := ⟨_, rfl⟩
    obtain ⟨l2, hl2⟩ : ∃ n, x.i.length = n := ⟨_, rfl⟩
    obtain ⟨l3, hl3⟩ : ∃ n, x.r.length = n := ⟨_, rfl⟩
    rw [hl1, hl2, hl3] at RN ⊢
    clear hl1 hl2 hl3
    have hw2 := S.lt
    have HN := Lib.hid (LrR.wider RN (show sx + 2 ≤ _ by omega))
    clear RN
    replace X := X.grew g1
    replace S := S.grew g1
    replace W0 := W0.trans g1
    clear g1 x0 x1 x2 x3 x4 x5
    obtain ⟨x0, x1, x2, x3, x4, x5⟩ := X.three
    have HQ : Hid (LrR _ (sx + 2) (.slice a1 l1 c1) (.slice a2 l2 c2) (.slice a3 l3 c3) x) := Lib.hid HN.out
    clear x0 x1 x2 x3 x4 x5
    obtain ⟨s0, s1, s2, s3, s4, s5⟩ := S.three
    go_wp2
    generalize hw : World.setCell _ _ _ = wz
    have RR := S.store3 hw
    have gB := W0.far3 hw (show w.heap.size ≤ sx + 1 by omega)
    obtain ⟨u0, u1, u2, u3, u4, u5⟩ := RR.three
    refine bodyPost_ret (v := .tuple #[lruV (.slice a1 l1 c1) (.slice a2 l2 c2) (.slice a3 l3 c3), .int .i64 c]) (by simp [results, Try.results14, go_sem, u0, u1, u2]) rfl ⟨_, _, _, rfl, by rw [HX.out]; exact (HQ.out.far3N hw (by omega)).wider (by omega), gB⟩
set_option maxRecDepth 100000 in
set_option maxHeartbeats 4000000 in
theorem toup_any {B : Nat} (va vi vr : Value) (x : Lr) (f : Int) (w : World) (R : LrR w B va vi vr x) (hs : SmP x) (hw : WfR x) : Calls Try.prog 16 #[lruV va vi vr, .int .i64 f] w (RetLE (touX x f) (remE x f) w.heap.size w) := by
  obtain ⟨aa, ca, rfl⟩ := R.a.len
  obtain ⟨ai, ci, rfl⟩ := R.i.len
  obtain ⟨ar, cr, rfl⟩ := R.r.len
  obtain ⟨na, hna⟩ : ∃ na, x.a.length = na := ⟨_, rfl⟩
  obtain ⟨ni, hni⟩ : ∃ ni, x.i.length = ni := ⟨_, rfl⟩
  obtain ⟨nr, hnr⟩ : ∃ nr, x.r.length = nr := ⟨_, rfl⟩
  rw [hna, hni, hnr] at R ⊢
  clear hna hni hnr
  have W0 : Grew w ((w.alloc (.cells #[(.slice aa na ca), (.slice ai ni ci), (.slice ar nr cr)] 27)).alloc (.cells n3 27)) := ((Grew.refl w).alloc _).alloc _
  obtain ⟨sx, hsx⟩ : ∃ sx, w.heap.size = sx := ⟨_, rfl⟩
  have X : Own ((w.alloc (.cells #[(.slice aa na ca), (.slice ai ni ci), (.slice ar nr cr)] 27)).alloc (.cells n3 27)) sx 27 #[(.slice aa na ca), (.slice ai ni ci), (.slice ar nr cr)] := hsx ▸ (Own.new w 27 #[(.slice aa na ca), (.slice ai ni ci), (.slice ar nr cr)]).alloc _
  have S : Own ((w.alloc (.cells #[(.slice aa na ca), (.slice ai ni ci), (.slice ar nr cr)] 27)).alloc (.cells n3 27)) (sx + 1) 27 n3 := hsx ▸ Own.new2 w (.cells #[(.slice aa na ca), (.slice ai ni ci), (.slice ar nr cr)] 27) 27 n3
  have hz0 : ((w.alloc (.cells #[(.slice aa na ca), (.slice ai ni ci), (.slice ar nr cr)] 27)).alloc (.cells n3 27)).heap.size = sx + 2 := by simp; omega
  have HR := Lib.hid R
  have HS := Lib.hid hs
  have HSX := Lib.hid hsx
  have hsw : w.heap.size ≤ sx := by omega
  clear R hs
  have HW := Lib.hid hw
  clear hw
  obtain ⟨c, hc⟩ : ∃ c, remE x f = c := ⟨_, rfl⟩
  have HC := Lib.hid hc
  rw [hc]
  by_cases c0 : c = 0
  · subst c0
    obtain ⟨h0, hin⟩ := touE_0 hc
    have hok := of_decide_eq_true h0
    cases hr : decide (f ∈ x.r)
    · have HX := Lib.hid (show touX x f = ⟨x.a, x.i, inl x.r f⟩ from by unfold touX; rw [if_pos hc, hr])
      have H1 := Lib.hid hr
      have H2 := Lib.hid (of_decide_eq_false hr)
      have H3 := Lib.hid hok.2.2.2
      obtain ⟨M, hM⟩ : ∃ M, inl x.r f = M := ⟨_, rfl⟩
      have HM0 := Lib.hid hM
      rw [hM] at HX
      clear hM hr hin hok h0 hc
      obtain ⟨x0, x1, x2, x3, x4, x5⟩ := X.three
      go_enter Try.func16, Try.ntmps16
      go_upto_region 1 with fail
      try rw [hsx]
      generalize World.alloc (World.alloc w _) _ = wb at *
      clear hsx
      go_wp2_with fail
      with_reducible refine (copied_any _ _ _ _ _ (HR.out.grew W0) HS.out).mono ?_
      rintro e_w1 w1 ⟨v1, v2, v3, rfl, RN, g1⟩
      obtain ⟨a1, c1, rfl⟩ := RN.a.len
      obtain ⟨a2, c2, rfl⟩ := RN.i.len
      obtain ⟨a3, c3, rfl⟩ := RN.r.len
      obtain ⟨l1, hl1⟩ : ∃ n, x.a.length = n := ⟨_, rfl⟩
      obtain ⟨l2, hl2⟩ : ∃ n, x.i.length = n := ⟨_, rfl⟩
      obtain ⟨l3, hl3⟩ : ∃ n, x.r.length = n := ⟨_, rfl⟩
      rw [hl1, hl2, hl3] at RN ⊢
      rw [hz0] at RN
      clear hl1 hl2 hl3 hz0
      have gz := g1.size
      replace X := X.grew g1
      replace S := S.grew g1
      replace W0 := W0.trans g1
      clear g1 x0 x1 x2 x3 x4 x5
      obtain ⟨x0, x1, x2, x3, x4, x5⟩ := X.three
      have hgn : sx + 1 < w1.heap.size := S.lt
      have N := Own.new w1 27 #[.slice a1 l1 c1, .slice a2 l2 c2, .slice a3 l3 c3]
      have FN0 := RN.farN
      obtain ⟨gn, hgn2⟩ : ∃ gn, w1.heap.size = gn := ⟨_, rfl⟩
      go_upto_region 2 with fail
      have G2 := (Grew.refl w1).alloc (.cells #[.slice a1 l1 c1, .slice a2 l2 c2, .slice a3 l3 c3] 27)
      replace X := X.grew G2
      replace S := S.grew G2
      replace W0 := W0.trans G2
      have HN := Lib.hid (RN.grew G2)
      have HFN := Lib.hid FN0
      clear G2 RN FN0 x0 x1 x2 x3 x4 x5 gz
      rw [hgn2] at N HFN hgn
      generalize World.alloc w1 _ = w2 at *
      clear hgn2
      obtain ⟨x0, x1, x2, x3, x4, x5⟩ := X.three
      obtain ⟨n0, n1, n2, n3a, n4, n5⟩ := N.three
      go_wp2_with fail
      with_reducible refine (chkL_v _ _ _ _ _ _ (HR.out.grew W0) HS.out HW.out HC.out).mono ?_
      rintro e_w3 w3 ⟨rfl, g1⟩
      replace X := X.grew g1
      replace S := S.grew g1
      replace W0 := W0.trans g1
      replace N := N.grew g1
      replace HN := Lib.hid (HN.out.grew g1)
      clear g1 x0 x1 x2 x3 x4 x5 n0 n1 n2 n3a n4 n5
      obtain ⟨x0, x1, x2, x3, x4, x5⟩ := X.three
      obtain ⟨n0, n1, n2, n3a, n4, n5⟩ := N.three
      go_wp2_with fail
      with_reducible refine (refd_v _ _ _ _ _ _ (HR.out.grew W0).r (by have := HS.out.r; omega) H1.out).mono ?_
      rintro e_w4 w4 ⟨rfl, g1⟩
      replace X := X.grew g1
      replace S := S.grew g1
      replace W0 := W0.trans g1
      replace N := N.grew g1
      replace HN := Lib.hid (HN.out.grew g1)
      clear g1 x0 x1 x2 x3 x4 x5 n0 n1 n2 n3a n4 n5
      obtain ⟨x0, x1, x2, x3, x4, x5⟩ := X.three
      obtain ⟨n0, n1, n2, n3a, n4, n5⟩ := N.three
      have hgz := N.lt
      go_wp2_with fail
      with_reducible refine (withRef_w _ _ _ (HR.out.grew W0).r HS.out.r H3.out H2.out HM0.out).mono ?_
      rintro e_w5 w5 ⟨v5, rfl, R5, g1⟩
      obtain ⟨a5, c5, rfl⟩ := R5.len
      obtain ⟨n5b, hn5⟩ : ∃ n, M.length = n := ⟨_, rfl⟩
      rw [hn5] at R5 ⊢
      clear hn5
      have HFM := Lib.hid (far_of R5 hgz)
      have HM := Lib.hid (RowE.wider R5 (show sx + 2 ≤ _ by omega))
      clear R5 hgz
      replace X := X.grew g1
      replace S := S.grew g1
      replace W0 := W0.trans g1
      replace N := N.grew g1
      replace HN := Lib.hid (HN.out.grew g1)
      clear g1 x0 x1 x2 x3 x4 x5 n0 n1 n2 n3a n4 n5
      obtain ⟨x0, x1, x2, x3, x4, x5⟩ := X.three
      obtain ⟨n0, n1, n2, n3a, n4, n5⟩ := N.three
      go_upto_region 9 with fail
      replace X := X.far (p := ⟨gn, 2, none⟩) (show sx ≠ gn by omega) (.slice a5 n5b c5)
      replace S := S.far (p := ⟨gn, 2, none⟩) (show sx + 1 ≠ gn by omega) (.slice a5 n5b c5)
      replace W0 := W0.set (p := ⟨gn, 2, none⟩) (show w.heap.size ≤ gn by omega) (.slice a5 n5b c5)
      replace N := N.set 2 (.slice a5 n5b c5)
      have HN2 := Lib.hid (LrR.setF (i := 2) (u := (.slice a5 n5b c5)) HN.out HFN.out)
      have HM2 := Lib.hid (RowE.setF (i := 2) (u := (.slice a5 n5b c5)) HM.out HFM.out)
      clear HN HM x0 x1 x2 x3 x4 x5 n0 n1 n2 n3a n4 n5
      generalize World.setCell w5 _ _ = w6 at *
      obtain ⟨n0, n1, n2, n3a, n4, n5⟩ := (show Own w6 gn 27 #[.slice a1 l1 c1, .slice a2 l2 c2, .slice a5 n5b c5] from N).three
      obtain ⟨x0, x1, x2, x3, x4, x5⟩ := X.three
      have HQ : Hid (LrR _ (sx + 2) (.slice a1 l1 c1) (.slice a2 l2 c2) (.slice a5 n5b c5) ⟨x.a, x.i, M⟩) := Lib.hid ⟨HN2.out.a, HN2.out.i, HM2.out⟩
      clear x0 x1 x2 x3 x4 x5
      obtain ⟨s0, s1, s2, s3, s4, s5⟩ := S.three
      go_wp2
      generalize hw : World.setCell _ _ _ = wz
      have RR := S.store3 hw
      have gB := W0.far3 hw (show w.heap.size ≤ sx + 1 by omega)
      obtain ⟨u0, u1, u2, u3, u4, u5⟩ := RR.three
      refine bodyPost_ret (v := .tuple #[lruV (.slice a1 l1 c1) (.slice a2 l2 c2) (.slice a5 n5b c5), .int .i64 0]) (by simp [results, Try.results16, go_sem, u0, u1, u2]) rfl ⟨_, _, _, rfl, by rw [HX.out]; exact (HQ.out.far3N hw (by omega)).wider (by omega), gB⟩
    · have H1 := Lib.hid hr
      cases hi : decide (f ∈ x.i)
      · have HX := Lib.hid (show touX x f = x from by unfold touX; rw [if_pos hc, hr, hi])
        have H2 := Lib.hid hi
        clear hr hin hok h0 hc hi
        obtain ⟨x0, x1, x2, x3, x4, x5⟩ := X.three
        go_enter Try.func16, Try.ntmps16
        go_upto_region 1 with fail
        try rw [hsx]
        generalize World.alloc (World.alloc w _) _ = wb at *
        clear hsx
        go_wp2_with fail
        with_reducible refine (copied_any _ _ _ _ _ (HR.out.grew W0) HS.out).mono ?_
        rintro e_w1 w1 ⟨v1, v2, v3, rfl, RN, g1⟩
        obtain ⟨a1, c1, rfl⟩ := RN.a.len
        obtain ⟨a2, c2, rfl⟩ := RN.i.len
        obtain ⟨a3, c3, rfl⟩ := RN.r.len
        obtain ⟨l1, hl1⟩ : ∃ n, x.a.length = n := ⟨_, rfl⟩
        obtain ⟨l2, hl2⟩ : ∃ n, x.i.length = n := ⟨_, rfl⟩
        obtain ⟨l3, hl3⟩ : ∃ n, x.r.length = n := ⟨_, rfl⟩
        rw [hl1, hl2, hl3] at RN ⊢
        rw [hz0] at RN
        clear hl1 hl2 hl3 hz0
        have gz := g1.size
        replace X := X.grew g1
        replace S := S.grew g1
        replace W0 := W0.trans g1
        clear g1 x0 x1 x2 x3 x4 x5
        obtain ⟨x0, x1, x2, x3, x4, x5⟩ := X.three
        have hgn : sx + 1 < w1.heap.size := S.lt
        have N := Own.new w1 27 #[.slice a1 l1 c1, .slice a2 l2 c2, .slice a3 l3 c3]
        have FN0 := RN.farN
        obtain ⟨gn, hgn2⟩ : ∃ gn, w1.heap.size = gn := ⟨_, rfl⟩
        go_upto_region 2 with fail
        have G2 := (Grew.refl w1).alloc (.cells #[.slice a1 l1 c1, .slice a2 l2 c2, .slice a3 l3 c3] 27)
        replace X := X.grew G2
        replace S := S.grew G2
        replace W0 := W0.trans G2
        have HN := Lib.hid (RN.grew G2)
        have HFN := Lib.hid FN0
        clear G2 RN FN0 x0 x1 x2 x3 x4 x5 gz
        rw [hgn2] at N HFN hgn
        generalize World.alloc w1 _ = w2 at *
        clear hgn2
        obtain ⟨x0, x1, x2, x3, x4, x5⟩ := X.three
        obtain ⟨n0, n1, n2, n3a, n4, n5⟩ := N.three
        go_wp2_with fail
        with_reducible refine (chkL_v _ _ _ _ _ _ (HR.out.grew W0) HS.out HW.out HC.out).mono ?_
        rintro e_w3 w3 ⟨rfl, g1⟩
        replace X := X.grew g1
        replace S := S.grew g1
        replace W0 := W0.trans g1
        replace N := N.grew g1
        replace HN := Lib.hid (HN.out.grew g1)
        clear g1 x0 x1 x2 x3 x4 x5 n0 n1 n2 n3a n4 n5
        obtain ⟨x0, x1, x2, x3, x4, x5⟩ := X.three
        obtain ⟨n0, n1, n2, n3a, n4, n5⟩ := N.three
        go_wp2_with fail
        with_reducible refine (refd_v _ _ _ _ _ _ (HR.out.grew W0).r (by have := HS.out.r; omega) H1.out).mono ?_
        rintro e_w4 w4 ⟨rfl, g1⟩
        replace X := X.grew g1
        replace S := S.grew g1
        replace W0 := W0.trans g1
        replace N := N.grew g1
        replace HN := Lib.hid (HN.out.grew g1)
        clear g1 x0 x1 x2 x3 x4 x5 n0 n1 n2 n3a n4 n5
        obtain ⟨x0, x1, x2, x3, x4, x5⟩ := X.three
        obtain ⟨n0, n1, n2, n3a, n4, n5⟩ := N.three
        go_wp2_with fail
        with_reducible refine (con_v _ _ _ (HR.out.grew W0).i (by have := HS.out.i; omega) H2.out).mono ?_
        rintro e_w5 w5 ⟨rfl, rfl⟩
        have HQ : Hid (LrR _ (sx + 2) (.slice a1 l1 c1) (.slice a2 l2 c2) (.slice a3 l3 c3) x) := Lib.hid HN.out
        clear x0 x1 x2 x3 x4 x5
        obtain ⟨s0, s1, s2, s3, s4, s5⟩ := S.three
        go_wp2
        generalize hw : World.setCell _ _ _ = wz
        have RR := S.store3 hw
        have gB := W0.far3 hw (show w.heap.size ≤ sx + 1 by omega)
        obtain ⟨u0, u1, u2, u3, u4, u5⟩ := RR.three
        refine bodyPost_ret (v := .tuple #[lruV (.slice a1 l1 c1) (.slice a2 l2 c2) (.slice a3 l3 c3), .int .i64 0]) (by simp [results, Try.results16, go_sem, u0, u1, u2]) rfl ⟨_, _, _, rfl, by rw [HX.out]; exact (HQ.out.far3N hw (by omega)).wider (by omega), gB⟩
      · have H2 := Lib.hid hi
        have hna : ¬f ∈ x.a := fun h => (List.nodup_append.1 hok.2.1).2.2 f h f (of_decide_eq_true hi) rfl
        have HX := Lib.hid (show touX x f = ⟨f :: x.a, wol x.i f, wol x.r f⟩ from by unfold touX; rw [if_pos hc, hr, hi])
        have hMA : f :: wol x.a f = f :: x.a := by rw [wol_not hna]
        obtain ⟨MA, hMA2⟩ : ∃ M, f :: x.a = M := ⟨_, rfl⟩
        obtain ⟨MI, hMI⟩ : ∃ M, wol x.i f = M := ⟨_, rfl⟩
        obtain ⟨MR, hMR⟩ : ∃ M, wol x.r f = M := ⟨_, rfl⟩
        rw [hMA2] at hMA
        have HMA := Lib.hid hMA
        have HMI := Lib.hid hMI
        have HMR := Lib.hid hMR
        rw [hMA2, hMI, hMR] at HX
        clear hr hin hok h0 hc hi hna hMA hMA2 hMI hMR
        obtain ⟨x0, x1, x2, x3, x4, x5⟩ := X.three
        go_enter Try.func16, Try.ntmps16
        go_upto_region 1 with fail
        try rw [hsx]
        generalize World.alloc (World.alloc w _) _ = wb at *
        clear hsx
        go_wp2_with fail
        with_reducible refine (copied_any _ _ _ _ _ (HR.out.grew W0) HS.out).mono ?_
        rintro e_w1 w1 ⟨v1, v2, v3, rfl, RN, g1⟩
        obtain ⟨a1, c1, rfl⟩ := RN.a.len
        obtain ⟨a2, c2, rfl⟩ := RN.i.len
        obtain ⟨a3, c3, rfl⟩ := RN.r.len
        obtain ⟨l1, hl1⟩ : ∃ n, x.a.length = n := ⟨_, rfl⟩
        obtain ⟨l2, hl2⟩ : ∃ n, x.i.length = n := ⟨_, rfl⟩
        obtain ⟨l3, hl3⟩ : ∃ n, x.r.length = n := ⟨_, rfl⟩
        rw [hl1, hl2, hl3] at RN ⊢
        rw [hz0] at RN
        clear hl1 hl2 hl3 hz0
        have gz := g1.size
        replace X := X.grew g1
        replace S := S.grew g1
        replace W0 := W0.trans g1
        clear g1 x0 x1 x2 x3 x4 x5
        obtain ⟨x0, x1, x2, x3, x4, x5⟩ := X.three
        have hgn : sx + 1 < w1.heap.size := S.lt
        have N := Own.new w1 27 #[.slice a1 l1 c1, .slice a2 l2 c2, .slice a3 l3 c3]
        have FN0 := RN.farN
        obtain ⟨gn, hgn2⟩ : ∃ gn, w1.heap.size = gn := ⟨_, rfl⟩
        go_upto_region 2 with fail
        have G2 := (Grew.refl w1).alloc (.cells #[.slice a1 l1 c1, .slice a2 l2 c2, .slice a3 l3 c3] 27)
        replace X := X.grew G2
        replace S := S.grew G2
        replace W0 := W0.trans G2
        have HN := Lib.hid (RN.grew G2)
        have HFN := Lib.hid FN0
        clear G2 RN FN0 x0 x1 x2 x3 x4 x5 gz
        rw [hgn2] at N HFN hgn
        generalize World.alloc w1 _ = w2 at *
        clear hgn2
        obtain ⟨x0, x1, x2, x3, x4, x5⟩ := X.three
        obtain ⟨n0, n1, n2, n3a, n4, n5⟩ := N.three
        go_wp2_with fail
        with_reducible refine (chkL_v _ _ _ _ _ _ (HR.out.grew W0) HS.out HW.out HC.out).mono ?_
        rintro e_w3 w3 ⟨rfl, g1⟩
        replace X := X.grew g1
        replace S := S.grew g1
        replace W0 := W0.trans g1
        replace N := N.grew g1
        replace HN := Lib.hid (HN.out.grew g1)
        clear g1 x0 x1 x2 x3 x4 x5 n0 n1 n2 n3a n4 n5
        obtain ⟨x0, x1, x2, x3, x4, x5⟩ := X.three
        obtain ⟨n0, n1, n2, n3a, n4, n5⟩ := N.three
        go_wp2_with fail
        with_reducible refine (refd_v _ _ _ _ _ _ (HR.out.grew W0).r (by have := HS.out.r; omega) H1.out).mono ?_
        rintro e_w4 w4 ⟨rfl, g1⟩
        replace X := X.grew g1
        replace S := S.grew g1
        replace W0 := W0.trans g1
        replace N := N.grew g1
        replace HN := Lib.hid (HN.out.grew g1)
        clear g1 x0 x1 x2 x3 x4 x5 n0 n1 n2 n3a n4 n5
        obtain ⟨x0, x1, x2, x3, x4, x5⟩ := X.three
        obtain ⟨n0, n1, n2, n3a, n4, n5⟩ := N.three
        go_wp2_with fail
        with_reducible refine (con_v _ _ _ (HR.out.grew W0).i (by have := HS.out.i; omega) H2.out).mono ?_
        rintro e_w5 w5 ⟨rfl, rfl⟩
        go_upto_region 8 with fail
        have ne1 : sx + 1 ≠ sx := by omega
        replace X := X.drew
        replace S := S.drew
        replace W0 := W0.drew
        replace N := N.drew
        replace HN := Lib.hid HN.out.drew
        have ne2 : gn ≠ sx := by omega
        clear x0 x1 x2 x3 x4 x5 n0 n1 n2 n3a n4 n5
        obtain ⟨x0, x1, x2, x3, x4, x5⟩ := X.three
        obtain ⟨n0, n1, n2, n3a, n4, n5⟩ := N.three
        have HRD := Lib.hid (HR.out.grew W0)
        have hzz := N.lt
        go_region_held3 (fun w' => w'.cell? ⟨sx, 0, none⟩ = some (.slice aa na ca) ∧ w'.cell? ⟨sx, 1, none⟩ = some (.slice ai ni ci) ∧ w'.cell? ⟨sx, 2, none⟩ = some (.slice ar nr cr))
          (refine ⟨?_, ?_, ?_⟩ <;> (repeat (first | with_reducible assumption | with_reducible refine far_drew ?_ | with_reducible refine far_cell ne1 ?_ | with_reducible refine far_cell ne2 ?_)))
          (first
            | (go_at_call 34; (with_reducible refine (toFront_w (.slice aa na ca) f _ HRD.out.a HS.out.a HMA.out).mono ?_); rintro e_w5 w5 ⟨v5, rfl, R5, g1⟩
               obtain ⟨a5, c5, rfl⟩ := R5.len
               have HR5 := Lib.hid R5
               have hz5 : sx + 1 < w5.heap.size := by have := S.lt; have := g1.size; omega
               have hy5 : gn < w5.heap.size := by have := N.lt; have := g1.size; omega
               replace HRD := Lib.hid (HRD.out.grew g1)
               replace X := X.grew g1
               replace S := S.grew g1
               replace W0 := W0.trans g1
               replace N := N.grew g1
               replace HN := Lib.hid (HN.out.grew g1)
               clear g1 R5 x0 x1 x2 x3 x4 x5 n0 n1 n2 n3a n4 n5
               obtain ⟨x0, x1, x2, x3, x4, x5⟩ := X.three
               obtain ⟨n0, n1, n2, n3a, n4, n5⟩ := N.three)
            | (go_at_call 38; (with_reducible refine (without_w (.slice ai ni ci) f _ HRD.out.i HS.out.i HMI.out).mono ?_); rintro e_w6 w6 ⟨v6, rfl, R6, g1⟩
               obtain ⟨a6, c6, rfl⟩ := R6.len
               have HR6 := Lib.hid R6
               have hz6 : sx + 1 < w6.heap.size := by have := S.lt; have := g1.size; omega
               have hy6 : gn < w6.heap.size := by have := N.lt; have := g1.size; omega
               replace HR5 := Lib.hid (HR5.out.grew g1)
               replace HRD := Lib.hid (HRD.out.grew g1)
               replace X := X.grew g1
               replace S := S.grew g1
               replace W0 := W0.trans g1
               replace N := N.grew g1
               replace HN := Lib.hid (HN.out.grew g1)
               clear g1 R6 x0 x1 x2 x3 x4 x5 n0 n1 n2 n3a n4 n5
               obtain ⟨x0, x1, x2, x3, x4, x5⟩ := X.three
               obtain ⟨n0, n1, n2, n3a, n4, n5⟩ := N.three)
            | (go_at_call 38; (with_reducible refine (without_w (.slice ar nr cr) f _ HRD.out.r HS.out.r HMR.out).mono ?_); rintro e_w7 w7 ⟨v7, rfl, R7, g1⟩
               obtain ⟨a7, c7, rfl⟩ := R7.len
               have HR7 := Lib.hid R7
               have hz7 : sx + 1 < w7.heap.size := by have := S.lt; have := g1.size; omega
               have hy7 : gn < w7.heap.size := by have := N.lt; have := g1.size; omega
               replace HR5 := Lib.hid (HR5.out.grew g1)
               replace HR6 := Lib.hid (HR6.out.grew g1)
               replace HRD := Lib.hid (HRD.out.grew g1)
               replace X := X.grew g1
               replace S := S.grew g1
               replace W0 := W0.trans g1
               replace N := N.grew g1
               replace HN := Lib.hid (HN.out.grew g1)
               clear g1 R7 x0 x1 x2 x3 x4 x5 n0 n1 n2 n3a n4 n5
               obtain ⟨x0, x1, x2, x3, x4, x5⟩ := X.three
               obtain ⟨n0, n1, n2, n3a, n4, n5⟩ := N.three))
        have hzd : gn < _ := hzz
        have HQ5 := Lib.hid (far_of HR5.out hzd)
        have HQ6 := Lib.hid (far_of HR6.out hy5)
        have HQ7 := Lib.hid (far_of HR7.out hy6)
        have HP5 := Lib.hid (RowE.wider HR5.out (show sx + 2 ≤ _ by have := hzd; omega))
        have HP6 := Lib.hid (RowE.wider HR6.out (show sx + 2 ≤ _ by omega))
        have HP7 := Lib.hid (RowE.wider HR7.out (show sx + 2 ≤ _ by omega))
        clear HR5 HR6 HR7 hzz hzd
        go_upto_region 9 with fail
        generalize hw : World.setCell _ _ _ = wn
        replace N := N.store3 hw
        replace X := X.far3 hw (show sx ≠ gn by omega)
        replace S := S.far3 hw (show sx + 1 ≠ gn by omega)
        replace W0 := W0.far3 hw (show w.heap.size ≤ gn by omega)
        have HN2 : Hid (LrR wn (sx + 2) (.slice a5 MA.length c5) (.slice a6 MI.length c6) (.slice a7 MR.length c7) ⟨MA, MI, MR⟩) := Lib.hid ⟨RowE.set3F HP5.out hw HQ5.out, RowE.set3F HP6.out hw HQ6.out, RowE.set3F HP7.out hw HQ7.out⟩
        clear hw x0 x1 x2 x3 x4 x5 n0 n1 n2 n3a n4 n5 HN
        obtain ⟨x0, x1, x2, x3, x4, x5⟩ := X.three
        obtain ⟨n0, n1, n2, n3a, n4, n5⟩ := N.three
        have HQ : Hid (LrR _ (sx + 2) (.slice a5 MA.length c5) (.slice a6 MI.length c6) (.slice a7 MR.length c7) ⟨MA, MI, MR⟩) := Lib.hid HN2.out
        clear x0 x1 x2 x3 x4 x5
        obtain ⟨s0, s1, s2, s3, s4, s5⟩ := S.three
        go_wp2
        generalize hw : World.setCell _ _ _ = wz
        have RR := S.store3 hw
        have gB := W0.far3 hw (show w.heap.size ≤ sx + 1 by omega)
        obtain ⟨u0, u1, u2, u3, u4, u5⟩ := RR.three
        refine bodyPost_ret (v := .tuple #[lruV (.slice a5 MA.length c5) (.slice a6 MI.length c6) (.slice a7 MR.length c7), .int .i64 0]) (by simp [results, Try.results16, go_sem, u0, u1, u2]) rfl ⟨_, _, _, rfl, by rw [HX.out]; exact (HQ.out.far3N hw (by omega)).wider (by omega), gB⟩
  · have HX := Lib.hid (show touX x f = x from touX_e (by rw [hc]; exact c0))
    have hb2 : (c != 0) = true := by simp [c0]
    have hb : (c == 0) = false := beqF c0
    clear hc c0
    obtain ⟨x0, x1, x2, x3, x4, x5⟩ := X.three
    go_enter Try.func16, Try.ntmps16
    go_upto_region 1 with fail
    try rw [hsx]
    generalize World.alloc (World.alloc w _) _ = wb at *
    clear hsx
    go_wp2_with fail
    with_reducible refine (copied_any _ _ _ _ _ (HR.out.grew W0) HS.out).mono ?_
    rintro e_w1 w1 ⟨v1, v2, v3, rfl, RN, g1⟩
    obtain ⟨a1, c1, rfl⟩ := RN.a.len
    obtain ⟨a2, c2, rfl⟩ := RN.i.len
    obtain ⟨a3, c3, rfl⟩ := RN.r.len
    obtain ⟨l1, hl1⟩ : ∃ n, x.a.length = n := ⟨_, rfl⟩
    obtain ⟨l2, hl2⟩ : ∃ n, x.i.length = n := ⟨_, rfl⟩
    obtain ⟨l3, hl3⟩ : ∃ n, x.r.length = n := ⟨_, rfl⟩
    rw [hl1, hl2, hl3] at RN ⊢
    rw [hz0] at RN
    clear hl1 hl2 hl3 hz0
    have gz := g1.size
    replace X := X.grew g1
    replace S := S.grew g1
    replace W0 := W0.trans g1
    clear g1 x0 x1 x2 x3 x4 x5
    obtain ⟨x0, x1, x2, x3, x4, x5⟩ := X.three
    have hgn : sx + 1 < w1.heap.size := S.lt
    have N := Own.new w1 27 #[.slice a1 l1 c1, .slice a2 l2 c2, .slice a3 l3 c3]
    have FN0 := RN.farN
    obtain ⟨gn, hgn2⟩ : ∃ gn, w1.heap.size = gn := ⟨_, rfl⟩
    go_upto_region 2 with fail
    have G2 := (Grew.refl w1).alloc (.cells #[.slice a1 l1 c1, .slice a2 l2 c2, .slice a3 l3 c3] 27)
    replace X := X.grew G2
    replace S := S.grew G2
    replace W0 := W0.trans G2
    have HN := Lib.hid (RN.grew G2)
    have HFN := Lib.hid FN0
    clear G2 RN FN0 x0 x1 x2 x3 x4 x5 gz
    rw [hgn2] at N HFN hgn
    generalize World.alloc w1 _ = w2 at *
    clear hgn2
    obtain ⟨x0, x1, x2, x3, x4, x5⟩ := X.three
    obtain ⟨n0, n1, n2, n3a, n4, n5⟩ := N.three
    go_wp2_with fail
    with_reducible refine (chkL_v _ _ _ _ _ _ (HR.out.grew W0) HS.out HW.out HC.out).mono ?_
    rintro e_w3 w3 ⟨rfl, g1⟩
    replace X := X.grew g1
    replace S := S.grew g1
    replace W0 := W0.trans g1
    replace N := N.grew g1
    replace HN := Lib.hid (HN.out.grew g1)
    clear g1 x0 x1 x2 x3 x4 x5 n0 n1 n2 n3a n4 n5
    obtain ⟨x0, x1, x2, x3, x4, x5⟩ := X.three
    obtain ⟨n0, n1, n2, n3a, n4, n5⟩ := N.three
    have HQ : Hid (LrR _ (sx + 2) (.slice a1 l1 c1) (.slice a2 l2 c2) (.slice a3 l3 c3) x) := Lib.hid HN.out
    clear x0 x1 x2 x3 x4 x5
    obtain ⟨s0, s1, s2, s3, s4, s5⟩ := S.three
    go_wp2
    generalize hw : World.setCell _ _ _ = wz
    have RR := S.store3 hw
    have gB := W0.far3 hw (show w.heap.size ≤ sx + 1 by omega)
    obtain ⟨u0, u1, u2, u3, u4, u5⟩ := RR.three
    refine bodyPost_ret (v := .tuple #[lruV (.slice a1 l1 c1) (.slice a2 l2 c2) (.slice a3 l3 c3), .int .i64 c]) (by simp [results, Try.results16, go_sem, u0, u1, u2]) rfl ⟨_, _, _, rfl, by rw [HX.out]; exact (HQ.out.far3N hw (by omega)).wider (by omega), gB⟩
end Go.Proofs.Yteaofieijginhaa
