/- The program's lastMoved, Balance (layer 8): contracts. -/
import Derived.Test.YteaofieijginhaaLp5
namespace Go.Proofs.Yteaofieijginhaa
open Go.RowKit Go.Mine

theorem wol_last {L : List Int} (hn : L.Nodup) (h0 : L ≠ []) : wol L (L.getLastD 0) = L.dropLast := by
  have hs := last_split h0
  generalize L.getLastD 0 = f at *
  rw [hs] at hn
  have h1 := List.nodup_append.1 hn
  have hnot : ¬f ∈ L.dropLast := fun h => h1.2.2 f h f (List.mem_singleton.2 rfl) rfl
  conv => lhs; rw [hs]
  unfold wol
  rw [List.filter_append, show List.filter (fun x => decide (x ≠ f)) [f] = [] by simp, List.append_nil]
  exact wol_not hnot
/-- It returns the lists y; no slice lies in a block that was there and that no slice of the call lies in. -/
def RetLm (y : Lr) (B : Nat) (w : World) (va vi vr : Value) (e : Ending) (w' : World) : Prop := ∃ ua ui ur, e = .returned (lruV ua ui ur) ∧ LrR w' B ua ui ur y ∧ Grew w w' ∧ ∀ g, g < w.heap.size → Far3 g va vi vr → Far3 g ua ui ur
set_option maxRecDepth 100000 in
set_option maxHeartbeats 4000000 in
theorem lastp_any {B : Nat} (va vi vr : Value) (x : Lr) (w : World) (R : LrR w B va vi vr x) (hs : SmP x) (hok : OkP x) (h0 : 0 < x.a.length) (hB : B ≤ w.heap.size) : Calls Try.prog 46 #[lruV va vi vr] w (RetLm (balS x) B w va vi vr) := by
  obtain ⟨aa, ca, rfl⟩ := R.a.len
  obtain ⟨ai, ci, rfl⟩ := R.i.len
  obtain ⟨ar, cr, rfl⟩ := R.r.len
  obtain ⟨na, hna⟩ : ∃ na, x.a.length = na := ⟨_, rfl⟩
  obtain ⟨ni, hni⟩ : ∃ ni, x.i.length = ni := ⟨_, rfl⟩
  obtain ⟨nr, hnr⟩ : ∃ nr, x.r.length = nr := ⟨_, rfl⟩
  rw [hna, hni, hnr] at R ⊢
  have HNL := Lib.hid (And.intro hna (And.intro hni hnr))
  clear hna hni hnr
  have W0 : Grew w ((w.alloc (.cells #[(.slice aa na ca), (.slice ai ni ci), (.slice ar nr cr)] 27)).alloc (.cells n3 27)) := ((Grew.refl w).alloc _).alloc _
  obtain ⟨sx, hsx⟩ : ∃ sx, w.heap.size = sx := ⟨_, rfl⟩
  have X : Own ((w.alloc (.cells #[(.slice aa na ca), (.slice ai ni ci), (.slice ar nr cr)] 27)).alloc (.cells n3 27)) sx 27 #[(.slice aa na ca), (.slice ai ni ci), (.slice ar nr cr)] := hsx ▸ (Own.new w 27 #[(.slice aa na ca), (.slice ai ni ci), (.slice ar nr cr)]).alloc _
  have S : Own ((w.alloc (.cells #[(.slice aa na ca), (.slice ai ni ci), (.slice ar nr cr)] 27)).alloc (.cells n3 27)) (sx + 1) 27 n3 := hsx ▸ Own.new2 w (.cells #[(.slice aa na ca), (.slice ai ni ci), (.slice ar nr cr)] 27) 27 n3
  have hz0 : ((w.alloc (.cells #[(.slice aa na ca), (.slice ai ni ci), (.slice ar nr cr)] 27)).alloc (.cells n3 27)).heap.size = sx + 2 := by simp; omega
  have HR := Lib.hid R
  have HS := Lib.hid hs
  have HSX := Lib.hid hsx
  have hsw : w.heap.size ≤ sx := by omega
  clear R hs
  have hln := HNL.out.1
  obtain ⟨m, rfl⟩ : ∃ m, na = m + 1 := ⟨na - 1, by omega⟩
  obtain ⟨g, e, hg, p0⟩ := rowI_at HR.out.a (show m < x.a.length by omega)
  have hp := W0.cells.1 g m hg
  rw [p0, (last_at (show x.a.length = m + 1 by omega)).1] at hp
  subst e
  clear p0
  have hne : x.a ≠ [] := fun e => by rw [e] at h0; simp at h0
  have hwl := wol_last (nodup_a hok) hne
  have hni : ¬x.a.getLastD 0 ∈ x.i := fun h => (List.nodup_append.1 hok.2.1).2.2 _ (by have h7 := getD_mem (show m < x.a.length by omega); rwa [(last_at (show x.a.length = m + 1 by omega)).1] at h7) _ h rfl
  have hmi := wol_not hni
  have HBS := Lib.hid (show balS x = (match decide (x.a.getLastD 0 ∈ x.r) with
    | true => ⟨x.a.getLastD 0 :: x.a.dropLast, x.i, wol x.r (x.a.getLastD 0)⟩
    | false => ⟨x.a.dropLast, x.a.getLastD 0 :: x.i, x.r⟩) from rfl)
  have hm0 : m ≤ 1000 := by have := HS.out.a; omega
  clear hne hni hln h0 hok HNL
  obtain ⟨f, hf⟩ : ∃ f, x.a.getLastD 0 = f := ⟨_, rfl⟩
  rw [hf] at hp hwl hmi HBS
  clear hf
  have i0 : (0 : Int) ≤ (m : Int) := by omega
  have i1 : (m : Int) < (m : Int) + 1 := by omega

  have hw64 : wrap64 (m : Int) = (m : Int) := IntWalk.wrap64_in _ (by omega)
  have HWL := Lib.hid hwl
  have HMI := Lib.hid hmi
  have HB := Lib.hid hB
  clear hwl hmi hB
  cases hr : decide (f ∈ x.r)
  · have HX := Lib.hid (show balS x = ⟨x.a.dropLast, f :: x.i, x.r⟩ from by rw [HBS.out, hr])
    have HM1 := Lib.hid HWL.out
    have HM2 := Lib.hid (show f :: wol x.i f = f :: x.i from by rw [HMI.out])
    obtain ⟨M1, hM1⟩ : ∃ M, x.a.dropLast = M := ⟨_, rfl⟩
    obtain ⟨M2, hM2⟩ : ∃ M, f :: x.i = M := ⟨_, rfl⟩
    rw [hM1] at HM1 HX
    rw [hM2] at HM2 HX
    clear HWL HMI HBS hM1 hM2
    have H1 := Lib.hid hr
    clear hr
    obtain ⟨x0, x1, x2, x3, x4, x5⟩ := X.three
    go_enter Try.func46, Try.ntmps46
    go_upto_region 1 with fail
    try rw [hsx]
    generalize World.alloc (World.alloc w _) _ = wb at *
    clear hsx
    go_wp2_with fail
    with_reducible refine (refd_v _ _ _ _ _ _ (HR.out.grew W0).r (by have := HS.out.r; omega) H1.out).mono ?_
    rintro e_w2 w2 ⟨rfl, g1⟩
    clear hp
    replace X := X.grew g1
    replace S := S.grew g1
    replace W0 := W0.trans g1
    clear g1 x0 x1 x2 x3 x4 x5
    obtain ⟨x0, x1, x2, x3, x4, x5⟩ := X.three
    go_upto_region 4 with fail
    have ne1 : sx + 1 ≠ sx := by omega
    replace X := X.drew
    replace S := S.drew
    replace W0 := W0.drew
    clear x0 x1 x2 x3 x4 x5
    obtain ⟨x0, x1, x2, x3, x4, x5⟩ := X.three
    obtain ⟨s0, s1, s2, s3, s4, s5⟩ := S.three
    have HRD := Lib.hid (HR.out.grew W0)
    have hzz := S.lt
    go_region_held3 (fun w' => w'.cell? ⟨sx, 0, none⟩ = some (.slice (some ⟨g, 0, none⟩) (m + 1) ca) ∧ w'.cell? ⟨sx, 1, none⟩ = some (.slice ai ni ci) ∧ w'.cell? ⟨sx, 2, none⟩ = some (.slice ar nr cr))
      (refine ⟨?_, ?_, ?_⟩ <;> (repeat (first | with_reducible assumption | with_reducible refine far_drew ?_ | with_reducible refine far_cell ne1 ?_)))
      (first
        | (go_at_call 38; (with_reducible refine (without_w (.slice (some ⟨g, 0, none⟩) (m + 1) ca) f _ HRD.out.a HS.out.a HM1.out).mono ?_); rintro e_w5 w5 ⟨v5, rfl, R5, g1⟩
           obtain ⟨a5, c5, rfl⟩ := R5.len
           have HR5 := Lib.hid R5
           have hz5 : sx + 1 < w5.heap.size := by have := S.lt; have := g1.size; omega
           replace HRD := Lib.hid (HRD.out.grew g1)
           replace X := X.grew g1
           replace S := S.grew g1
           replace W0 := W0.trans g1
           clear g1 R5 x0 x1 x2 x3 x4 x5 s0 s1 s2 s3 s4 s5
           obtain ⟨x0, x1, x2, x3, x4, x5⟩ := X.three
           obtain ⟨s0, s1, s2, s3, s4, s5⟩ := S.three)
        | (go_at_call 34; (with_reducible refine (toFront_w (.slice ai ni ci) f _ HRD.out.i HS.out.i HM2.out).mono ?_); rintro e_w6 w6 ⟨v6, rfl, R6, g1⟩
           obtain ⟨a6, c6, rfl⟩ := R6.len
           have HR6 := Lib.hid R6
           have hz6 : sx + 1 < w6.heap.size := by have := S.lt; have := g1.size; omega
           replace HR5 := Lib.hid (HR5.out.grew g1)
           replace HRD := Lib.hid (HRD.out.grew g1)
           replace X := X.grew g1
           replace S := S.grew g1
           replace W0 := W0.trans g1
           clear g1 R6 x0 x1 x2 x3 x4 x5 s0 s1 s2 s3 s4 s5
           obtain ⟨x0, x1, x2, x3, x4, x5⟩ := X.three
           obtain ⟨s0, s1, s2, s3, s4, s5⟩ := S.three))
    have hzd : sx + 1 < w2.drew.heap.size := hzz
    go_wp2
    generalize hw : World.setCell _ _ _ = wz
    have RR := S.store3 hw
    have gB := W0.far3 hw (show w.heap.size ≤ sx + 1 by omega)
    have hBs := HB.out
    have hsx := HSX.out
    obtain ⟨u0, u1, u2, u3, u4, u5⟩ := RR.three
    refine bodyPost_ret (v := lruV (.slice a5 M1.length c5) (.slice a6 M2.length c6) (.slice ar nr cr)) (by simp [results, Try.results46, go_sem, u0, u1, u2]) rfl ⟨_, _, _, rfl, by rw [HX.out]; exact ⟨(HR5.out.far3 hw hzd).wider (by omega), (HR6.out.far3 hw hz5).wider (by omega), (HR.out.grew gB).r⟩, gB, fun q hq hF => ⟨far_of HR5.out (by omega), far_of HR6.out (by omega), hF.2.2⟩⟩
  · have HX := Lib.hid (show balS x = ⟨f :: x.a.dropLast, x.i, wol x.r f⟩ from by rw [HBS.out, hr])
    have HM1 := Lib.hid (show f :: wol x.a f = f :: x.a.dropLast from by rw [HWL.out])
    obtain ⟨M1, hM1⟩ : ∃ M, f :: x.a.dropLast = M := ⟨_, rfl⟩
    obtain ⟨M2, hM2⟩ : ∃ M, wol x.r f = M := ⟨_, rfl⟩
    have HM2 := Lib.hid hM2
    rw [hM1] at HM1 HX
    rw [hM2] at HX
    clear HWL HMI HBS hM1 hM2
    have H1 := Lib.hid hr
    clear hr
    obtain ⟨x0, x1, x2, x3, x4, x5⟩ := X.three
    go_enter Try.func46, Try.ntmps46
    go_upto_region 1 with fail
    try rw [hsx]
    generalize World.alloc (World.alloc w _) _ = wb at *
    clear hsx
    go_wp2_with fail
    with_reducible refine (refd_v _ _ _ _ _ _ (HR.out.grew W0).r (by have := HS.out.r; omega) H1.out).mono ?_
    rintro e_w2 w2 ⟨rfl, g1⟩
    clear hp
    replace X := X.grew g1
    replace S := S.grew g1
    replace W0 := W0.trans g1
    clear g1 x0 x1 x2 x3 x4 x5
    obtain ⟨x0, x1, x2, x3, x4, x5⟩ := X.three
    go_upto_region 3 with fail
    have ne1 : sx + 1 ≠ sx := by omega
    replace X := X.drew
    replace S := S.drew
    replace W0 := W0.drew
    clear x0 x1 x2 x3 x4 x5
    obtain ⟨x0, x1, x2, x3, x4, x5⟩ := X.three
    obtain ⟨s0, s1, s2, s3, s4, s5⟩ := S.three
    have HRD := Lib.hid (HR.out.grew W0)
    have hzz := S.lt
    go_region_held3 (fun w' => w'.cell? ⟨sx, 0, none⟩ = some (.slice (some ⟨g, 0, none⟩) (m + 1) ca) ∧ w'.cell? ⟨sx, 1, none⟩ = some (.slice ai ni ci) ∧ w'.cell? ⟨sx, 2, none⟩ = some (.slice ar nr cr))
      (refine ⟨?_, ?_, ?_⟩ <;> (repeat (first | with_reducible assumption | with_reducible refine far_drew ?_ | with_reducible refine far_cell ne1 ?_)))
      (first
        | (go_at_call 34; (with_reducible refine (toFront_w (.slice (some ⟨g, 0, none⟩) (m + 1) ca) f _ HRD.out.a HS.out.a HM1.out).mono ?_); rintro e_w5 w5 ⟨v5, rfl, R5, g1⟩
           obtain ⟨a5, c5, rfl⟩ := R5.len
           have HR5 := Lib.hid R5
           have hz5 : sx + 1 < w5.heap.size := by have := S.lt; have := g1.size; omega
           replace HRD := Lib.hid (HRD.out.grew g1)
           replace X := X.grew g1
           replace S := S.grew g1
           replace W0 := W0.trans g1
           clear g1 R5 x0 x1 x2 x3 x4 x5 s0 s1 s2 s3 s4 s5
           obtain ⟨x0, x1, x2, x3, x4, x5⟩ := X.three
           obtain ⟨s0, s1, s2, s3, s4, s5⟩ := S.three)
        | (go_at_call 38; (with_reducible refine (without_w (.slice ar nr cr) f _ HRD.out.r HS.out.r HM2.out).mono ?_); rintro e_w6 w6 ⟨v6, rfl, R6, g1⟩
           obtain ⟨a6, c6, rfl⟩ := R6.len
           have HR6 := Lib.hid R6
           have hz6 : sx + 1 < w6.heap.size := by have := S.lt; have := g1.size; omega
           replace HR5 := Lib.hid (HR5.out.grew g1)
           replace HRD := Lib.hid (HRD.out.grew g1)
           replace X := X.grew g1
           replace S := S.grew g1
           replace W0 := W0.trans g1
           clear g1 R6 x0 x1 x2 x3 x4 x5 s0 s1 s2 s3 s4 s5
           obtain ⟨x0, x1, x2, x3, x4, x5⟩ := X.three
           obtain ⟨s0, s1, s2, s3, s4, s5⟩ := S.three))
    have hzd : sx + 1 < w2.drew.heap.size := hzz
    go_wp2
    generalize hw : World.setCell _ _ _ = wz
    have RR := S.store3 hw
    have gB := W0.far3 hw (show w.heap.size ≤ sx + 1 by omega)
    have hBs := HB.out
    have hsx := HSX.out
    obtain ⟨u0, u1, u2, u3, u4, u5⟩ := RR.three
    refine bodyPost_ret (v := lruV (.slice a5 M1.length c5) (.slice ai ni ci) (.slice a6 M2.length c6)) (by simp [results, Try.results46, go_sem, u0, u1, u2]) rfl ⟨_, _, _, rfl, by rw [HX.out]; exact ⟨(HR5.out.far3 hw hzd).wider (by omega), (HR.out.grew gB).i, (HR6.out.far3 hw hz5).wider (by omega)⟩, gB, fun q hq hF => ⟨far_of HR5.out (by omega), hF.2.1, far_of HR6.out (by omega)⟩⟩
/-- What holds between two rounds: the box gn holds the lists cur. -/
def BpRel (w : World) (sx gn na : Nat) (va : Array Value) (E : Lr) (iv : Value) (wr : World) : Prop := ∃ (k : Nat) (cur : Lr) (a1 : Option Addr) (c1 : Nat) (a2 : Option Addr) (c2 : Nat) (a3 : Option Addr) (c3 : Nat), iv = .int .i64 k ∧ k ≤ na ∧ balN (na - k) cur = E ∧ OkP cur ∧
  cur.a.length + cur.i.length ≤ 1000 ∧ cur.r.length ≤ 1000 ∧ LrR wr (sx + 2) (.slice a1 cur.a.length c1) (.slice a2 cur.i.length c2) (.slice a3 cur.r.length c3) cur ∧ Far3 gn (.slice a1 cur.a.length c1) (.slice a2 cur.i.length c2) (.slice a3 cur.r.length c3) ∧
  Own wr gn 27 #[.slice a1 cur.a.length c1, .slice a2 cur.i.length c2, .slice a3 cur.r.length c3] ∧ Own wr sx 27 va ∧ Own wr (sx + 1) 27 n3 ∧ Grew w wr
set_option maxRecDepth 100000 in
set_option maxHeartbeats 8000000 in
theorem balp_any {B : Nat} (va vi vr : Value) (x : Lr) (w : World) (R : LrR w B va vi vr x) (hs2 : x.a.length + x.i.length ≤ 1000) (hs3 : x.r.length ≤ 1000) (hw : WfR x) : Calls Try.prog 21 #[lruV va vi vr] w (RetLr (balX x) w.heap.size w) := by
  have hs : SmP x := ⟨by omega, by omega, hs3⟩
  obtain ⟨aa, ca, rfl⟩ := R.a.len
  obtain ⟨ai, ci, rfl⟩ := R.i.len
  obtain ⟨ar, cr, rfl⟩ := R.r.len
  obtain ⟨na, hna⟩ : ∃ na, x.a.length = na := ⟨_, rfl⟩
  obtain ⟨ni, hni⟩ : ∃ ni, x.i.length = ni := ⟨_, rfl⟩
  obtain ⟨nr, hnr⟩ : ∃ nr, x.r.length = nr := ⟨_, rfl⟩
  rw [hna, hni, hnr] at R ⊢
  have HNL := Lib.hid (And.intro hna (And.intro hni hnr))
  clear hna hni hnr
  have W0 : Grew w ((w.alloc (.cells #[(.slice aa na ca), (.slice ai ni ci), (.slice ar nr cr)] 27)).alloc (.cells n3 27)) := ((Grew.refl w).alloc _).alloc _
  obtain ⟨sx, hsx⟩ : ∃ sx, w.heap.size = sx := ⟨_, rfl⟩
  have X : Own ((w.alloc (.cells #[(.slice aa na ca), (.slice ai ni ci), (.slice ar nr cr)] 27)).alloc (.cells n3 27)) sx 27 #[(.slice aa na ca), (.slice ai ni ci), (.slice ar nr cr)] := hsx ▸ (Own.new w 27 #[(.slice aa na ca), (.slice ai ni ci), (.slice ar nr cr)]).alloc _
  have S : Own ((w.alloc (.cells #[(.slice aa na ca), (.slice ai ni ci), (.slice ar nr cr)] 27)).alloc (.cells n3 27)) (sx + 1) 27 n3 := hsx ▸ Own.new2 w (.cells #[(.slice aa na ca), (.slice ai ni ci), (.slice ar nr cr)] 27) 27 n3
  have hz0 : ((w.alloc (.cells #[(.slice aa na ca), (.slice ai ni ci), (.slice ar nr cr)] 27)).alloc (.cells n3 27)).heap.size = sx + 2 := by simp; omega
  have HR := Lib.hid R
  have HS := Lib.hid hs
  have HSX := Lib.hid hsx
  have hsw : w.heap.size ≤ sx := by omega
  clear R hs
  have HW := Lib.hid hw
  clear hw
  cases h0 : okB x
  · have HX := Lib.hid (show balX x = x from by unfold balX; rw [h0])
    have H0 := Lib.hid h0
    clear h0 HNL
    obtain ⟨x0, x1, x2, x3, x4, x5⟩ := X.three
    go_enter Try.func21, Try.ntmps21
    go_upto_region 1 with fail
    try rw [hsx]
    generalize World.alloc (World.alloc w _) _ = wb at *
    clear hsx
    go_wp2_with fail
    with_reducible refine (copied_any _ _ _ _ _ (HR.out.grew W0) HS.out).mono ?_
    rintro e_w1 w1 ⟨v1, v2, v3, rfl, RN, g1⟩
    obtain ⟨a1, c1, rfl⟩ := RN.a.len
    obtain ⟨a2, c2, rfl⟩ := RN.i.len
    obtain ⟨a3, c3, rfl⟩ := RN.r.len
    obtain ⟨l1, hl1⟩ : ∃ n, x.a.length = n := ⟨_, rfl⟩
    obtain ⟨l2, hl2⟩ : ∃ n, x.i.length = n := ⟨_, rfl⟩
    obtain ⟨l3, hl3⟩ : ∃ n, x.r.length = n := ⟨_, rfl⟩
    rw [hl1, hl2, hl3] at RN ⊢
    rw [hz0] at RN
    clear hl1 hl2 hl3 hz0
    have gz := g1.size
    replace X := X.grew g1
    replace S := S.grew g1
    replace W0 := W0.trans g1
    clear g1 x0 x1 x2 x3 x4 x5
    obtain ⟨x0, x1, x2, x3, x4, x5⟩ := X.three
    have hgn : sx + 1 < w1.heap.size := S.lt
    have N := Own.new w1 27 #[.slice a1 l1 c1, .slice a2 l2 c2, .slice a3 l3 c3]
    have FN0 := RN.farN
    obtain ⟨gn, hgn2⟩ : ∃ gn, w1.heap.size = gn := ⟨_, rfl⟩
    go_upto_region 2 with fail
    have G2 := (Grew.refl w1).alloc (.cells #[.slice a1 l1 c1, .slice a2 l2 c2, .slice a3 l3 c3] 27)
    replace X := X.grew G2
    replace S := S.grew G2
    replace W0 := W0.trans G2
    have HN := Lib.hid (RN.grew G2)
    have HFN := Lib.hid FN0
    clear G2 RN FN0 x0 x1 x2 x3 x4 x5 gz
    rw [hgn2] at N HFN hgn
    generalize World.alloc w1 _ = w2 at *
    clear hgn2
    obtain ⟨x0, x1, x2, x3, x4, x5⟩ := X.three
    obtain ⟨n0, n1, n2, n3a, n4, n5⟩ := N.three
    go_wp2_with fail
    with_reducible refine (pchk_v _ _ _ _ _ (HR.out.grew W0) HS.out HW.out H0.out).mono ?_
    rintro e_w3 w3 ⟨rfl, g1⟩
    replace X := X.grew g1
    replace S := S.grew g1
    replace W0 := W0.trans g1
    replace N := N.grew g1
    replace HN := Lib.hid (HN.out.grew g1)
    clear g1 x0 x1 x2 x3 x4 x5 n0 n1 n2 n3a n4 n5
    obtain ⟨x0, x1, x2, x3, x4, x5⟩ := X.three
    obtain ⟨n0, n1, n2, n3a, n4, n5⟩ := N.three
    have HQ : Hid (LrR _ (sx + 2) (.slice a1 l1 c1) (.slice a2 l2 c2) (.slice a3 l3 c3) x) := Lib.hid HN.out
    clear x0 x1 x2 x3 x4 x5
    obtain ⟨s0, s1, s2, s3, s4, s5⟩ := S.three
    go_wp2
    generalize hw : World.setCell _ _ _ = wz
    have RR := S.store3 hw
    have gB := W0.far3 hw (show w.heap.size ≤ sx + 1 by omega)
    obtain ⟨u0, u1, u2, u3, u4, u5⟩ := RR.three
    refine bodyPost_ret (v := lruV (.slice a1 l1 c1) (.slice a2 l2 c2) (.slice a3 l3 c3)) (by simp [results, Try.results21, go_sem, u0, u1, u2]) rfl ⟨_, _, _, rfl, by rw [HX.out]; exact (HQ.out.far3N hw (by omega)).wider (by omega), gB⟩
  · have H0 := Lib.hid h0
    have HX := Lib.hid (show balX x = balN x.a.length x from by unfold balX; rw [h0])
    have hok := of_decide_eq_true h0
    have HOK := Lib.hid hok
    have HLS := Lib.hid (And.intro hs2 hs3)
    clear h0 hok hs2 hs3
    obtain ⟨E, hE⟩ : ∃ E, balX x = E := ⟨_, rfl⟩
    have HE := Lib.hid (HX.out.symm.trans hE)
    rw [hE]
    clear hE HX
    obtain ⟨x0, x1, x2, x3, x4, x5⟩ := X.three
    go_enter Try.func21, Try.ntmps21
    go_upto_region 1 with fail
    try rw [hsx]
    generalize World.alloc (World.alloc w _) _ = wb at *
    clear hsx
    go_wp2_with fail
    with_reducible refine (copied_any _ _ _ _ _ (HR.out.grew W0) HS.out).mono ?_
    rintro e_w1 w1 ⟨v1, v2, v3, rfl, RN, g1⟩
    obtain ⟨a1, c1, rfl⟩ := RN.a.len
    obtain ⟨a2, c2, rfl⟩ := RN.i.len
    obtain ⟨a3, c3, rfl⟩ := RN.r.len
    obtain ⟨l1, hl1⟩ : ∃ n, x.a.length = n := ⟨_, rfl⟩
    obtain ⟨l2, hl2⟩ : ∃ n, x.i.length = n := ⟨_, rfl⟩
    obtain ⟨l3, hl3⟩ : ∃ n, x.r.length = n := ⟨_, rfl⟩
    rw [hl1, hl2, hl3] at RN ⊢
    rw [hz0] at RN
    have HL1 := Lib.hid (And.intro hl1 (And.intro hl2 hl3))
    clear hl1 hl2 hl3 hz0
    have gz := g1.size
    replace X := X.grew g1
    replace S := S.grew g1
    replace W0 := W0.trans g1
    clear g1 x0 x1 x2 x3 x4 x5
    obtain ⟨x0, x1, x2, x3, x4, x5⟩ := X.three
    have hgn : sx + 1 < w1.heap.size := S.lt
    have N := Own.new w1 27 #[.slice a1 l1 c1, .slice a2 l2 c2, .slice a3 l3 c3]
    have FN0 := RN.farN
    obtain ⟨gn, hgn2⟩ : ∃ gn, w1.heap.size = gn := ⟨_, rfl⟩
    go_upto_region 2 with fail
    have G2 := (Grew.refl w1).alloc (.cells #[.slice a1 l1 c1, .slice a2 l2 c2, .slice a3 l3 c3] 27)
    replace X := X.grew G2
    replace S := S.grew G2
    replace W0 := W0.trans G2
    have HN := Lib.hid (RN.grew G2)
    have HFN := Lib.hid FN0
    clear G2 RN FN0 x0 x1 x2 x3 x4 x5 gz
    rw [hgn2] at N HFN hgn
    generalize World.alloc w1 _ = w2 at *
    clear hgn2
    obtain ⟨x0, x1, x2, x3, x4, x5⟩ := X.three
    obtain ⟨n0, n1, n2, n3a, n4, n5⟩ := N.three
    go_wp2_with fail
    with_reducible refine (pchk_v _ _ _ _ _ (HR.out.grew W0) HS.out HW.out H0.out).mono ?_
    rintro e_w3 w3 ⟨rfl, g1⟩
    replace X := X.grew g1
    replace S := S.grew g1
    replace W0 := W0.trans g1
    replace N := N.grew g1
    replace HN := Lib.hid (HN.out.grew g1)
    clear g1 x0 x1 x2 x3 x4 x5 n0 n1 n2 n3a n4 n5
    obtain ⟨x0, x1, x2, x3, x4, x5⟩ := X.three
    obtain ⟨n0, n1, n2, n3a, n4, n5⟩ := N.three
    have hna : x.a.length = na := HNL.out.1
    have hl1 : x.a.length = l1 := HL1.out.1
    have hl2 : x.i.length = l2 := HL1.out.2.1
    have hl3 : x.r.length = l3 := HL1.out.2.2
    have hna2 : na ≤ 1000 := by have := HLS.out.1; omega
    go_wp2_with fail
    go_loopw [13] (BpRel w sx gn na #[.slice aa na ca, .slice ai ni ci, .slice ar nr cr] E) (fun iv _ => na - (intOf iv).toNat)
    case atStart =>
      subst hl1 hl2 hl3
      exact ⟨0, x, a1, c1, a2, c2, a3, c3, rfl, by omega, by rw [Nat.sub_zero, ← hna]; exact HE.out, HOK.out, HLS.out.1, HLS.out.2, HN.out, HFN.out, N, X, S, W0⟩
    case round =>
      clear HN HFN N X S W0 x0 x1 x2 x3 x4 x5 n0 n1 n2 n3a n4 n5 HNL HL1 hna hl1 hl2 hl3
      obtain ⟨k, cur, a1, c1, a2, c2, a3, c3, rfl, hk, hE, hok, hl12, hl3, RN, FN, N, X, S, W0⟩ := hrel
      obtain ⟨wo, rfl⟩ : ∃ wo : World, wo = wr := ⟨_, rfl⟩
      obtain ⟨l1, hl1⟩ : ∃ n, cur.a.length = n := ⟨_, rfl⟩
      obtain ⟨l2, hl2⟩ : ∃ n, cur.i.length = n := ⟨_, rfl⟩
      obtain ⟨l3, hl3'⟩ : ∃ n, cur.r.length = n := ⟨_, rfl⟩
      rw [hl1, hl2, hl3'] at RN FN N
      have HN := Lib.hid RN
      have HFN := Lib.hid FN
      have HE2 := Lib.hid hE
      have HOK2 := Lib.hid hok
      have HL := Lib.hid (And.intro hl12 hl3)
      have HL1 := Lib.hid (And.intro hl1 (And.intro hl2 hl3'))
      have l1c : l1 ≤ 1000 := by omega
      have l2c : l2 ≤ 1000 := by omega
      clear RN FN hE hok hl12 hl3 hl1 hl2 hl3'
      have hgn2 : gn < wo.heap.size := N.lt
      obtain ⟨x0, x1, x2, x3, x4, x5⟩ := X.three
      obtain ⟨n0, n1, n2, n3a, n4, n5⟩ := N.three
      by_cases hlt : k < na
      · have i0 : (k : Int) < (na : Int) := by omega
        by_cases hle : l1 ≤ l2
        · have i1 : (l1 : Int) ≤ (l2 : Int) := by omega
          have HX2 : Hid (E = cur) := Lib.hid (by
            rw [← HE2.out]
            obtain ⟨q, hq⟩ : ∃ q, na - k = q + 1 := ⟨na - k - 1, by omega⟩
            rw [hq, balN, if_neg (by rw [HL1.out.1, HL1.out.2.1]; omega)])
          have HQ : Hid (LrR _ (sx + 2) (.slice a1 l1 c1) (.slice a2 l2 c2) (.slice a3 l3 c3) cur) := Lib.hid HN.out
          clear x0 x1 x2 x3 x4 x5
          obtain ⟨s0, s1, s2, s3, s4, s5⟩ := S.three
          go_wp2
          generalize hw : World.setCell _ _ _ = wz
          have RR := S.store3 hw
          have gB := W0.far3 hw (show w.heap.size ≤ sx + 1 by omega)
          obtain ⟨u0, u1, u2, u3, u4, u5⟩ := RR.three
          refine bodyPost_ret (v := lruV (.slice a1 l1 c1) (.slice a2 l2 c2) (.slice a3 l3 c3)) (by simp [results, Try.results21, go_sem, u0, u1, u2]) rfl ⟨_, _, _, rfl, by rw [HX2.out]; exact (HQ.out.far3N hw (by omega)).wider (by omega), gB⟩
        · have i1 : (l2 : Int) < (l1 : Int) := by omega
          have HX2 : Hid (balN (na - (k + 1)) (balS cur) = E) := Lib.hid (by
            rw [← HE2.out]
            obtain ⟨q, hq⟩ : ∃ q, na - k = q + 1 := ⟨na - k - 1, by omega⟩
            rw [show na - (k + 1) = q by omega, hq]
            conv => rhs; rw [balN]
            rw [if_pos (by rw [HL1.out.1, HL1.out.2.1]; omega)])
          have hpos : 0 < cur.a.length := by rw [HL1.out.1]; omega
          have HPO := Lib.hid hpos
          have HSM : Hid (SmP cur) := Lib.hid ⟨by have := HL.out.1; omega, by have := HL.out.1; omega, HL.out.2⟩
          have hbx := HN.out
          have hsz2 : sx + 2 ≤ wo.heap.size := by omega
          clear hpos hbx
          go_wp2_with fail
          with_reducible refine (lastp_any _ _ _ cur _ HN.out HSM.out HOK2.out HPO.out hsz2).mono ?_
          rintro e_w5 w5 ⟨v1, v2, v3, rfl, RN, g1, hF⟩
          obtain ⟨a5, c5, rfl⟩ := RN.a.len
          obtain ⟨a6, c6, rfl⟩ := RN.i.len
          obtain ⟨a7, c7, rfl⟩ := RN.r.len
          have HF7 := Lib.hid (hF gn hgn2 HFN.out)
          have HN7 := Lib.hid RN
          obtain ⟨l5, hl5⟩ : ∃ n, (balS cur).a.length = n := ⟨_, rfl⟩
          obtain ⟨l6, hl6⟩ : ∃ n, (balS cur).i.length = n := ⟨_, rfl⟩
          obtain ⟨l7, hl7⟩ : ∃ n, (balS cur).r.length = n := ⟨_, rfl⟩
          rw [hl5, hl6, hl7] at HF7 HN7 ⊢
          have HL5 := Lib.hid (And.intro hl5 (And.intro hl6 hl7))
          replace X := X.grew g1
          replace S := S.grew g1
          replace W0 := W0.trans g1
          replace N := N.grew g1
          clear RN hF g1 x0 x1 x2 x3 x4 x5 n0 n1 n2 n3a n4 n5 hl5 hl6 hl7
          obtain ⟨x0, x1, x2, x3, x4, x5⟩ := X.three
          obtain ⟨n0, n1, n2, n3a, n4, n5⟩ := N.three
          go_upto_region 8 with fail
          generalize hw : World.setCell _ _ _ = wn
          replace N := N.store3 hw
          replace X := X.far3 hw (show sx ≠ gn by omega)
          replace S := S.far3 hw (show sx + 1 ≠ gn by omega)
          replace W0 := W0.far3 hw (show w.heap.size ≤ gn by omega)
          have HN2 := Lib.hid (LrR.set3F HN7.out hw HF7.out)
          clear hw x0 x1 x2 x3 x4 x5 n0 n1 n2 n3a n4 n5 HN HN7
          have HSl := Lib.hid (balS_len HPO.out)
          have HOKn := Lib.hid (ok_balS HOK2.out (by rw [HL1.out.1, HL1.out.2.1]; omega))
          go_wp2
          obtain ⟨e5, e6, e7⟩ := HL5.out
          subst e5 e6 e7
          exact ⟨⟨k + 1, balS cur, a5, c5, a6, c6, a7, c7, by go_num, by omega, HX2.out, HOKn.out.1, by have := HSl.out.1; have := HL.out.1; omega, by have := HSl.out.2; have := HL.out.2; omega, HN2.out, HF7.out, N, X, S, W0⟩, by simp [intOf]; omega⟩
      · obtain rfl : k = na := by omega
        have HX2 : Hid (E = cur) := Lib.hid (by rw [← HE2.out, Nat.sub_self]; rfl)
        have HQ : Hid (LrR _ (sx + 2) (.slice a1 l1 c1) (.slice a2 l2 c2) (.slice a3 l3 c3) cur) := Lib.hid HN.out
        clear x0 x1 x2 x3 x4 x5
        obtain ⟨s0, s1, s2, s3, s4, s5⟩ := S.three
        go_wp2
        generalize hw : World.setCell _ _ _ = wz
        have RR := S.store3 hw
        have gB := W0.far3 hw (show w.heap.size ≤ sx + 1 by omega)
        obtain ⟨u0, u1, u2, u3, u4, u5⟩ := RR.three
        refine bodyPost_ret (v := lruV (.slice a1 l1 c1) (.slice a2 l2 c2) (.slice a3 l3 c3)) (by simp [results, Try.results21, go_sem, u0, u1, u2]) rfl ⟨_, _, _, rfl, by rw [HX2.out]; exact (HQ.out.far3N hw (by omega)).wider (by omega), gB⟩
theorem pbal_any {B : Nat} (va vi vr : Value) (x : Lr) (w : World) (R : LrR w B va vi vr x) (hs2 : x.a.length + x.i.length ≤ 1000) (hs3 : x.r.length ≤ 1000) (hw : WfR x) (hB : B ≤ w.heap.size) : Calls Try.prog 21 #[lruV va vi vr] w (RetLr (balX x) B w) :=
  (balp_any va vi vr x w R hs2 hs3 hw).mono fun _ _ ⟨ua, ui, ur, e, h, g⟩ => ⟨ua, ui, ur, e, h.wider hB, g⟩
end Go.Proofs.Yteaofieijginhaa
