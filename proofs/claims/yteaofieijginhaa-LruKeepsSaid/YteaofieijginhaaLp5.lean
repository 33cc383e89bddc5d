/- The program's copied, Add, Remove, Touch, lastMoved (layer 8): contracts. -/
import Derived.Test.YteaofieijginhaaLp4
import Derived.Test.YteaofieijginhaaLf5
namespace Go.Proofs.Yteaofieijginhaa
open Go.RowKit Go.Mine

/-- No slice lies in block g. -/
def Far3 (g : Nat) (va vi vr : Value) : Prop := va.ownBlock ≠ some g ∧ vi.ownBlock ≠ some g ∧ vr.ownBlock ≠ some g
theorem LrR.far3N {w w' : World} {B b : Nat} {va vi vr x y z : Value} {l : Lr} (h : LrR w B va vi vr l) (hw : ((w.setCell ⟨b, 0, none⟩ x).setCell ⟨b, 1, none⟩ y).setCell ⟨b, 2, none⟩ z = w') (hb : b < B) : LrR w' B va vi vr l :=
  ⟨h.a.far3 hw hb, h.i.far3 hw hb, h.r.far3 hw hb⟩
theorem RowE.setF {T : TypeId} {w : World} {B b i : Nat} {v u : Value} {L : List Int} (h : RowE T 1 enc1 w B v L) (hb : v.ownBlock ≠ some b) : RowE T 1 enc1 (w.setCell ⟨b, i, none⟩ u) B v L :=
  RowE.keptG (r := some b) h (grown_set (p := ⟨b, i, none⟩) (grown_refl _ _) (.inl rfl) u) (fun k e => by injection e with e; exact e ▸ hb)
theorem LrR.setF {w : World} {B b i : Nat} {va vi vr u : Value} {l : Lr} (h : LrR w B va vi vr l) (hb : Far3 b va vi vr) : LrR (w.setCell ⟨b, i, none⟩ u) B va vi vr l := ⟨RowE.setF h.a hb.1, RowE.setF h.i hb.2.1, RowE.setF h.r hb.2.2⟩
theorem RowE.set3F {T : TypeId} {w w' : World} {B b : Nat} {v x y z : Value} {L : List Int} (h : RowE T 1 enc1 w B v L) (hw : ((w.setCell ⟨b, 0, none⟩ x).setCell ⟨b, 1, none⟩ y).setCell ⟨b, 2, none⟩ z = w') (hb : v.ownBlock ≠ some b) : RowE T 1 enc1 w' B v L := by
  rw [← hw]
  exact RowE.setF (RowE.setF (RowE.setF h hb) hb) hb
theorem LrR.set3F {w w' : World} {B b : Nat} {va vi vr x y z : Value} {l : Lr} (h : LrR w B va vi vr l) (hw : ((w.setCell ⟨b, 0, none⟩ x).setCell ⟨b, 1, none⟩ y).setCell ⟨b, 2, none⟩ z = w') (hb : Far3 b va vi vr) : LrR w' B va vi vr l :=
  ⟨RowE.set3F h.a hw hb.1, RowE.set3F h.i hw hb.2.1, RowE.set3F h.r hw hb.2.2⟩
theorem LrR.farN {w : World} {B : Nat} {va vi vr : Value} {l : Lr} (h : LrR w B va vi vr l) : Far3 w.heap.size va vi vr :=
  ⟨fun e => by have := h.a.lt _ e; omega, fun e => by have := h.i.lt _ e; omega, fun e => by have := h.r.lt _ e; omega⟩
theorem far_of {w : World} {B g : Nat} {v : Value} {L : List Int} (h : RwI w B v L) (hg : g < B) : v.ownBlock ≠ some g := fun e => by have := h.above _ e; omega
theorem LrR.farB {w : World} {B g : Nat} {va vi vr : Value} {l : Lr} (h : LrR w B va vi vr l) (hg : g < B) : Far3 g va vi vr := ⟨far_of h.a hg, far_of h.i hg, far_of h.r hg⟩
/-- A struct is laid into a new block, cell by cell. -/
theorem grew_new3 {w w' : World} {T : TypeId} {cs : Array Value} {x y z : Value} (hw : (((w.alloc (.cells cs T)).setCell ⟨w.heap.size, 0, none⟩ x).setCell ⟨w.heap.size, 1, none⟩ y).setCell ⟨w.heap.size, 2, none⟩ z = w') : Grew w w' :=
  ((Grew.refl w).alloc (.cells cs T)).far3 hw (Nat.le_refl _)
theorem without_w {L M : List Int} {B : Nat} (v : Value) (n : Int) (w : World) (R : RwI w B v L) (hl : L.length ≤ 1000) (h : wol L n = M) : Calls Try.prog 38 #[v, .int .i64 n] w (RetL1 M w) := h ▸ without_p v n w R (by omega)
theorem toFront_w {L M : List Int} {B : Nat} (v : Value) (n : Int) (w : World) (R : RwI w B v L) (hl : L.length ≤ 1000) (h : n :: wol L n = M) : Calls Try.prog 34 #[v, .int .i64 n] w (RetL1 M w) := h ▸ toFront_p v n w R (by omega)
theorem clone_w {L : List Int} {B : Nat} (v : Value) (w : World) (R : RwI w B v L) (hl : L.length ≤ 1000) : Calls Try.prog 49 #[v] w (RetL1 L w) := clone_i v w R (by omega)
set_option maxHeartbeats 1000000 in
theorem copied_any {B : Nat} (va vi vr : Value) (x : Lr) (w : World) (R : LrR w B va vi vr x) (hs : SmP x) : Calls Try.prog 31 #[lruV va vi vr] w (RetLr x w.heap.size w) := by
  obtain ⟨aa, ca, rfl⟩ := R.a.len
  obtain ⟨ai, ci, rfl⟩ := R.i.len
  obtain ⟨ar, cr, rfl⟩ := R.r.len
  obtain ⟨na, hna⟩ : ∃ na, x.a.length = na := ⟨_, rfl⟩
  obtain ⟨ni, hni⟩ : ∃ ni, x.i.length = ni := ⟨_, rfl⟩
  obtain ⟨nr, hnr⟩ : ∃ nr, x.r.length = nr := ⟨_, rfl⟩
  rw [hna, hni, hnr] at R ⊢
  clear hna hni hnr
  have W0 : Grew w ((w.alloc (.cells #[(.slice aa na ca), (.slice ai ni ci), (.slice ar nr cr)] 27)).alloc (.cells n3 27)) := ((Grew.refl w).alloc _).alloc _
  obtain ⟨sx, hsx⟩ : ∃ sx, w.heap.size = sx := ⟨_, rfl⟩
  have X : Own ((w.alloc (.cells #[(.slice aa na ca), (.slice ai ni ci), (.slice ar nr cr)] 27)).alloc (.cells n3 27)) sx 27 #[(.slice aa na ca), (.slice ai ni ci), (.slice ar nr cr)] := hsx ▸ (Own.new w 27 #[(.slice aa na ca), (.slice ai ni ci), (.slice ar nr cr)]).alloc _
  have S : Own ((w.alloc (.cells #[(.slice aa na ca), (.slice ai ni ci), (.slice ar nr cr)] 27)).alloc (.cells n3 27)) (sx + 1) 27 n3 := hsx ▸ Own.new2 w (.cells #[(.slice aa na ca), (.slice ai ni ci), (.slice ar nr cr)] 27) 27 n3
  have hz0 : ((w.alloc (.cells #[(.slice aa na ca), (.slice ai ni ci), (.slice ar nr cr)] 27)).alloc (.cells n3 27)).heap.size = sx + 2 := by simp; omega
  have HR := Lib.hid R
  have HS := Lib.hid hs
  have HSX := Lib.hid hsx
  have hsw : w.heap.size ≤ sx := by omega
  clear R hs
  obtain ⟨x0, x1, x2, x3, x4, x5⟩ := X.three
  go_enter Try.func31, Try.ntmps31
  go_upto_region 1 with fail
  try rw [hsx]
  generalize World.alloc (World.alloc w _) _ = wb at *
  clear hsx
  have ne1 : sx + 1 ≠ sx := by omega
  replace X := X.drew
  replace S := S.drew
  replace W0 := W0.drew
  clear x0 x1 x2 x3 x4 x5
  obtain ⟨x0, x1, x2, x3, x4, x5⟩ := X.three
  obtain ⟨s0, s1, s2, s3, s4, s5⟩ := S.three
  have HRD := Lib.hid (HR.out.grew W0)
  have hzz := S.lt
  go_region_held3 (fun w' => w'.cell? ⟨sx, 0, none⟩ = some (.slice aa na ca) ∧ w'.cell? ⟨sx, 1, none⟩ = some (.slice ai ni ci) ∧ w'.cell? ⟨sx, 2, none⟩ = some (.slice ar nr cr))
    (refine ⟨?_, ?_, ?_⟩ <;> (repeat (first | with_reducible assumption | with_reducible refine far_drew ?_ | with_reducible refine far_cell ne1 ?_)))
    (first
      | (go_at_call 49; (with_reducible refine (clone_w (.slice aa na ca) _ HRD.out.a HS.out.a).mono ?_); rintro e_w5 w5 ⟨v5, rfl, R5, g1⟩
         obtain ⟨a5, c5, rfl⟩ := R5.len
         have HR5 := Lib.hid R5
         have hz5 : sx + 1 < w5.heap.size := by have := S.lt; have := g1.size; omega
         replace HRD := Lib.hid (HRD.out.grew g1)
         replace X := X.grew g1
         replace S := S.grew g1
         replace W0 := W0.trans g1
         clear g1 R5 x0 x1 x2 x3 x4 x5 s0 s1 s2 s3 s4 s5
         obtain ⟨x0, x1, x2, x3, x4, x5⟩ := X.three
         obtain ⟨s0, s1, s2, s3, s4, s5⟩ := S.three)
      | (go_at_call 49; (with_reducible refine (clone_w (.slice ai ni ci) _ HRD.out.i HS.out.i).mono ?_); rintro e_w6 w6 ⟨v6, rfl, R6, g1⟩
         obtain ⟨a6, c6, rfl⟩ := R6.len
         have HR6 := Lib.hid R6
         have hz6 : sx + 1 < w6.heap.size := by have := S.lt; have := g1.size; omega
         replace HR5 := Lib.hid (HR5.out.grew g1)
         replace HRD := Lib.hid (HRD.out.grew g1)
         replace X := X.grew g1
         replace S := S.grew g1
         replace W0 := W0.trans g1
         clear g1 R6 x0 x1 x2 x3 x4 x5 s0 s1 s2 s3 s4 s5
         obtain ⟨x0, x1, x2, x3, x4, x5⟩ := X.three
         obtain ⟨s0, s1, s2, s3, s4, s5⟩ := S.three)
      | (go_at_call 49; (with_reducible refine (clone_w (.slice ar nr cr) _ HRD.out.r HS.out.r).mono ?_); rintro e_w7 w7 ⟨v7, rfl, R7, g1⟩
         obtain ⟨a7, c7, rfl⟩ := R7.len
         have HR7 := Lib.hid R7
         have hz7 : sx + 1 < w7.heap.size := by have := S.lt; have := g1.size; omega
         replace HR5 := Lib.hid (HR5.out.grew g1)
         replace HR6 := Lib.hid (HR6.out.grew g1)
         replace HRD := Lib.hid (HRD.out.grew g1)
         replace X := X.grew g1
         replace S := S.grew g1
         replace W0 := W0.trans g1
         clear g1 R7 x0 x1 x2 x3 x4 x5 s0 s1 s2 s3 s4 s5
         obtain ⟨x0, x1, x2, x3, x4, x5⟩ := X.three
         obtain ⟨s0, s1, s2, s3, s4, s5⟩ := S.three))
  have hzd : sx + 1 < wb.drew.heap.size := hzz
  go_wp2
  generalize hw : World.setCell _ _ _ = wz
  have RR := S.store3 hw
  have gB := W0.far3 hw (show w.heap.size ≤ sx + 1 by omega)
  obtain ⟨u0, u1, u2, u3, u4, u5⟩ := RR.three
  refine bodyPost_ret (v := lruV (.slice a5 x.a.length c5) (.slice a6 x.i.length c6) (.slice a7 x.r.length c7)) (by simp [results, Try.results31, go_sem, u0, u1, u2]) rfl ⟨_, _, _, rfl, ⟨(HR5.out.far3 hw hzd).wider (by omega), (HR6.out.far3 hw hz5).wider (by omega), (HR7.out.far3 hw hz6).wider (by omega)⟩, gB⟩
set_option maxRecDepth 100000 in
set_option maxHeartbeats 4000000 in
theorem addp_any {B : Nat} (va vi vr : Value) (x : Lr) (f : Int) (act : Bool) (w : World) (R : LrR w B va vi vr x) (hs : SmP x) (hw : WfR x) : Calls Try.prog 12 #[lruV va vi vr, .int .i64 f, .bool act] w (RetLE (addX x f act) (addE x f) w.heap.size w) := by
  obtain ⟨aa, ca, rfl⟩ := R.a.len
  obtain ⟨ai, ci, rfl⟩ := R.i.len
  obtain ⟨ar, cr, rfl⟩ := R.r.len
  obtain ⟨na, hna⟩ : ∃ na, x.a.length = na := ⟨_, rfl⟩
  obtain ⟨ni, hni⟩ : ∃ ni, x.i.length = ni := ⟨_, rfl⟩
  obtain ⟨nr, hnr⟩ : ∃ nr, x.r.length = nr := ⟨_, rfl⟩
  rw [hna, hni, hnr] at R ⊢
  clear hna hni hnr
  have W0 : Grew w ((w.alloc (.cells #[(.slice aa na ca), (.slice ai ni ci), (.slice ar nr cr)] 27)).alloc (.cells n3 27)) := ((Grew.refl w).alloc _).alloc _
  obtain ⟨sx, hsx⟩ : ∃ sx, w.heap.size = sx := ⟨_, rfl⟩
  have X : Own ((w.alloc (.cells #[(.slice aa na ca), (.slice ai ni ci), (.slice ar nr cr)] 27)).alloc (.cells n3 27)) sx 27 #[(.slice aa na ca), (.slice ai ni ci), (.slice ar nr cr)] := hsx ▸ (Own.new w 27 #[(.slice aa na ca), (.slice ai ni ci), (.slice ar nr cr)]).alloc _
  have S : Own ((w.alloc (.cells #[(.slice aa na ca), (.slice ai ni ci), (.slice ar nr cr)] 27)).alloc (.cells n3 27)) (sx + 1) 27 n3 := hsx ▸ Own.new2 w (.cells #[(.slice aa na ca), (.slice ai ni ci), (.slice ar nr cr)] 27) 27 n3
  have hz0 : ((w.alloc (.cells #[(.slice aa na ca), (.slice ai ni ci), (.slice ar nr cr)] 27)).alloc (.cells n3 27)).heap.size = sx + 2 := by simp; omega
  have HR := Lib.hid R
  have HS := Lib.hid hs
  have HSX := Lib.hid hsx
  have hsw : w.heap.size ≤ sx := by omega
  clear R hs
  have HW := Lib.hid hw
  clear hw
  obtain ⟨c, hc⟩ : ∃ c, cfE x f = c := ⟨_, rfl⟩
  have HC := Lib.hid hc
  by_cases c0 : c = 0
  · subst c0
    cases hi : inB x f
    · have he : addE x f = 0 := by rw [addE_is, hc, hi]; rfl
      have HI := Lib.hid hi
      rw [he]
      have hna : ¬f ∈ x.a := fun h => by unfold inB at hi; rw [decide_eq_true h] at hi; simp at hi
      have hni : ¬f ∈ x.i := fun h => by unfold inB at hi; rw [decide_eq_true h, Bool.or_true] at hi; cases hi
      cases act
      · have HX := Lib.hid (show addX x f false = ⟨x.a, f :: x.i, x.r⟩ from by unfold addX; rw [if_pos he])
        have HM1 := Lib.hid (show f :: wol x.i f = f :: x.i from by rw [wol_not hni])
        clear hi hc he hna hni
        obtain ⟨x0, x1, x2, x3, x4, x5⟩ := X.three
        go_enter Try.func12, Try.ntmps12
        go_upto_region 1 with fail
        try rw [hsx]
        generalize World.alloc (World.alloc w _) _ = wb at *
        clear hsx
        go_wp2_with fail
        with_reducible refine (copied_any _ _ _ _ _ (HR.out.grew W0) HS.out).mono ?_
        rintro e_w1 w1 ⟨v1, v2, v3, rfl, RN, g1⟩
        obtain ⟨a1, c1, rfl⟩ := RN.a.len
        obtain ⟨a2, c2, rfl⟩ := RN.i.len
        obtain ⟨a3, c3, rfl⟩ := RN.r.len
        obtain ⟨l1, hl1⟩ : ∃ n, x.a.length = n := ⟨_, rfl⟩
        obtain ⟨l2, hl2⟩ : ∃ n, x.i.length = n := ⟨_, rfl⟩
        obtain ⟨l3, hl3⟩ : ∃ n, x.r.length = n := ⟨_, rfl⟩
        rw [hl1, hl2, hl3] at RN ⊢
        rw [hz0] at RN
        clear hl1 hl2 hl3 hz0
        have gz := g1.size
        replace X := X.grew g1
        replace S := S.grew g1
        replace W0 := W0.trans g1
        clear g1 x0 x1 x2 x3 x4 x5
        obtain ⟨x0, x1, x2, x3, x4, x5⟩ := X.three
        have hgn : sx + 1 < w1.heap.size := S.lt
        have N := Own.new w1 27 #[.slice a1 l1 c1, .slice a2 l2 c2, .slice a3 l3 c3]
        have FN0 := RN.farN
        obtain ⟨gn, hgn2⟩ : ∃ gn, w1.heap.size = gn := ⟨_, rfl⟩
        go_upto_region 2 with fail
        have G2 := (Grew.refl w1).alloc (.cells #[.slice a1 l1 c1, .slice a2 l2 c2, .slice a3 l3 c3] 27)
        replace X := X.grew G2
        replace S := S.grew G2
        replace W0 := W0.trans G2
        have HN := Lib.hid (RN.grew G2)
        have HFN := Lib.hid FN0
        clear G2 RN FN0 x0 x1 x2 x3 x4 x5 gz
        rw [hgn2] at N HFN hgn
        generalize World.alloc w1 _ = w2 at *
        clear hgn2
        obtain ⟨x0, x1, x2, x3, x4, x5⟩ := X.three
        obtain ⟨n0, n1, n2, n3a, n4, n5⟩ := N.three
        go_wp2_with fail
        with_reducible refine (chkF_v _ _ _ _ _ _ (HR.out.grew W0) HS.out HW.out HC.out).mono ?_
        rintro e_w3 w3 ⟨rfl, g1⟩
        replace X := X.grew g1
        replace S := S.grew g1
        replace W0 := W0.trans g1
        replace N := N.grew g1
        replace HN := Lib.hid (HN.out.grew g1)
        clear g1 x0 x1 x2 x3 x4 x5 n0 n1 n2 n3a n4 n5
        obtain ⟨x0, x1, x2, x3, x4, x5⟩ := X.three
        obtain ⟨n0, n1, n2, n3a, n4, n5⟩ := N.three
        go_wp2_with fail
        with_reducible refine (listed_v _ _ _ _ _ _ (HR.out.grew W0) HS.out HI.out).mono ?_
        rintro e_w4 w4 ⟨rfl, g1⟩
        replace X := X.grew g1
        replace S := S.grew g1
        replace W0 := W0.trans g1
        replace N := N.grew g1
        replace HN := Lib.hid (HN.out.grew g1)
        clear g1 x0 x1 x2 x3 x4 x5 n0 n1 n2 n3a n4 n5
        obtain ⟨x0, x1, x2, x3, x4, x5⟩ := X.three
        obtain ⟨n0, n1, n2, n3a, n4, n5⟩ := N.three
        have hgz := N.lt
        go_wp2_with fail
        with_reducible refine (toFront_w _ _ _ (HR.out.grew W0).i HS.out.i HM1.out).mono ?_
        rintro e_w5 w5 ⟨v5, rfl, R5, g1⟩
        obtain ⟨a5, c5, rfl⟩ := R5.len
        obtain ⟨n5b, hn5⟩ : ∃ n, (f :: x.i).length = n := ⟨_, rfl⟩
        rw [hn5] at R5 ⊢
        clear hn5
        have HFM := Lib.hid (far_of R5 hgz)
        have HM := Lib.hid (RowE.wider R5 (show sx + 2 ≤ _ by omega))
        clear R5 hgz
        replace X := X.grew g1
        replace S := S.grew g1
        replace W0 := W0.trans g1
        replace N := N.grew g1
        replace HN := Lib.hid (HN.out.grew g1)
        clear g1 x0 x1 x2 x3 x4 x5 n0 n1 n2 n3a n4 n5
        obtain ⟨x0, x1, x2, x3, x4, x5⟩ := X.three
        obtain ⟨n0, n1, n2, n3a, n4, n5⟩ := N.three
        go_upto_region 10 with fail
        replace X := X.far (p := ⟨gn, 1, none⟩) (show sx ≠ gn by omega) (.slice a5 n5b c5)
        replace S := S.far (p := ⟨gn, 1, none⟩) (show sx + 1 ≠ gn by omega) (.slice a5 n5b c5)
        replace W0 := W0.set (p := ⟨gn, 1, none⟩) (show w.heap.size ≤ gn by omega) (.slice a5 n5b c5)
        replace N := N.set 1 (.slice a5 n5b c5)
        have HN2 := Lib.hid (LrR.setF (i := 1) (u := (.slice a5 n5b c5)) HN.out HFN.out)
        have HM2 := Lib.hid (RowE.setF (i := 1) (u := (.slice a5 n5b c5)) HM.out HFM.out)
        clear HN HM x0 x1 x2 x3 x4 x5 n0 n1 n2 n3a n4 n5
        generalize World.setCell w5 _ _ = w6 at *
        obtain ⟨n0, n1, n2, n3a, n4, n5⟩ := (show Own w6 gn 27 #[.slice a1 l1 c1, .slice a5 n5b c5, .slice a3 l3 c3] from N).three
        obtain ⟨x0, x1, x2, x3, x4, x5⟩ := X.three
        have HQ : Hid (LrR _ (sx + 2) (.slice a1 l1 c1) (.slice a5 n5b c5) (.slice a3 l3 c3) ⟨x.a, f :: x.i, x.r⟩) := Lib.hid ⟨HN2.out.a, HM2.out, HN2.out.r⟩
        clear x0 x1 x2 x3 x4 x5
        obtain ⟨s0, s1, s2, s3, s4, s5⟩ := S.three
        go_wp2
        generalize hw : World.setCell _ _ _ = wz
        have RR := S.store3 hw
        have gB := W0.far3 hw (show w.heap.size ≤ sx + 1 by omega)
        obtain ⟨u0, u1, u2, u3, u4, u5⟩ := RR.three
        refine bodyPost_ret (v := .tuple #[lruV (.slice a1 l1 c1) (.slice a5 n5b c5) (.slice a3 l3 c3), .int .i64 0]) (by simp [results, Try.results12, go_sem, u0, u1, u2]) rfl ⟨_, _, _, rfl, by rw [HX.out]; exact (HQ.out.far3N hw (by omega)).wider (by omega), gB⟩
      · have HX := Lib.hid (show addX x f true = ⟨f :: x.a, x.i, x.r⟩ from by unfold addX; rw [if_pos he])
        have HM1 := Lib.hid (show f :: wol x.a f = f :: x.a from by rw [wol_not hna])
        clear hi hc he hna hni
        obtain ⟨x0, x1, x2, x3, x4, x5⟩ := X.three
        go_enter Try.func12, Try.ntmps12
        go_upto_region 1 with fail
        try rw [hsx]
        generalize World.alloc (World.alloc w _) _ = wb at *
        clear hsx
        go_wp2_with fail
        with_reducible refine (copied_any _ _ _ _ _ (HR.out.grew W0) HS.out).mono ?_
        rintro e_w1 w1 ⟨v1, v2, v3, rfl, RN, g1⟩
        obtain ⟨a1, c1, rfl⟩ := RN.a.len
        obtain ⟨a2, c2, rfl⟩ := RN.i.len
        obtain ⟨a3, c3, rfl⟩ := RN.r.len
        obtain ⟨l1, hl1⟩ : ∃ n, x.a.length = n := ⟨_, rfl⟩
        obtain ⟨l2, hl2⟩ : ∃ n, x.i.length = n := ⟨_, rfl⟩
        obtain ⟨l3, hl3⟩ : ∃ n, x.r.length = n := ⟨_, rfl⟩
        rw [hl1, hl2, hl3] at RN ⊢
        rw [hz0] at RN
        clear hl1 hl2 hl3 hz0
        have gz := g1.size
        replace X := X.grew g1
        replace S := S.grew g1
        replace W0 := W0.trans g1
        clear g1 x0 x1 x2 x3 x4 x5
        obtain ⟨x0, x1, x2, x3, x4, x5⟩ := X.three
        have hgn : sx + 1 < w1.heap.size := S.lt
        have N := Own.new w1 27 #[.slice a1 l1 c1, .slice a2 l2 c2, .slice a3 l3 c3]
        have FN0 := RN.farN
        obtain ⟨gn, hgn2⟩ : ∃ gn, w1.heap.size = gn := ⟨_, rfl⟩
        go_upto_region 2 with fail
        have G2 := (Grew.refl w1).alloc (.cells #[.slice a1 l1 c1, .slice a2 l2 c2, .slice a3 l3 c3] 27)
        replace X := X.grew G2
        replace S := S.grew G2
        replace W0 := W0.trans G2
        have HN := Lib.hid (RN.grew G2)
        have HFN := Lib.hid FN0
        clear G2 RN FN0 x0 x1 x2 x3 x4 x5 gz
        rw [hgn2] at N HFN hgn
        generalize World.alloc w1 _ = w2 at *
        clear hgn2
        obtain ⟨x0, x1, x2, x3, x4, x5⟩ := X.three
        obtain ⟨n0, n1, n2, n3a, n4, n5⟩ := N.three
        go_wp2_with fail
        with_reducible refine (chkF_v _ _ _ _ _ _ (HR.out.grew W0) HS.out HW.out HC.out).mono ?_
        rintro e_w3 w3 ⟨rfl, g1⟩
        replace X := X.grew g1
        replace S := S.grew g1
        replace W0 := W0.trans g1
        replace N := N.grew g1
        replace HN := Lib.hid (HN.out.grew g1)
        clear g1 x0 x1 x2 x3 x4 x5 n0 n1 n2 n3a n4 n5
        obtain ⟨x0, x1, x2, x3, x4, x5⟩ := X.three
        obtain ⟨n0, n1, n2, n3a, n4, n5⟩ := N.three
        go_wp2_with fail
        with_reducible refine (listed_v _ _ _ _ _ _ (HR.out.grew W0) HS.out HI.out).mono ?_
        rintro e_w4 w4 ⟨rfl, g1⟩
        replace X := X.grew g1
        replace S := S.grew g1
        replace W0 := W0.trans g1
        replace N := N.grew g1
        replace HN := Lib.hid (HN.out.grew g1)
        clear g1 x0 x1 x2 x3 x4 x5 n0 n1 n2 n3a n4 n5
        obtain ⟨x0, x1, x2, x3, x4, x5⟩ := X.three
        obtain ⟨n0, n1, n2, n3a, n4, n5⟩ := N.three
        have hgz := N.lt
        go_wp2_with fail
        with_reducible refine (toFront_w _ _ _ (HR.out.grew W0).a HS.out.a HM1.out).mono ?_
        rintro e_w5 w5 ⟨v5, rfl, R5, g1⟩
        obtain ⟨a5, c5, rfl⟩ := R5.len
        obtain ⟨n5b, hn5⟩ : ∃ n, (f :: x.a).length = n := ⟨_, rfl⟩
        rw [hn5] at R5 ⊢
        clear hn5
        have HFM := Lib.hid (far_of R5 hgz)
        have HM := Lib.hid (RowE.wider R5 (show sx + 2 ≤ _ by omega))
        clear R5 hgz
        replace X := X.grew g1
        replace S := S.grew g1
        replace W0 := W0.trans g1
        replace N := N.grew g1
        replace HN := Lib.hid (HN.out.grew g1)
        clear g1 x0 x1 x2 x3 x4 x5 n0 n1 n2 n3a n4 n5
        obtain ⟨x0, x1, x2, x3, x4, x5⟩ := X.three
        obtain ⟨n0, n1, n2, n3a, n4, n5⟩ := N.three
        go_upto_region 10 with fail
        replace X := X.far (p := ⟨gn, 0, none⟩) (show sx ≠ gn by omega) (.slice a5 n5b c5)
        replace S := S.far (p := ⟨gn, 0, none⟩) (show sx + 1 ≠ gn by omega) (.slice a5 n5b c5)
        replace W0 := W0.set (p := ⟨gn, 0, none⟩) (show w.heap.size ≤ gn by omega) (.slice a5 n5b c5)
        replace N := N.set 0 (.slice a5 n5b c5)
        have HN2 := Lib.hid (LrR.setF (i := 0) (u := (.slice a5 n5b c5)) HN.out HFN.out)
        have HM2 := Lib.hid (RowE.setF (i := 0) (u := (.slice a5 n5b c5)) HM.out HFM.out)
        clear HN HM x0 x1 x2 x3 x4 x5 n0 n1 n2 n3a n4 n5
        generalize World.setCell w5 _ _ = w6 at *
        obtain ⟨n0, n1, n2, n3a, n4, n5⟩ := (show Own w6 gn 27 #[.slice a5 n5b c5, .slice a2 l2 c2, .slice a3 l3 c3] from N).three
        obtain ⟨x0, x1, x2, x3, x4, x5⟩ := X.three
        have HQ : Hid (LrR _ (sx + 2) (.slice a5 n5b c5) (.slice a2 l2 c2) (.slice a3 l3 c3) ⟨f :: x.a, x.i, x.r⟩) := Lib.hid ⟨HM2.out, HN2.out.i, HN2.out.r⟩
        clear x0 x1 x2 x3 x4 x5
        obtain ⟨s0, s1, s2, s3, s4, s5⟩ := S.three
        go_wp2
        generalize hw : World.setCell _ _ _ = wz
        have RR := S.store3 hw
        have gB := W0.far3 hw (show w.heap.size ≤ sx + 1 by omega)
        obtain ⟨u0, u1, u2, u3, u4, u5⟩ := RR.three
        refine bodyPost_ret (v := .tuple #[lruV (.slice a5 n5b c5) (.slice a2 l2 c2) (.slice a3 l3 c3), .int .i64 0]) (by simp [results, Try.results12, go_sem, u0, u1, u2]) rfl ⟨_, _, _, rfl, by rw [HX.out]; exact (HQ.out.far3N hw (by omega)).wider (by omega), gB⟩
    · have he : addE x f = 5 := by rw [addE_is, hc, hi]; rfl
      have HI := Lib.hid hi
      rw [he]
      have HX := Lib.hid (show addX x f act = x from addX_e (by rw [he]; omega))
      clear hi hc he
      obtain ⟨x0, x1, x2, x3, x4, x5⟩ := X.three
      go_enter Try.func12, Try.ntmps12
      go_upto_region 1 with fail
      try rw [hsx]
      generalize World.alloc (World.alloc w _) _ = wb at *
      clear hsx
      go_wp2_with fail
      with_reducible refine (copied_any _ _ _ _ _ (HR.out.grew W0) HS.out).mono ?_
      rintro e_w1 w1 ⟨v1, v2, v3, rfl, RN, g1⟩
      obtain ⟨a1, c1, rfl⟩ := RN.a.len
      obtain ⟨a2, c2, rfl⟩ := RN.i.len
      obtain ⟨a3, c3, rfl⟩ := RN.r.len
      obtain ⟨l1, hl1⟩ : ∃ n, x.a.length = n := ⟨_, rfl⟩
      obtain ⟨l2, hl2⟩ : ∃ n, x.i.length = n := ⟨_, rfl⟩
      obtain ⟨l3, hl3⟩ : ∃ n, x.r.length = n := ⟨_, rfl⟩
      rw [hl1, hl2, hl3] at RN ⊢
      rw [hz0] at RN
      clear hl1 hl2 hl3 hz0
      have gz := g1.size
      replace X := X.grew g1
      replace S := S.grew g1
      replace W0 := W0.trans g1
      clear g1 x0 x1 x2 x3 x4 x5
      obtain ⟨x0, x1, x2, x3, x4, x5⟩ := X.three
      have hgn : sx + 1 < w1.heap.size := S.lt
      have N := Own.new w1 27 #[.slice a1 l1 c1, .slice a2 l2 c2, .slice a3 l3 c3]
      have FN0 := RN.farN
      obtain ⟨gn, hgn2⟩ : ∃ gn, w1.heap.size = gn := ⟨_, rfl⟩
      go_upto_region 2 with fail
      have G2 := (Grew.refl w1).alloc (.cells #[.slice a1 l1 c1, .slice a2 l2 c2, .slice a3 l3 c3] 27)
      replace X := X.grew G2
      replace S := S.grew G2
      replace W0 := W0.trans G2
      have HN := Lib.hid (RN.grew G2)
      have HFN := Lib.hid FN0
      clear G2 RN FN0 x0 x1 x2 x3 x4 x5 gz
      rw [hgn2] at N HFN hgn
      generalize World.alloc w1 _ = w2 at *
      clear hgn2
      obtain ⟨x0, x1, x2, x3, x4, x5⟩ := X.three
      obtain ⟨n0, n1, n2, n3a, n4, n5⟩ := N.three
      go_wp2_with fail
      with_reducible refine (chkF_v _ _ _ _ _ _ (HR.out.grew W0) HS.out HW.out HC.out).mono ?_
      rintro e_w3 w3 ⟨rfl, g1⟩
      replace X := X.grew g1
      replace S := S.grew g1
      replace W0 := W0.trans g1
      replace N := N.grew g1
      replace HN := Lib.hid (HN.out.grew g1)
      clear g1 x0 x1 x2 x3 x4 x5 n0 n1 n2 n3a n4 n5
      obtain ⟨x0, x1, x2, x3, x4, x5⟩ := X.three
      obtain ⟨n0, n1, n2, n3a, n4, n5⟩ := N.three
      go_wp2_with fail
      with_reducible refine (listed_v _ _ _ _ _ _ (HR.out.grew W0) HS.out HI.out).mono ?_
      rintro e_w4 w4 ⟨rfl, g1⟩
      replace X := X.grew g1
      replace S := S.grew g1
      replace W0 := W0.trans g1
      replace N := N.grew g1
      replace HN := Lib.hid (HN.out.grew g1)
      clear g1 x0 x1 x2 x3 x4 x5 n0 n1 n2 n3a n4 n5
      obtain ⟨x0, x1, x2, x3, x4, x5⟩ := X.three
      obtain ⟨n0, n1, n2, n3a, n4, n5⟩ := N.three
      have HQ : Hid (LrR _ (sx + 2) (.slice a1 l1 c1) (.slice a2 l2 c2) (.slice a3 l3 c3) x) := Lib.hid HN.out
      clear x0 x1 x2 x3 x4 x5
      obtain ⟨s0, s1, s2, s3, s4, s5⟩ := S.three
      go_wp2
      generalize hw : World.setCell _ _ _ = wz
      have RR := S.store3 hw
      have gB := W0.far3 hw (show w.heap.size ≤ sx + 1 by omega)
      obtain ⟨u0, u1, u2, u3, u4, u5⟩ := RR.three
      refine bodyPost_ret (v := .tuple #[lruV (.slice a1 l1 c1) (.slice a2 l2 c2) (.slice a3 l3 c3), .int .i64 5]) (by simp [results, Try.results12, go_sem, u0, u1, u2]) rfl ⟨_, _, _, rfl, by rw [HX.out]; exact (HQ.out.far3N hw (by omega)).wider (by omega), gB⟩
  · have he : addE x f = c := by rw [addE_is, hc, if_neg c0]
    rw [he]
    have HX := Lib.hid (show addX x f act = x from addX_e (by rw [he]; exact c0))
    have hb2 : (c != 0) = true := by simp [c0]
    have hb : (c == 0) = false := beqF c0
    clear hc he c0
    obtain ⟨x0, x1, x2, x3, x4, x5⟩ := X.three
    go_enter Try.func12, Try.ntmps12
    go_upto_region 1 with fail
    try rw [hsx]
    generalize World.alloc (World.alloc w _) _ = wb at *
    clear hsx
    go_wp2_with fail
    with_reducible refine (copied_any _ _ _ _ _ (HR.out.grew W0) HS.out).mono ?_
    rintro e_w1 w1 ⟨v1, v2, v3, rfl, RN, g1⟩
    obtain ⟨a1, c1, rfl⟩ := RN.a.len
    obtain ⟨a2, c2, rfl⟩ := RN.i.len
    obtain ⟨a3, c3, rfl⟩ := RN.r.len
    obtain ⟨l1, hl1⟩ : ∃ n, x.a.length = n := ⟨_, rfl⟩
    obtain ⟨l2, hl2⟩ : ∃ n, x.i.length = n := ⟨_, rfl⟩
    obtain ⟨l3, hl3⟩ : ∃ n, x.r.length = n := ⟨_, rfl⟩
    rw [hl1, hl2, hl3] at RN ⊢
    rw [hz0] at RN
    clear hl1 hl2 hl3 hz0
    have gz := g1.size
    replace X := X.grew g1
    replace S := S.grew g1
    replace W0 := W0.trans g1
    clear g1 x0 x1 x2 x3 x4 x5
    obtain ⟨x0, x1, x2, x3, x4, x5⟩ := X.three
    have hgn : sx + 1 < w1.heap.size := S.lt
    have N := Own.new w1 27 #[.slice a1 l1 c1, .slice a2 l2 c2, .slice a3 l3 c3]
    have FN0 := RN.farN
    obtain ⟨gn, hgn2⟩ : ∃ gn, w1.heap.size = gn := ⟨_, rfl⟩
    go_upto_region 2 with fail
    have G2 := (Grew.refl w1).alloc (.cells #[.slice a1 l1 c1, .slice a2 l2 c2, .slice a3 l3 c3] 27)
    replace X := X.grew G2
    replace S := S.grew G2
    replace W0 := W0.trans G2
    have HN := Lib.hid (RN.grew G2)
    have HFN := Lib.hid FN0
    clear G2 RN FN0 x0 x1 x2 x3 x4 x5 gz
    rw [hgn2] at N HFN hgn
    generalize World.alloc w1 _ = w2 at *
    clear hgn2
    obtain ⟨x0, x1, x2, x3, x4, x5⟩ := X.three
    obtain ⟨n0, n1, n2, n3a, n4, n5⟩ := N.three
    go_wp2_with fail
    with_reducible refine (chkF_v _ _ _ _ _ _ (HR.out.grew W0) HS.out HW.out HC.out).mono ?_
    rintro e_w3 w3 ⟨rfl, g1⟩
    replace X := X.grew g1
    replace S := S.grew g1
    replace W0 := W0.trans g1
    replace N := N.grew g1
    replace HN := Lib.hid (HN.out.grew g1)
    clear g1 x0 x1 x2 x3 x4 x5 n0 n1 n2 n3a n4 n5
    obtain ⟨x0, x1, x2, x3, x4, x5⟩ := X.three
    obtain ⟨n0, n1, n2, n3a, n4, n5⟩ := N.three
    have HQ : Hid (LrR _ (sx + 2) (.slice a1 l1 c1) (.slice a2 l2 c2) (.slice a3 l3 c3) x) := Lib.hid HN.out
    clear x0 x1 x2 x3 x4 x5
    obtain ⟨s0, s1, s2, s3, s4, s5⟩ := S.three
    go_wp2
    generalize hw : World.setCell _ _ _ = wz
    have RR := S.store3 hw
    have gB := W0.far3 hw (show w.heap.size ≤ sx + 1 by omega)
    obtain ⟨u0, u1, u2, u3, u4, u5⟩ := RR.three
    refine bodyPost_ret (v := .tuple #[lruV (.slice a1 l1 c1) (.slice a2 l2 c2) (.slice a3 l3 c3), .int .i64 c]) (by simp [results, Try.results12, go_sem, u0, u1, u2]) rfl ⟨_, _, _, rfl, by rw [HX.out]; exact (HQ.out.far3N hw (by omega)).wider (by omega), gB⟩
end Go.Proofs.Yteaofieijginhaa
