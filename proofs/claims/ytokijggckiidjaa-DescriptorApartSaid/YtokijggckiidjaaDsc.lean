/- Update of the reference (layer 18). mkdsc.py writes this text out of dsc.base. -/
import Derived.Test.YtokijggckiidjaaDsb
import Derived.Deep.RegionHeld3
namespace Go.Mine
open Go Go.RowKit
/-- The boxes of a call with a description: the argument's, the description's, the result's. -/
structure BxU (w : World) (T Td : TypeId) (a b u v : Value) (y : Ds) (d : Dd) (B : Nat) (wr : World) : Prop where
  dbox : Own wr w.heap.size T #[a, b]
  x : Own wr (w.heap.size + 1) Td #[.int .i64 y.f, .int .i64 y.g, .int .i64 y.o, .int .i64 y.c, .int .i64 y.r]
  res : Own wr (w.heap.size + 1 + 1) T #[u, v]
  dd : DdR wr B a b d
  g : Grew w wr
  g2 : Grew (w.alloc (.cells #[a, b] T)) wr
theorem BxU.grew {w wr w' : World} {T Td : TypeId} {a b u v : Value} {y : Ds} {d : Dd} {B : Nat} (h : BxU w T Td a b u v y d B wr) (g : Grew wr w') : BxU w T Td a b u v y d B w' := ⟨h.dbox.grew g, h.x.grew g, h.res.grew g, h.dd.grew g, h.g.trans g, h.g2.trans g⟩
theorem BxU.start (w : World) (T Td : TypeId) (a b : Value) (y : Ds) {d : Dd} {B : Nat} (h : DdR w B a b d) : BxU w T Td a b (.slice none 0 0) (.slice none 0 0) y d B (((w.alloc (.cells #[a, b] T)).alloc (.cells #[.int .i64 y.f, .int .i64 y.g, .int .i64 y.o, .int .i64 y.c, .int .i64 y.r] Td)).alloc (.cells #[.slice none 0 0, .slice none 0 0] T)) := by
  have g := (((Grew.refl w).alloc (.cells #[a, b] T)).alloc (.cells #[.int .i64 y.f, .int .i64 y.g, .int .i64 y.o, .int .i64 y.c, .int .i64 y.r] Td)).alloc (.cells #[.slice none 0 0, .slice none 0 0] T)
  have r := Own.new2 (w.alloc (.cells #[a, b] T)) (.cells #[.int .i64 y.f, .int .i64 y.g, .int .i64 y.o, .int .i64 y.c, .int .i64 y.r] Td) T #[.slice none 0 0, .slice none 0 0]
  rw [World.size_alloc] at r
  exact ⟨((Own.new w T #[a, b]).alloc _).alloc _, (Own.new2 w _ Td _).alloc _, r, h.grew g, g, ((Grew.refl _).alloc _).alloc _⟩
theorem BxU.ret {w wr w' : World} {T Td : TypeId} {a b u v s t : Value} {y : Ds} {d : Dd} {B : Nat} (h : BxU w T Td a b u v y d B wr) (hw : (wr.setCell ⟨w.heap.size + 1 + 1, 0, none⟩ s).setCell ⟨w.heap.size + 1 + 1, 1, none⟩ t = w') : Own w' (w.heap.size + 1 + 1) T #[s, t] ∧ Grew w w' :=
  ⟨h.res.store2D hw, h.g.far2D hw (by omega)⟩
end Go.Mine
namespace Go.Proofs.Ytokijggckiidjaa
open Go.ChangeShapes Go.WideShapes Go.ChangeAt Go.RowKit Go.Mine
set_option maxHeartbeats 16000000 in
theorem update_q {pp : Nat → Prop} {a b : Value} {d : Dd} {n : Int} {y : Ds} {x : Dd × Int} {w : World} (h0 : DdP w pp a b d) (ho : d.o.length ≤ 1000) (ht : d.t.length ≤ 1000) (hx : updD d n y = x) :
    Calls Try.prog 22 #[.agg #[a, b], .int .i64 n, dsV y] w (RetDE pp x w) := by
  have HP := Lib.hid h0
  have h := h0.rd
  clear h0
  obtain ⟨a1, ca, rfl, -, -⟩ := h.o.slice
  obtain ⟨b1, cb, rfl, -, -⟩ := h.t.slice
  obtain ⟨m, hm⟩ : ∃ m, d.o.length = m := ⟨_, rfl⟩
  obtain ⟨N, hN⟩ : ∃ N, d.t.length = N := ⟨_, rfl⟩
  obtain ⟨yf, yg, yo, yc, yr⟩ := y
  have HM := Lib.hid hm
  have HN := Lib.hid hN
  have HX := Lib.hid hx
  have HH := Lib.hid h
  rw [hm] at h ho ⊢
  rw [hN] at h ht ⊢
  have W0 := BxU.start w 29 34 _ _ ⟨yf, yg, yo, yc, yr⟩ h
  have HW := Lib.hid W0
  obtain ⟨x0, x1, x2, x3⟩ := W0.dbox.two
  obtain ⟨bb, hb⟩ : ∃ bb, okD d = bb := ⟨_, rfl⟩
  have HC := Lib.hid (check_q W0.dd (by rw [HM.out]; exact ho) (by rw [HN.out]; exact ht) hb)
  have HB := Lib.hid hb
  dsimp only at HC HW x0 x1 x2 x3
  clear hx hm hN h W0 hb
  go_enter Try.func22, Try.ntmps22
  go_wp2_with fail
  with_reducible refine HC.out.mono ?_
  rintro e9 w1 ⟨rfl, g1⟩
  clear x0 x1 x2 x3
  replace HW := Lib.hid (HW.out.grew g1)
  obtain ⟨x0, x1, x2, x3⟩ := HW.out.dbox.two
  obtain ⟨r0, r1, r2, r3⟩ := HW.out.res.two
  clear HC g1
  cases bb
  · have HE : Hid (x = (d, 1)) := Lib.hid (HX.out.symm.trans (updD_1 HB.out))
    go_wp2
    generalize hw : World.setCell (World.setCell _ _ _) _ _ = E
    obtain ⟨RR, GG⟩ := HW.out.ret hw
    obtain ⟨k0, k1, -, -⟩ := RR.two
    refine bodyPost_ret (v := .tuple #[.agg #[.slice a1 m ca, .slice b1 N cb], .int .i64 1]) (by simp [results, Try.results22, go_sem, k0, k1]) rfl ?_
    exact ⟨_, _, by rw [HE.out], by rw [HE.out]; have hq := HP.out.keep GG; rw [HM.out, HN.out] at hq; exact hq, GG⟩
  by_cases p0 : n < 0
  · have HE : Hid (x = (d, 4)) := Lib.hid (HX.out.symm.trans (updD_4 HB.out (by omega)))
    go_wp2
    generalize hw : World.setCell (World.setCell _ _ _) _ _ = E
    obtain ⟨RR, GG⟩ := HW.out.ret hw
    obtain ⟨k0, k1, -, -⟩ := RR.two
    refine bodyPost_ret (v := .tuple #[.agg #[.slice a1 m ca, .slice b1 N cb], .int .i64 4]) (by simp [results, Try.results22, go_sem, k0, k1]) rfl ?_
    exact ⟨_, _, by rw [HE.out], by rw [HE.out]; have hq := HP.out.keep GG; rw [HM.out, HN.out] at hq; exact hq, GG⟩
  by_cases p1 : (m : Int) ≤ n
  · have HE : Hid (x = (d, 4)) := Lib.hid (HX.out.symm.trans (updD_4 HB.out (by rw [HM.out]; omega)))
    go_wp2
    generalize hw : World.setCell (World.setCell _ _ _) _ _ = E
    obtain ⟨RR, GG⟩ := HW.out.ret hw
    obtain ⟨k0, k1, -, -⟩ := RR.two
    refine bodyPost_ret (v := .tuple #[.agg #[.slice a1 m ca, .slice b1 N cb], .int .i64 4]) (by simp [results, Try.results22, go_sem, k0, k1]) rfl ?_
    exact ⟨_, _, by rw [HE.out], by rw [HE.out]; have hq := HP.out.keep GG; rw [HM.out, HN.out] at hq; exact hq, GG⟩
  obtain ⟨k, rfl⟩ : ∃ k : Nat, n = k := ⟨n.toNat, by omega⟩
  have hkm : k < m := by omega
  have p2 : decide ((m : Int) ≤ (k : Int)) = false := decide_eq_false (by omega)
  have p6 : decide ((k : Int) < 0) = false := decide_eq_false (by omega)
  have p3 : decide (m ≤ k) = false := decide_eq_false (by omega)
  have p4 : (k : Int) < (m : Int) := by omega
  have p5 : (0 : Int) ≤ (k : Int) := by omega
  have hko : k < d.o.length := by rw [HM.out]; exact hkm
  clear p0 p1
  have HOK := Lib.hid (okD_iff.1 HB.out)
  obtain ⟨g1, o1, rfl, -, hg1, -, -, -, -, c4⟩ := HW.out.dd.o.atD hko
  obtain ⟨r, hr⟩ : ∃ r, (d.o.getD k zDs).r = r := ⟨_, rfl⟩
  rw [hr] at c4
  have HRV := Lib.hid hr
  clear hr
  by_cases hz : r = 0
  · subst hz
    have HE : Hid (x = (d, 4)) := Lib.hid (HX.out.symm.trans (updD_4r HB.out HRV.out))
    go_wp2
    generalize hw : World.setCell (World.setCell _ _ _) _ _ = E
    obtain ⟨RR, GG⟩ := HW.out.ret hw
    obtain ⟨k0, k1, -, -⟩ := RR.two
    refine bodyPost_ret (v := .tuple #[.agg #[.slice (some ⟨g1, o1, none⟩) m ca, .slice b1 N cb], .int .i64 4]) (by simp [results, Try.results22, go_sem, k0, k1]) rfl ?_
    exact ⟨_, _, by rw [HE.out], by rw [HE.out]; have hq := HP.out.keep GG; rw [HM.out, HN.out] at hq; exact hq, GG⟩
  have hz1 : (r == 0) = false := by simpa using hz
  have HRN : Hid ((d.o.getD k zDs).r ≠ 0) := Lib.hid (by rw [HRV.out]; exact hz)
  have HX2 : Hid (¬((0 ≤ yo ∧ yo ≤ 128) ∧ 0 ≤ yc ∧ yc ≤ 1000000) → x = (d, 2)) := Lib.hid (fun h => HX.out.symm.trans (updD_2 HB.out hko HRN.out h))
  obtain ⟨z0, z1, z2, z3, z4⟩ := HW.out.x.fiveD
  clear hz
  by_cases h1 : yo < 0
  · have HE : Hid (x = (d, 2)) := Lib.hid (HX2.out (by omega))
    clear HX2
    go_wp2
    generalize hw : World.setCell (World.setCell _ _ _) _ _ = E
    obtain ⟨RR, GG⟩ := HW.out.ret hw
    obtain ⟨k0, k1, -, -⟩ := RR.two
    refine bodyPost_ret (v := .tuple #[.agg #[.slice (some ⟨g1, o1, none⟩) m ca, .slice b1 N cb], .int .i64 2]) (by simp [results, Try.results22, go_sem, k0, k1]) rfl ?_
    exact ⟨_, _, by rw [HE.out], by rw [HE.out]; have hq := HP.out.keep GG; rw [HM.out, HN.out] at hq; exact hq, GG⟩
  by_cases h2 : 128 < yo
  · have HE : Hid (x = (d, 2)) := Lib.hid (HX2.out (by omega))
    clear HX2
    go_wp2
    generalize hw : World.setCell (World.setCell _ _ _) _ _ = E
    obtain ⟨RR, GG⟩ := HW.out.ret hw
    obtain ⟨k0, k1, -, -⟩ := RR.two
    refine bodyPost_ret (v := .tuple #[.agg #[.slice (some ⟨g1, o1, none⟩) m ca, .slice b1 N cb], .int .i64 2]) (by simp [results, Try.results22, go_sem, k0, k1]) rfl ?_
    exact ⟨_, _, by rw [HE.out], by rw [HE.out]; have hq := HP.out.keep GG; rw [HM.out, HN.out] at hq; exact hq, GG⟩
  by_cases h3 : yc < 0
  · have HE : Hid (x = (d, 2)) := Lib.hid (HX2.out (by omega))
    clear HX2
    go_wp2
    generalize hw : World.setCell (World.setCell _ _ _) _ _ = E
    obtain ⟨RR, GG⟩ := HW.out.ret hw
    obtain ⟨k0, k1, -, -⟩ := RR.two
    refine bodyPost_ret (v := .tuple #[.agg #[.slice (some ⟨g1, o1, none⟩) m ca, .slice b1 N cb], .int .i64 2]) (by simp [results, Try.results22, go_sem, k0, k1]) rfl ?_
    exact ⟨_, _, by rw [HE.out], by rw [HE.out]; have hq := HP.out.keep GG; rw [HM.out, HN.out] at hq; exact hq, GG⟩
  by_cases h4 : 1000000 < yc
  · have HE : Hid (x = (d, 2)) := Lib.hid (HX2.out (by omega))
    clear HX2
    go_wp2
    generalize hw : World.setCell (World.setCell _ _ _) _ _ = E
    obtain ⟨RR, GG⟩ := HW.out.ret hw
    obtain ⟨k0, k1, -, -⟩ := RR.two
    refine bodyPost_ret (v := .tuple #[.agg #[.slice (some ⟨g1, o1, none⟩) m ca, .slice b1 N cb], .int .i64 2]) (by simp [results, Try.results22, go_sem, k0, k1]) rfl ?_
    exact ⟨_, _, by rw [HE.out], by rw [HE.out]; have hq := HP.out.keep GG; rw [HM.out, HN.out] at hq; exact hq, GG⟩
  have HE : Hid (x = (upO d k ⟨yf, yg, yo, yc, yr⟩, 0)) := Lib.hid (HX.out.symm.trans (updD_0 HB.out hko HRN.out (by show (0 ≤ yo ∧ yo ≤ 128) ∧ 0 ≤ yc ∧ yc ≤ 1000000; omega)))
  have f1 : decide (yo < 0) = false := decide_eq_false h1
  have f2 : decide (128 < yo) = false := decide_eq_false h2
  have f3 : decide (yc < 0) = false := decide_eq_false h3
  have f4 : decide (1000000 < yc) = false := decide_eq_false h4
  have HHd := HW.out.dd
  have HCP := Lib.hid (copied_q HHd (by rw [HM.out]; exact ho) (by rw [HN.out]; exact ht) HOK.out.t)
  clear HHd HX HX2 r0 r1 r2 r3
  go_wp2_with fail
  with_reducible refine HCP.out.mono ?_
  rintro e9 w4 ⟨a2, b2, G, C, rfl, K, g4⟩
  obtain ⟨a3, c3, rfl⟩ := K.o.len
  obtain ⟨b3, c5, rfl⟩ := K.t.slice
  obtain ⟨wb, hwb⟩ : ∃ wb, w.alloc (.cells #[.slice (some ⟨g1, o1, none⟩) m ca, .slice b1 N cb] 29) = wb := ⟨_, rfl⟩
  have hs : wb.heap.size = w.heap.size + 1 := by rw [← hwb]; simp
  have HS := Lib.hid hs
  have hR := HW.out.res
  have hG := HW.out.g2
  rw [hwb] at hG
  rw [← hs] at hR
  have HU := Lib.hid (OuW.start hR hG hR.lt K g4)
  have HXB := Lib.hid ((HW.out.x.grew g4).alloc (.cells #[.slice a3 d.o.length c3, .slice b3 d.t.length c5] 29))
  have HGW := Lib.hid (show Grew w wb by rw [← hwb]; exact (Grew.refl w).alloc _)
  rw [HM.out, HN.out] at HU HXB ⊢
  clear K g4 x0 x1 x2 x3 z0 z1 z2 z3 z4 HW HCP hR hG hs hwb c4 hg1
  go_upto_region 8 with fail
  obtain ⟨B3, hB3⟩ : ∃ B3, w1.heap.size = B3 := ⟨_, rfl⟩
  rw [hB3] at HU
  clear hB3
  generalize w4.alloc _ = w5 at *
  generalize w4.heap.size = go at *
  have hB := HU.out.lo
  rw [HS.out] at hB
  obtain ⟨x0, x1, x2, x3⟩ := HU.out.box.two
  obtain ⟨ga, rfl, hgB, hga, c0, c1, c2, c3', c4', cf⟩ := HU.out.k.atO (k := k) hko
  have cf2 := cf (k * 5 + 2)
  have cf3 := cf (k * 5 + 3)
  have hn1 : ga ≠ go := fun e => HU.out.no.a (congrArg some e)
  have hn2 : ga ≠ w.heap.size + 1 := by omega
  obtain ⟨z0, z1, z2, z3, z4⟩ := HXB.out.fiveD
  try dsimp only at z2 z3
  generalize (d.o.getD k zDs).f = y0 at c0
  generalize (d.o.getD k zDs).g = y1 at c1
  generalize (d.o.getD k zDs).o = y2 at c2
  generalize (d.o.getD k zDs).c = y3 at c3'
  clear cf x1 x2 x3 z0 z1 z4 c0 c1 c4' h1 h2 h3 h4
  refine wp_region_held_drew (S := (fun w' => w'.cell? ⟨go, 0, none⟩ = some (.slice (some ⟨ga, 0, none⟩) m c3) ∧ w'.cell? ⟨w.heap.size + 1, 2, none⟩ = some (.int .i64 yo) ∧ w'.cell? ⟨w.heap.size + 1, 3, none⟩ = some (.int .i64 yc))) (by kernel_rfl) ?_ (fun hHeld => ?_)
  · (try dsimp only); (refine ⟨?_, ?_, ?_⟩ <;> (repeat (first | (with_reducible assumption) | (with_reducible refine far_drew ?_) | (with_reducible refine far_cell hn1 ?_) | (with_reducible refine far_cell hn2 ?_))))
  first | refine wpAnyH_take (i := 0) (v := undef) rfl (by kernel_rfl) (by kernel_rfl) (by kernel_rfl) (fun _ _ _ h => h) (Or.inr ⟨by rfl, rfl⟩) (by assumption) ?_ | (refine' wpAnyH_take (i := 0) (v := _) rfl (by kernel_rfl) (by kernel_rfl) (by kernel_rfl) (fun _ _ _ h => h) (Or.inl ⟨by rfl, ?hy0⟩) (by assumption) ?rest0; case hy0 => (intro w hSw; (try dsimp only at hSw); (first | (go_simp; done) | (go_simp; with_reducible rfl))))
  try simp only [Act.put, List.setIfInBounds_toArray, List.set_cons_zero, List.set_cons_succ, List.getElem_toArray, List.getElem_cons_zero]
  first | refine wpAnyH_take (i := 1) (v := undef) rfl (by kernel_rfl) (by kernel_rfl) (by kernel_rfl) (fun _ _ _ h => h) (Or.inr ⟨by rfl, rfl⟩) (by assumption) ?_ | (refine' wpAnyH_take (i := 1) (v := _) rfl (by kernel_rfl) (by kernel_rfl) (by kernel_rfl) (fun _ _ _ h => h) (Or.inl ⟨by rfl, ?hy1⟩) (by assumption) ?rest1; case hy1 => (intro w hSw; (try dsimp only at hSw); (first | (go_simp; done) | (go_simp; with_reducible rfl))))
  try simp only [Act.put, List.setIfInBounds_toArray, List.set_cons_zero, List.set_cons_succ, List.getElem_toArray, List.getElem_cons_zero, List.getElem_cons_succ]
  first | refine wpAnyH_take (i := 2) (v := undef) rfl (by kernel_rfl) (by kernel_rfl) (by kernel_rfl) (fun _ _ _ h => h) (Or.inr ⟨by rfl, rfl⟩) (by assumption) ?_ | (refine' wpAnyH_take (i := 2) (v := _) rfl (by kernel_rfl) (by kernel_rfl) (by kernel_rfl) (fun _ _ _ h => h) (Or.inl ⟨by rfl, ?hy2⟩) (by assumption) ?rest2; case hy2 => (intro w hSw; (try dsimp only at hSw); (first | (go_simp; done) | (go_simp; with_reducible rfl))))
  try simp only [Act.put, List.setIfInBounds_toArray, List.set_cons_zero, List.set_cons_succ, List.getElem_toArray, List.getElem_cons_zero, List.getElem_cons_succ]
  first | refine wpAnyH_take (i := 3) (v := undef) rfl (by kernel_rfl) (by kernel_rfl) (by kernel_rfl) (fun _ _ _ h => h) (Or.inr ⟨by rfl, rfl⟩) (by assumption) ?_ | (refine' wpAnyH_take (i := 3) (v := _) rfl (by kernel_rfl) (by kernel_rfl) (by kernel_rfl) (fun _ _ _ h => h) (Or.inl ⟨by rfl, ?hy3⟩) (by assumption) ?rest3; case hy3 => (intro w hSw; (try dsimp only at hSw); (first | (go_simp; done) | (go_simp; with_reducible rfl))))
  try simp only [Act.put, List.setIfInBounds_toArray, List.set_cons_zero, List.set_cons_succ, List.getElem_toArray, List.getElem_cons_zero, List.getElem_cons_succ]
  first | refine wpAnyH_take (i := 4) (v := undef) rfl (by kernel_rfl) (by kernel_rfl) (by kernel_rfl) (fun _ _ _ h => h) (Or.inr ⟨by rfl, rfl⟩) (by assumption) ?_ | (refine' wpAnyH_take (i := 4) (v := _) rfl (by kernel_rfl) (by kernel_rfl) (by kernel_rfl) (fun _ _ _ h => h) (Or.inl ⟨by rfl, ?hy4⟩) (by assumption) ?rest4; case hy4 => (intro w hSw; (try dsimp only at hSw); (first | (go_simp; done) | (go_simp; with_reducible rfl))))
  try simp only [Act.put, List.setIfInBounds_toArray, List.set_cons_zero, List.set_cons_succ, List.getElem_toArray, List.getElem_cons_zero, List.getElem_cons_succ]
  first | refine wpAnyH_take (i := 5) (v := undef) rfl (by kernel_rfl) (by kernel_rfl) (by kernel_rfl) (fun _ _ _ h => h) (Or.inr ⟨by rfl, rfl⟩) (by assumption) ?_ | (refine' wpAnyH_take (i := 5) (v := _) rfl (by kernel_rfl) (by kernel_rfl) (by kernel_rfl) (fun _ _ _ h => h) (Or.inl ⟨by rfl, ?hy5⟩) (by assumption) ?rest5; case hy5 => (intro w hSw; (try dsimp only at hSw); (first | (go_simp; done) | (go_simp; with_reducible rfl))))
  try simp only [Act.put, List.setIfInBounds_toArray, List.set_cons_zero, List.set_cons_succ, List.getElem_toArray, List.getElem_cons_zero, List.getElem_cons_succ]
  first | refine wpAnyH_take (i := 6) (v := undef) rfl (by kernel_rfl) (by kernel_rfl) (by kernel_rfl) (fun _ _ _ h => h) (Or.inr ⟨by rfl, rfl⟩) (by assumption) ?_ | (refine' wpAnyH_take (i := 6) (v := _) rfl (by kernel_rfl) (by kernel_rfl) (by kernel_rfl) (fun _ _ _ h => h) (Or.inl ⟨by rfl, ?hy6⟩) (by assumption) ?rest6; case hy6 => (intro w hSw; (try dsimp only at hSw); (first | (go_simp; done) | (go_simp; with_reducible rfl))))
  try simp only [Act.put, List.setIfInBounds_toArray, List.set_cons_zero, List.set_cons_succ, List.getElem_toArray, List.getElem_cons_zero, List.getElem_cons_succ]
  first | refine wpAnyH_take (i := 7) (v := undef) rfl (by kernel_rfl) (by kernel_rfl) (by kernel_rfl) (fun _ _ _ h => h) (Or.inr ⟨by rfl, rfl⟩) (by assumption) ?_ | (refine' wpAnyH_take (i := 7) (v := _) rfl (by kernel_rfl) (by kernel_rfl) (by kernel_rfl) (fun _ _ _ h => h) (Or.inl ⟨by rfl, ?hy7⟩) (by assumption) ?rest7; case hy7 => (intro w hSw; (try dsimp only at hSw); (first | (go_simp; done) | (go_simp; with_reducible rfl))))
  try simp only [Act.put, List.setIfInBounds_toArray, List.set_cons_zero, List.set_cons_succ, List.getElem_toArray, List.getElem_cons_zero, List.getElem_cons_succ]
  first | refine wpAnyH_take (i := 8) (v := undef) rfl (by kernel_rfl) (by kernel_rfl) (by kernel_rfl) (fun _ _ _ h => h) (Or.inr ⟨by rfl, rfl⟩) (by assumption) ?_ | (refine' wpAnyH_take (i := 8) (v := _) rfl (by kernel_rfl) (by kernel_rfl) (by kernel_rfl) (fun _ _ _ h => h) (Or.inl ⟨by rfl, ?hy8⟩) (by assumption) ?rest8; case hy8 => (intro w hSw; (try dsimp only at hSw); (first | (go_simp; done) | (go_simp; with_reducible rfl))))
  try simp only [Act.put, List.setIfInBounds_toArray, List.set_cons_zero, List.set_cons_succ, List.getElem_toArray, List.getElem_cons_zero, List.getElem_cons_succ]
  first | refine wpAnyH_take (i := 9) (v := undef) rfl (by kernel_rfl) (by kernel_rfl) (by kernel_rfl) (fun _ _ _ h => h) (Or.inr ⟨by rfl, rfl⟩) (by assumption) ?_ | (refine' wpAnyH_take (i := 9) (v := _) rfl (by kernel_rfl) (by kernel_rfl) (by kernel_rfl) (fun _ _ _ h => h) (Or.inl ⟨by rfl, ?hy9⟩) (by assumption) ?rest9; case hy9 => (intro w hSw; (try dsimp only at hSw); (first | (go_simp; done) | (go_simp; with_reducible rfl))))
  try simp only [Act.put, List.setIfInBounds_toArray, List.set_cons_zero, List.set_cons_succ, List.getElem_toArray, List.getElem_cons_zero, List.getElem_cons_succ]
  first | refine wpAnyH_take (i := 10) (v := undef) rfl (by kernel_rfl) (by kernel_rfl) (by kernel_rfl) (fun _ _ _ h => h) (Or.inr ⟨by rfl, rfl⟩) (by assumption) ?_ | (refine' wpAnyH_take (i := 10) (v := _) rfl (by kernel_rfl) (by kernel_rfl) (by kernel_rfl) (fun _ _ _ h => h) (Or.inl ⟨by rfl, ?hy10⟩) (by assumption) ?rest10; case hy10 => (intro w hSw; (try dsimp only at hSw); (first | (go_simp; done) | (go_simp; with_reducible rfl))))
  try simp only [Act.put, List.setIfInBounds_toArray, List.set_cons_zero, List.set_cons_succ, List.getElem_toArray, List.getElem_cons_zero, List.getElem_cons_succ]
  first | refine wpAnyH_take (i := 11) (v := undef) rfl (by kernel_rfl) (by kernel_rfl) (by kernel_rfl) (fun _ _ _ h => h) (Or.inr ⟨by rfl, rfl⟩) (by assumption) ?_ | (refine' wpAnyH_take (i := 11) (v := _) rfl (by kernel_rfl) (by kernel_rfl) (by kernel_rfl) (fun _ _ _ h => h) (Or.inl ⟨by rfl, ?hy11⟩) (by assumption) ?rest11; case hy11 => (intro w hSw; (try dsimp only at hSw); (first | (go_simp; done) | (go_simp; with_reducible rfl))))
  try simp only [Act.put, List.setIfInBounds_toArray, List.set_cons_zero, List.set_cons_succ, List.getElem_toArray, List.getElem_cons_zero, List.getElem_cons_succ]
  refine wpAnyH_ready (rs := [12]) (by kernel_rfl) (by simp) ?_
  refine AllReadyH.cons rfl (fun K hK => ?_) AllReadyH.nil
  try simp only [Act.put, List.getElem_toArray, List.getElem_cons_zero, List.getElem_cons_succ]
  go_simp
  refine hK.out _ _ ?_ (fun hHeld => ?_)
  · (try dsimp only); (refine ⟨?_, ?_, ?_⟩ <;> (repeat (first | (with_reducible assumption) | (with_reducible refine far_drew ?_) | (with_reducible refine far_cell hn1 ?_) | (with_reducible refine far_cell hn2 ?_))))
  clear hK K
  try simp only [Act.put, List.setIfInBounds_toArray, List.set_cons_zero, List.set_cons_succ, List.getElem_toArray, List.getElem_cons_zero, List.getElem_cons_succ]
  first | refine wpAnyH_take (i := 13) (v := undef) rfl (by kernel_rfl) (by kernel_rfl) (by kernel_rfl) (fun _ _ _ h => h) (Or.inr ⟨by rfl, rfl⟩) (by assumption) ?_ | (refine' wpAnyH_take (i := 13) (v := _) rfl (by kernel_rfl) (by kernel_rfl) (by kernel_rfl) (fun _ _ _ h => h) (Or.inl ⟨by rfl, ?hy13⟩) (by assumption) ?rest13; case hy13 => (intro w hSw; (try dsimp only at hSw); (first | (go_simp; done) | (go_simp; with_reducible rfl))))
  try simp only [Act.put, List.setIfInBounds_toArray, List.set_cons_zero, List.set_cons_succ, List.getElem_toArray, List.getElem_cons_zero, List.getElem_cons_succ]
  first | refine wpAnyH_take (i := 14) (v := undef) rfl (by kernel_rfl) (by kernel_rfl) (by kernel_rfl) (fun _ _ _ h => h) (Or.inr ⟨by rfl, rfl⟩) (by assumption) ?_ | (refine' wpAnyH_take (i := 14) (v := _) rfl (by kernel_rfl) (by kernel_rfl) (by kernel_rfl) (fun _ _ _ h => h) (Or.inl ⟨by rfl, ?hy14⟩) (by assumption) ?rest14; case hy14 => (intro w hSw; (try dsimp only at hSw); (first | (go_simp; done) | (go_simp; with_reducible rfl))))
  try simp only [Act.put, List.setIfInBounds_toArray, List.set_cons_zero, List.set_cons_succ, List.getElem_toArray, List.getElem_cons_zero, List.getElem_cons_succ]
  refine wpAnyH_ready (rs := [15]) (by kernel_rfl) (by simp) ?_
  refine AllReadyH.cons rfl (fun K hK => ?_) AllReadyH.nil
  try simp only [Act.put, List.getElem_toArray, List.getElem_cons_zero, List.getElem_cons_succ]
  go_simp
  refine hK.out _ _ ?_ (fun hHeld => ?_)
  · (try dsimp only); (refine ⟨?_, ?_, ?_⟩ <;> (repeat (first | (with_reducible assumption) | (with_reducible refine far_drew ?_) | (with_reducible refine far_cell hn1 ?_) | (with_reducible refine far_cell hn2 ?_))))
  clear hK K
  try simp only [Act.put, List.setIfInBounds_toArray, List.set_cons_zero, List.set_cons_succ, List.getElem_toArray, List.getElem_cons_zero, List.getElem_cons_succ]
  refine wpAnyH_done (by kernel_rfl) ?_ _
  have u1 := HU.out.storeO (k := k) (j := 2) hko (by omega) (x := .int .i64 yo) (y := { d.o.getD k zDs with o := yo }) rfl
  have u2 := u1.storeO (k := k) (j := 3) (by show k < (d.o.set k _).length; rw [List.length_set]; exact hko) (by omega) (x := .int .i64 yc) (y := { d.o.getD k zDs with o := yo, c := yc }) (by show _ = (encDs ((d.o.set k _).getD k zDs)).set 3 _; rw [setO_eq hko]; rfl)
  dsimp only at u2
  rw [List.set_set] at u2
  replace HU := Lib.hid (u2.grew ((Grew.refl _).drew))
  clear u1 u2 x0 z2 z3 c2 c3' cf2 cf3
  generalize ((w5.setCell _ _).setCell _ _).drew = w6 at *
  obtain ⟨x0, x1, x2, x3⟩ := HU.out.box.two
  obtain ⟨r0, r1, r2, r3⟩ := HU.out.res.two
  rw [HS.out] at r0 r1 r2 r3
  go_wp2
  generalize hw : World.setCell (World.setCell _ _ _) _ _ = E
  rw [← HS.out] at hw
  obtain ⟨RR, GG, DD⟩ := HU.out.ret hw
  obtain ⟨k0, k1, -, -⟩ := RR.two
  rw [HS.out] at k0 k1
  refine bodyPost_ret (v := .tuple #[.agg #[.slice (some ⟨ga, 0, none⟩) m c3, .slice b3 N c5], .int .i64 0]) (by simp [results, Try.results22, go_sem, k0, k1]) rfl ?_
  exact ⟨_, _, by rw [HE.out], by rw [HE.out]; exact (DD.wider (by have := HS.out; omega)).own (w0 := w), HGW.out.trans GG⟩
end Go.Proofs.Ytokijggckiidjaa
