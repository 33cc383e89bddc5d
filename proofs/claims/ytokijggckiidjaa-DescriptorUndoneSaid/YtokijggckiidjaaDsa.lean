/- Close of the reference (layer 18). mkds9.py writes this text. -/
import Derived.Test.YtokijggckiidjaaDs9
import Derived.Deep.LoopGhost
namespace Go.Proofs.Ytokijggckiidjaa
open Go.ChangeShapes Go.WideShapes Go.ChangeAt Go.RowKit Go.Mine
set_option maxHeartbeats 16000000 in
theorem close_q {pp : Nat → Prop} {a b : Value} {d : Dd} {p q : Int} {x : Dd × Bool × Int} {w : World} (h0 : DdP w pp a b d) (ho : d.o.length ≤ 1000) (ht : d.t.length ≤ 1000) (hx : clsD d p q = x) :
    Calls Try.prog 18 #[.agg #[a, b], .int .i64 p, .int .i64 q] w (RetDB pp x w) := by
  have HP := Lib.hid h0
  have h := h0.rd
  clear h0
  obtain ⟨a1, ca, rfl, -, -⟩ := h.o.slice
  obtain ⟨b1, cb, rfl, -, -⟩ := h.t.slice
  obtain ⟨m, hm⟩ : ∃ m, d.o.length = m := ⟨_, rfl⟩
  obtain ⟨N, hN⟩ : ∃ N, d.t.length = N := ⟨_, rfl⟩
  have HM := Lib.hid hm
  have HN := Lib.hid hN
  have HX := Lib.hid hx
  have HH := Lib.hid h
  rw [hm] at h ho ⊢
  rw [hN] at h ht ⊢
  have W0 := BxD.start w 29 _ _ h
  have HW := Lib.hid W0
  obtain ⟨x0, x1, x2, x3⟩ := W0.dbox.two
  obtain ⟨⟨ln, ly, le⟩, hl⟩ : ∃ z, lkD d p q = z := ⟨_, rfl⟩
  have HL := Lib.hid hl
  have HC := Lib.hid (lookup_q W0.dd (by rw [HM.out]; exact ho) (by rw [HN.out]; exact ht) hl)
  clear hx hm hN h W0 hl
  go_enter Try.func18, Try.ntmps18
  go_wp2_with fail
  with_reducible refine HC.out.mono ?_
  rintro e9 w1 ⟨rfl, g1⟩
  clear x0 x1 x2 x3
  replace HW := Lib.hid ((HW.out.grew g1).grew ((Grew.refl w1).alloc (.cells #[.int .i64 ly.f, .int .i64 ly.g, .int .i64 ly.o, .int .i64 ly.c, .int .i64 ly.r] 34)))
  obtain ⟨x0, x1, x2, x3⟩ := HW.out.dbox.two
  obtain ⟨r0, r1, r2, r3⟩ := HW.out.res.two
  clear HC g1
  by_cases hle : le = 0
  rotate_left
  · have HE : Hid (x = (d, false, le)) := Lib.hid (HX.out.symm.trans (by rw [clsD_e (by rw [HL.out]; exact hle), HL.out]))
    have e1 : (le == 0) = false := by simpa using hle
    have e2 : (le != 0) = true := by simpa using hle
    clear hle
    go_wp2
    generalize hw : World.setCell (World.setCell _ _ _) _ _ = E
    obtain ⟨RR, GG⟩ := HW.out.ret hw
    obtain ⟨k0, k1, -, -⟩ := RR.two
    refine bodyPost_ret (v := .tuple #[.agg #[.slice a1 m ca, .slice b1 N cb], .bool false, .int .i64 le]) (by simp [results, Try.results18, go_sem, k0, k1]) rfl ?_
    exact ⟨_, _, by rw [HE.out], by rw [HE.out]; have hq := HP.out.keep GG; rw [HM.out, HN.out] at hq; exact hq, GG⟩
  subst hle
  have h0 : (lkD d p q).2.2 = 0 := by rw [HL.out]
  obtain ⟨hok, pn, qn, k, rfl, rfl, hpt, hqn, hent, hko, hlk⟩ := lkD_get h0
  obtain rfl : ln = (k : Int) := congrArg Prod.fst (HL.out.symm.trans hlk)
  have HOK := Lib.hid (okD_iff.1 hok)
  have hpN : pn < N := by rw [← HN.out]; exact hpt
  have hkm : k < m := by rw [← HM.out]; exact hko
  have p4 : (pn : Int) < (N : Int) := by omega
  have p5 : (0 : Int) ≤ (pn : Int) := by omega
  have k4 : (k : Int) < (m : Int) := by omega
  have k5 : (0 : Int) ≤ (k : Int) := by omega
  have hrc := (HOK.out.r k hko).1
  have hcl := cntD_le d.t.flatten k
  rw [flat_len HOK.out.t] at hcl
  have h8 := HOK.out.t8
  have hcp := cntD_mem (T := d.t) (k := k) hpt (by rw [HOK.out.t pn hpt]; exact hqn) hent
  have hrb : (d.o.getD k zDs).r ≤ 128 := by omega
  have hrb1 : 1 ≤ (d.o.getD k zDs).r := by omega
  have HENT := Lib.hid hent
  have HH0 := Lib.hid h0
  have HL1 : Hid ((lkD d pn qn).1 = k) := Lib.hid (by rw [HL.out])
  clear hrc hcl hcp hent h0 hlk HL
  have HHd := HW.out.dd
  have HCP := Lib.hid (copied_q HHd (by rw [HM.out]; exact ho) (by rw [HN.out]; exact ht) HOK.out.t)
  have hq4 : (qn : Int) < 16 := by omega
  have hq5 : (0 : Int) ≤ (qn : Int) := by omega
  obtain ⟨w3, hw3⟩ : ∃ w3 : World, (w1.alloc (.cells #[.int .i64 ly.f, .int .i64 ly.g, .int .i64 ly.o, .int .i64 ly.c, .int .i64 ly.r] 34)) = w3 := ⟨_, rfl⟩
  rw [hw3] at HW HCP HHd
  go_upto_region 4 with fail
  rw [hw3] at x0 x1 x2 x3
  try rw [hw3]
  clear hw3 r0 r1 r2 r3 HHd
  go_wp2_with fail
  with_reducible refine HCP.out.mono ?_
  rintro e9 w4 ⟨a2, b2, G, C, rfl, K, g4⟩
  obtain ⟨a3, c3, rfl⟩ := K.o.len
  obtain ⟨b3, c4, rfl⟩ := K.t.slice
  have HU := Lib.hid (OuW.start HW.out.res HW.out.g HW.out.lo K g4)
  rw [HM.out, HN.out] at HU ⊢
  clear K g4 x0 x1 x2 x3 HW HCP
  go_upto_region 5 with fail
  generalize w3.heap.size = B3 at HU
  generalize w4.alloc _ = w5 at *
  generalize w4.heap.size = go at *
  obtain ⟨x0, x1, x2, x3⟩ := HU.out.box.two
  obtain ⟨gv, rfl, -, hgv, d0, -⟩ := HU.out.k.t.at_ (k := pn) hpt
  have h16 := HOK.out.t pn hpt
  obtain ⟨e0, ef, -, hgp⟩ := HU.out.k.t.in_ (k := pn) (i := qn) hpt (show qn < (d.t.getD pn []).length by rw [h16]; exact hqn)
  rw [h16] at d0
  generalize (d.t.getD pn []).getD qn 0 = y at e0
  clear h16
  go_upto_region 6 with fail
  replace HU := Lib.hid (HU.out.storeT (p := pn) hpt qn 0)
  generalize World.setCell w5 _ _ = w5 at *
  clear x0 x1 x2 x3 d0 e0 ef
  obtain ⟨x0, x1, x2, x3⟩ := HU.out.box.two
  obtain ⟨ga, rfl, -, hga, -, -, -, -, c4', cf⟩ := HU.out.k.atO (k := k) hko
  try dsimp only at c4'
  have cf4 := cf (k * 5 + 4)
  obtain ⟨r, hr⟩ : ∃ r, (d.o.getD k zDs).r = r := ⟨_, rfl⟩
  rw [hr] at c4' hrb hrb1
  have w3' : IntKind.i64.wrap (r - 1) = r - 1 := IntWalk.i64_in _ (by omega)
  have HRV := Lib.hid hr
  clear cf hr
  go_upto_region 7 with fail
  replace HU := Lib.hid (HU.out.storeO (k := k) (j := 4) hko (by omega) (x := .int .i64 (r - 1)) (y := { d.o.getD k zDs with r := (d.o.getD k zDs).r - 1 }) (by rw [← HRV.out]; rfl))
  generalize World.setCell w5 _ _ = w6 at *
  clear x0 x1 x2 x3 c4' cf4
  obtain ⟨x0, x1, x2, x3⟩ := HU.out.box.two
  obtain ⟨g2, e9, -, hg2, c0, c1, c2, c3', c4', cf⟩ := HU.out.k.atO (k := k) (by show k < (d.o.set k _).length; rw [List.length_set]; exact hko)
  injection e9 with e9
  injection e9 with e9
  subst e9
  dsimp only at c0 c1 c2 c3' c4'
  rw [setO_eq hko] at c0 c1 c2 c3' c4'
  dsimp only at c0 c1 c2 c3' c4'
  rw [HRV.out] at c4'
  by_cases hr1 : 0 < r - 1
  · have HE : Hid (x = (⟨setT d.t pn qn 0, d.o.set k { d.o.getD k zDs with r := (d.o.getD k zDs).r - 1 }⟩, false, 0)) := Lib.hid (HX.out.symm.trans (by rw [clsD_0 HH0.out HL1.out, clD_t (by rw [HRV.out]; exact hr1)]))
    clear cf
    obtain ⟨x0, x1, x2, x3⟩ := HU.out.box.two
    obtain ⟨r0, r1, r2, r3⟩ := HU.out.res.two
    go_wp2
    generalize hw : World.setCell (World.setCell _ _ _) _ _ = E
    obtain ⟨RR, GG, DD⟩ := HU.out.ret hw
    obtain ⟨k0, k1, -, -⟩ := RR.two
    refine bodyPost_ret (v := .tuple #[.agg #[.slice (some ⟨ga, 0, none⟩) m c3, .slice (some ⟨gv, 0, none⟩) N c4], .bool false, .int .i64 0]) (by simp [results, Try.results18, go_sem, k0, k1]) rfl ?_
    exact ⟨_, _, by rw [HE.out], by rw [HE.out]; exact DD.own, GG⟩
  · obtain rfl : r = 1 := by omega
    have HE : Hid (x = (⟨setT d.t pn qn 0, trD (d.o.set k zDs)⟩, true, 0)) := Lib.hid (HX.out.symm.trans (by rw [clsD_0 HH0.out HL1.out, clD_f (by rw [HRV.out]; omega)]))
    have cf0 := cf (k * 5)
    have cf1 := cf (k * 5 + 1)
    have cf2 := cf (k * 5 + 2)
    have cf3 := cf (k * 5 + 3)
    have cf4 := cf (k * 5 + 4)
    clear cf hr1 HX
    go_upto_region 9 with fail
    generalize (d.o.getD k zDs).f = y0 at c0
    generalize (d.o.getD k zDs).g = y1 at c1
    generalize (d.o.getD k zDs).o = y2 at c2
    generalize (d.o.getD k zDs).c = y3 at c3'
    go_wp2_with fail
    generalize hw : World.setCell (World.setCell (World.setCell (World.setCell (World.setCell w6 _ _) _ _) _ _) _ _) _ _ = w7
    replace HU := Lib.hid (HU.out.storeX (k := k) (by show k < (d.o.set k _).length; rw [List.length_set]; exact hko) zDs hw)
    simp only [List.set_set] at HU
    have hL : (d.o.set k zDs).length = m := by rw [List.length_set, HM.out]
    have HL7 := Lib.hid hL
    have HT7 : Hid (d.o.set k zDs = (d.o.set k zDs).take m) := Lib.hid (List.take_of_length_le (Nat.le_of_eq hL)).symm
    rw [HT7.out] at HU
    obtain ⟨o1, ho1⟩ : ∃ o1, d.o.set k zDs = o1 := ⟨_, rfl⟩
    rw [ho1] at HU HL7 HE
    clear hw x0 x1 x2 x3 c0 c1 c2 c3' c4' cf0 cf1 cf2 cf3 cf4 HT7 hL ho1 HRV
    go_loopg [] m (fun n wr => n ≤ m ∧ Hid (lsD o1 n = lsD o1 m) ∧ OuW w 29 34 22 3 B3 go (.slice (some ⟨ga, 0, none⟩) n c3) (.slice (some ⟨gv, 0, none⟩) N c4) (.slice none 0 0) (.slice none 0 0) G C ⟨setT d.t pn qn 0, o1.take n⟩ wr)
    case atStart => exact ⟨Nat.le_refl _, Lib.hid rfl, HU.out⟩
    case round =>
      clear HU
      obtain ⟨hn, HLS, U⟩ := hrel
      obtain ⟨wo, rfl⟩ : ∃ wo : World, wo = wr := ⟨_, rfl⟩
      have HU := Lib.hid U
      clear U
      cases gk with
      | zero =>
        have HE2 : Hid (trD o1 = o1.take 0) := Lib.hid (by unfold trD; rw [HL7.out, ← HLS.out]; rfl)
        rw [HE2.out] at HE
        obtain ⟨x0, x1, x2, x3⟩ := HU.out.box.two
        obtain ⟨r0, r1, r2, r3⟩ := HU.out.res.two
        go_wp2
        generalize hw : World.setCell (World.setCell _ _ _) _ _ = E
        obtain ⟨RR, GG, DD⟩ := HU.out.ret hw
        obtain ⟨k0, k1, -, -⟩ := RR.two
        refine bodyPost_ret (v := .tuple #[.agg #[.slice (some ⟨ga, 0, none⟩) 0 c3, .slice (some ⟨gv, 0, none⟩) N c4], .bool true, .int .i64 0]) (by simp [results, Try.results18, go_sem, k0, k1]) rfl ?_
        exact ⟨_, _, by rw [HE.out], by rw [HE.out]; exact DD.own, GG⟩
      | succ q =>
        have HQ1 : Hid (q < (o1.take (q + 1)).length) := Lib.hid (by rw [List.length_take, HL7.out]; omega)
        obtain ⟨g2, e9, -, hg2, -, -, -, -, c4', -⟩ := HU.out.k.atO (k := q) HQ1.out
        injection e9 with e9
        injection e9 with e9
        subst e9
        have HG1 : Hid ((o1.take (q + 1)).getD q zDs = o1.getD q zDs) := Lib.hid (by simp only [List.getD]; rw [List.getElem?_take, if_pos (Nat.lt_succ_self q)])
        dsimp only at c4'
        rw [HG1.out] at c4'
        obtain ⟨r, hr⟩ : ∃ r, (o1.getD q zDs).r = r := ⟨_, rfl⟩
        have HRV := Lib.hid hr
        rw [hr] at c4'
        clear hr
        have hq0 : (0 : Int) < ((q + 1 : Nat) : Int) := by omega
        have hq1 : IntKind.i64.wrap (((q + 1 : Nat) : Int) - 1) = (q : Int) := by rw [IntWalk.i64_in _ (by omega)]; omega
        have hq2 : (0 : Int) ≤ (q : Int) := by omega
        have hq3 : (q : Int) < ((q + 1 : Nat) : Int) := by omega
        obtain ⟨n, hn'⟩ : ∃ n, q + 1 = n := ⟨_, rfl⟩
        have HNN := Lib.hid hn'
        obtain ⟨x0, x1, x2, x3⟩ := HU.out.box.two
        rw [hn'] at hq0 hq1 hq3 x0 hn HU
        have hcc : n ≤ c3 := by have := HU.out.k.o; obtain ⟨a', c', e, h1, -⟩ := RowE.rdS encDs_len this; injection e with e1 e2 e3; rw [e3, e2]; exact h1
        have hqc : (q : Int) ≤ (c3 : Int) := by omega
        clear hn'
        by_cases hz : r = 0
        · subst hz
          have HLS2 : Hid (lsD o1 q = lsD o1 m) := Lib.hid (by rw [← HLS.out, lsD_z HRV.out])
          go_wp2_with fail
          have hqn1 := HNN.out
          have hq1' := HQ1.out
          have U2 := HU.out.cut (k := q) (Nat.le_of_lt (by rw [← hqn1]; exact hq1'))
          dsimp only at U2
          rw [List.take_take, Nat.min_eq_left (by omega)] at U2
          go_roundg q
          all_goals first | exact ⟨by omega, HLS2, U2⟩ | omega
        · have HE2 : Hid (trD o1 = o1.take n) := Lib.hid (by unfold trD; rw [HL7.out, ← HLS.out, lsD_n (by rw [HRV.out]; exact hz), HNN.out])
          rw [HE2.out] at HE
          have hz1 : (r == 0) = false := by simpa using hz
          clear hz
          obtain ⟨x0, x1, x2, x3⟩ := HU.out.box.two
          obtain ⟨r0, r1, r2, r3⟩ := HU.out.res.two
          go_wp2
          generalize hw : World.setCell (World.setCell _ _ _) _ _ = E
          obtain ⟨RR, GG, DD⟩ := HU.out.ret hw
          obtain ⟨k0, k1, -, -⟩ := RR.two
          refine bodyPost_ret (v := .tuple #[.agg #[.slice (some ⟨ga, 0, none⟩) n c3, .slice (some ⟨gv, 0, none⟩) N c4], .bool true, .int .i64 0]) (by simp [results, Try.results18, go_sem, k0, k1]) rfl ?_
          exact ⟨_, _, by rw [HE.out], by rw [HE.out]; exact DD.own, GG⟩
end Go.Proofs.Ytokijggckiidjaa
