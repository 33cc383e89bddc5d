/- Dup of the reference (layer 18). mkds9.py writes this text. -/
import Derived.Test.YtokijggckiidjaaDs8
import Derived.Deep.LoopGhost
namespace Go.Proofs.Ytokijggckiidjaa
open Go.ChangeShapes Go.WideShapes Go.ChangeAt Go.RowKit Go.Mine
set_option maxHeartbeats 16000000 in
theorem dup_q {pp : Nat → Prop} {a b : Value} {d : Dd} {p q : Int} {x : Dd × Int × Int} {w : World} (h0 : DdP w pp a b d) (ho : d.o.length ≤ 1000) (ht : d.t.length ≤ 1000) (hx : dupD d p q = x) :
    Calls Try.prog 13 #[.agg #[a, b], .int .i64 p, .int .i64 q] w (RetDI pp x w) := by
  have HP := Lib.hid h0
  have h := h0.rd
  clear h0
  obtain ⟨a1, ca, rfl, -, -⟩ := h.o.slice
  obtain ⟨b1, cb, rfl, -, -⟩ := h.t.slice
  obtain ⟨m, hm⟩ : ∃ m, d.o.length = m := ⟨_, rfl⟩
  obtain ⟨N, hN⟩ : ∃ N, d.t.length = N := ⟨_, rfl⟩
  have HM := Lib.hid hm
  have HN := Lib.hid hN
  have HX := Lib.hid hx
  have HH := Lib.hid h
  rw [hm] at h ho ⊢
  rw [hN] at h ht ⊢
  have W0 := BxD.start w 29 _ _ h
  have HW := Lib.hid W0
  obtain ⟨x0, x1, x2, x3⟩ := W0.dbox.two
  obtain ⟨⟨ln, ly, le⟩, hl⟩ : ∃ z, lkD d p q = z := ⟨_, rfl⟩
  have HL := Lib.hid hl
  have HC := Lib.hid (lookup_q W0.dd (by rw [HM.out]; exact ho) (by rw [HN.out]; exact ht) hl)
  clear hx hm hN h W0 hl
  go_enter Try.func13, Try.ntmps13
  go_wp2_with fail
  with_reducible refine HC.out.mono ?_
  rintro e9 w1 ⟨rfl, g1⟩
  clear x0 x1 x2 x3
  replace HW := Lib.hid ((HW.out.grew g1).grew ((Grew.refl w1).alloc (.cells #[.int .i64 ly.f, .int .i64 ly.g, .int .i64 ly.o, .int .i64 ly.c, .int .i64 ly.r] 34)))
  obtain ⟨x0, x1, x2, x3⟩ := HW.out.dbox.two
  obtain ⟨r0, r1, r2, r3⟩ := HW.out.res.two
  clear HC g1
  by_cases hle : le = 0
  rotate_left
  · have HE : Hid (x = (d, 0, le)) := Lib.hid (HX.out.symm.trans (by rw [dupD_e (by rw [HL.out]; exact hle), HL.out]))
    have e1 : (le == 0) = false := by simpa using hle
    have e2 : (le != 0) = true := by simpa using hle
    clear hle
    go_wp2
    generalize hw : World.setCell (World.setCell _ _ _) _ _ = E
    obtain ⟨RR, GG⟩ := HW.out.ret hw
    obtain ⟨k0, k1, -, -⟩ := RR.two
    refine bodyPost_ret (v := .tuple #[.agg #[.slice a1 m ca, .slice b1 N cb], .int .i64 0, .int .i64 le]) (by simp [results, Try.results13, go_sem, k0, k1]) rfl ?_
    exact ⟨_, _, by rw [HE.out], by rw [HE.out]; have hq := HP.out.keep GG; rw [HM.out, HN.out] at hq; exact hq, GG⟩
  subst hle
  have h0 : (lkD d p q).2.2 = 0 := by rw [HL.out]
  obtain ⟨hok, pn, qn, k, rfl, rfl, hpt, hqn, hent, hko, hlk⟩ := lkD_get h0
  obtain rfl : ln = (k : Int) := congrArg Prod.fst (HL.out.symm.trans hlk)
  have HOK := Lib.hid (okD_iff.1 hok)
  have hpN : pn < N := by rw [← HN.out]; exact hpt
  have hkm : k < m := by rw [← HM.out]; exact hko
  have p4 : (pn : Int) < (N : Int) := by omega
  have p5 : (0 : Int) ≤ (pn : Int) := by omega
  have k4 : (k : Int) < (m : Int) := by omega
  have k5 : (0 : Int) ≤ (k : Int) := by omega
  have hrc := (HOK.out.r k hko).1
  have hcl := cntD_le d.t.flatten k
  rw [flat_len HOK.out.t] at hcl
  have h8 := HOK.out.t8
  have hcp := cntD_mem (T := d.t) (k := k) hpt (by rw [HOK.out.t pn hpt]; exact hqn) hent
  have hrb : (d.o.getD k zDs).r ≤ 128 := by omega
  have hrb1 : 1 ≤ (d.o.getD k zDs).r := by omega
  have HENT := Lib.hid hent
  have HH0 := Lib.hid h0
  have HL1 : Hid ((lkD d pn qn).1 = k) := Lib.hid (by rw [HL.out])
  clear hrc hcl hcp hent h0 hlk HL
  have HHf := HW.out.dd
  obtain ⟨fr, hfr⟩ : ∃ fr, frD (d.t.getD pn []) = fr := ⟨_, rfl⟩
  have HFR := Lib.hid hfr
  by_cases hf : fr < 16
  rotate_left
  · have HE : Hid (x = (d, 0, 3)) := Lib.hid (HX.out.symm.trans (dupD_3 HH0.out (by rw [hfr]; exact hf)))
    have HF := Lib.hid (free_q HHf hpt (HOK.out.t pn hpt) (by omega) (freI_ge (by rw [hfr]; exact hf)))
    clear hfr hf HHf h8
    go_wp2_with fail
    with_reducible refine HF.out.mono ?_
    rintro e9 w3 ⟨rfl, g3⟩
    clear x0 x1 x2 x3 r0 r1 r2 r3
    replace HW := Lib.hid (HW.out.grew g3)
    obtain ⟨x0, x1, x2, x3⟩ := HW.out.dbox.two
    obtain ⟨r0, r1, r2, r3⟩ := HW.out.res.two
    clear g3 HF
    go_wp2
    generalize hw : World.setCell (World.setCell _ _ _) _ _ = E
    obtain ⟨RR, GG⟩ := HW.out.ret hw
    obtain ⟨k0, k1, -, -⟩ := RR.two
    refine bodyPost_ret (v := .tuple #[.agg #[.slice a1 m ca, .slice b1 N cb], .int .i64 0, .int .i64 3]) (by simp [results, Try.results13, go_sem, k0, k1]) rfl ?_
    exact ⟨_, _, by rw [HE.out], by rw [HE.out]; have hq := HP.out.keep GG; rw [HM.out, HN.out] at hq; exact hq, GG⟩
  have HF := Lib.hid (free_q HHf hpt (HOK.out.t pn hpt) (by omega) ((freI_lt (by rw [hfr]; exact hf)).trans (by rw [hfr])))
  have HE : Hid (x = (⟨setT d.t pn fr ((k : Int) + 1), d.o.set k { d.o.getD k zDs with r := (d.o.getD k zDs).r + 1 }⟩, (fr : Int), 0)) := Lib.hid (HX.out.symm.trans (by rw [dupD_0 HH0.out HL1.out (by rw [hfr]; exact hf)]; unfold duD; rw [hfr]))
  have q0 : decide ((fr : Int) < 0) = false := decide_eq_false (by omega)
  have q1 : (0 : Int) ≤ (fr : Int) := by omega
  have q2 : (fr : Int) < 16 := by omega
  clear hfr HHf h8 HX
  go_wp2_with fail
  with_reducible refine HF.out.mono ?_
  rintro e9 w3 ⟨rfl, g3⟩
  clear x0 x1 x2 x3 r0 r1 r2 r3
  replace HW := Lib.hid (HW.out.grew g3)
  obtain ⟨x0, x1, x2, x3⟩ := HW.out.dbox.two
  have HCP := Lib.hid (copied_q HW.out.dd (by rw [HM.out]; exact ho) (by rw [HN.out]; exact ht) HOK.out.t)
  clear g3 HF
  go_wp2_with fail
  with_reducible refine HCP.out.mono ?_
  rintro e9 w4 ⟨a2, b2, G, C, rfl, K, g4⟩
  obtain ⟨a3, c3, rfl⟩ := K.o.len
  obtain ⟨b3, c4, rfl⟩ := K.t.slice
  have HU := Lib.hid (OuW.start HW.out.res HW.out.g HW.out.lo K g4)
  rw [HM.out, HN.out] at HU ⊢
  clear K g4 x0 x1 x2 x3 HW HCP
  go_upto_region 8 with fail
  generalize w3.heap.size = B3 at HU
  generalize w4.alloc _ = w5 at *
  generalize w4.heap.size = go at *
  obtain ⟨x0, x1, x2, x3⟩ := HU.out.box.two
  obtain ⟨ga, rfl, -, hga, -, -, -, -, c4', cf⟩ := HU.out.k.atO (k := k) hko
  try dsimp only at c4'
  have cf4 := cf (k * 5 + 4)
  obtain ⟨r, hr⟩ : ∃ r, (d.o.getD k zDs).r = r := ⟨_, rfl⟩
  rw [hr] at c4' hrb hrb1
  have w3' : IntKind.i64.wrap (r + 1) = r + 1 := IntWalk.i64_in _ (by omega)
  have HRV := Lib.hid hr
  clear cf hr
  go_upto_region 9 with fail
  replace HU := Lib.hid (HU.out.storeO (k := k) (j := 4) hko (by omega) (x := .int .i64 (r + 1)) (y := { d.o.getD k zDs with r := (d.o.getD k zDs).r + 1 }) (by rw [← HRV.out]; rfl))
  generalize World.setCell w5 _ _ = w6 at *
  clear x0 x1 x2 x3 c4' cf4
  obtain ⟨x0, x1, x2, x3⟩ := HU.out.box.two
  obtain ⟨gv, rfl, -, hgv, d0, -⟩ := HU.out.k.t.at_ (k := pn) hpt
  have h16 := HOK.out.t pn hpt
  obtain ⟨e0, ef, -, hgp⟩ := HU.out.k.t.in_ (k := pn) (i := fr) hpt (show fr < (d.t.getD pn []).length by rw [h16]; exact hf)
  try dsimp only at d0 e0
  rw [h16] at d0
  have w4' : IntKind.i64.wrap ((k : Int) + 1) = (k : Int) + 1 := IntWalk.i64_in _ (by omega)
  generalize (d.t.getD pn []).getD fr 0 = y at e0
  clear h16
  go_upto_region 10 with fail
  replace HU := Lib.hid (HU.out.storeT (p := pn) hpt fr ((k : Int) + 1))
  generalize World.setCell w6 _ _ = w7 at *
  clear x0 x1 x2 x3 d0 e0 ef
  obtain ⟨x0, x1, x2, x3⟩ := HU.out.box.two
  obtain ⟨r0, r1, r2, r3⟩ := HU.out.res.two
  go_wp2
  generalize hw : World.setCell (World.setCell _ _ _) _ _ = E
  obtain ⟨RR, GG, DD⟩ := HU.out.ret hw
  obtain ⟨k0, k1, -, -⟩ := RR.two
  refine bodyPost_ret (v := .tuple #[.agg #[.slice (some ⟨ga, 0, none⟩) m c3, .slice (some ⟨gv, 0, none⟩) N c4], .int .i64 fr, .int .i64 0]) (by simp [results, Try.results13, go_sem, k0, k1]) rfl ?_
  exact ⟨_, _, by rw [HE.out], by rw [HE.out]; exact DD.own, GG⟩
end Go.Proofs.Ytokijggckiidjaa
