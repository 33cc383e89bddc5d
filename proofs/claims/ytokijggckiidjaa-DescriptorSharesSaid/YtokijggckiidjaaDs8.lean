/- Open of the reference (layer 18). mkds8.py writes this text out of ds8.base. -/
import Derived.Test.YtokijggckiidjaaDs7
namespace Go.Mine
open Go Go.RowKit
/-- The least free place from k on. -/
def atF (o : List Ds) (k : Nat) : Nat := k + frD ((o.map Ds.r).drop k)
theorem atF_0 (o : List Ds) : atF o 0 = atD o := by unfold atF atD; rw [List.drop_zero, Nat.zero_add]
theorem atF_m (o : List Ds) : atF o o.length = o.length := by
  unfold atF
  rw [List.drop_eq_nil_of_le (by rw [List.length_map]; exact Nat.le_refl _)]
  rfl
theorem atF_s {o : List Ds} {k : Nat} (h : k < o.length) : atF o k = if (o.getD k zDs).r = 0 then k else atF o (k + 1) := by
  unfold atF
  have h' : k < (o.map Ds.r).length := by rw [List.length_map]; exact h
  rw [List.drop_eq_getElem_cons h', ← getD_get (d := 0) h', mapR]
  by_cases e : (o.getD k zDs).r = 0
  · rw [if_pos e, e]; rfl
  · rw [if_neg e]
    show k + (match decide ((o.getD k zDs).r = 0) with | true => 0 | false => frD ((o.map Ds.r).drop (k + 1)) + 1) = _
    rw [decide_eq_false e]
    show k + (frD ((o.map Ds.r).drop (k + 1)) + 1) = k + 1 + frD ((o.map Ds.r).drop (k + 1))
    omega
end Go.Mine
namespace Go.Proofs.Ytokijggckiidjaa
open Go.ChangeShapes Go.WideShapes Go.ChangeAt Go.RowKit Go.Mine
set_option maxHeartbeats 16000000 in
theorem open_q {pp : Nat → Prop} {a b : Value} {d : Dd} {p f g c : Int} {x : Dd × Int × Int} {w : World} (h0 : DdP w pp a b d) (ho : d.o.length ≤ 1000) (ht : d.t.length ≤ 1000) (hx : opnD d p ⟨f, g, 0, c, 1⟩ = x) :
    Calls Try.prog 11 #[.agg #[a, b], .int .i64 p, .int .i64 f, .int .i64 g, .int .i64 c] w (RetDI pp x w) := by
  have HP := Lib.hid h0
  have h := h0.rd
  clear h0
  obtain ⟨a1, ca, rfl, -, -⟩ := h.o.slice
  obtain ⟨b1, cb, rfl, -, -⟩ := h.t.slice
  obtain ⟨m, hm⟩ : ∃ m, d.o.length = m := ⟨_, rfl⟩
  obtain ⟨N, hN⟩ : ∃ N, d.t.length = N := ⟨_, rfl⟩
  have HM := Lib.hid hm
  have HN := Lib.hid hN
  have HX := Lib.hid hx
  have HH := Lib.hid h
  rw [hm] at h ho ⊢
  rw [hN] at h ht ⊢
  have W0 := BxD.start w 29 _ _ h
  have X0 := Mine.Own.new ((w.alloc (.cells #[.slice a1 m ca, .slice b1 N cb] 29)).alloc (.cells #[.slice none 0 0, .slice none 0 0] 29)) 34 #[.int .i64 f, .int .i64 g, .int .i64 0, .int .i64 c, .int .i64 1]
  replace W0 := W0.grew ((Grew.refl _).alloc (.cells #[.int .i64 f, .int .i64 g, .int .i64 0, .int .i64 c, .int .i64 1] 34))
  have e2 : ((w.alloc (.cells #[.slice a1 m ca, .slice b1 N cb] 29)).alloc (.cells #[.slice none 0 0, .slice none 0 0] 29)).heap.size = w.heap.size + 2 := by simp
  rw [e2] at X0
  have HW := Lib.hid W0
  have HO := Lib.hid X0
  obtain ⟨x0, x1, x2, x3⟩ := W0.dbox.two
  clear hx hm hN h e2
  obtain ⟨bb, hb⟩ : ∃ bb, okD d = bb := ⟨_, rfl⟩
  have HC := Lib.hid (check_q W0.dd (by rw [HM.out]; exact ho) (by rw [HN.out]; exact ht) hb)
  have HB := Lib.hid hb
  clear W0 X0 hb
  go_enter Try.func11, Try.ntmps11
  go_wp2_with fail
  with_reducible refine HC.out.mono ?_
  rintro e9 w1 ⟨rfl, g1⟩
  clear x0 x1 x2 x3
  replace HW := Lib.hid (HW.out.grew g1)
  replace HO := Lib.hid (HO.out.grew g1)
  obtain ⟨x0, x1, x2, x3⟩ := HW.out.dbox.two
  obtain ⟨r0, r1, r2, r3⟩ := HW.out.res.two
  obtain ⟨z0, z1, z2, z3, z4⟩ := HO.out.fiveD
  clear HC g1
  cases bb
  · have HE : Hid (x = (d, 0, 1)) := Lib.hid (HX.out.symm.trans (opnD_1 HB.out))
    go_wp2
    generalize hw : World.setCell (World.setCell _ _ _) _ _ = E
    obtain ⟨RR, GG⟩ := HW.out.ret hw
    obtain ⟨k0, k1, -, -⟩ := RR.two
    refine bodyPost_ret (v := .tuple #[.agg #[.slice a1 m ca, .slice b1 N cb], .int .i64 0, .int .i64 1]) (by simp [results, Try.results11, go_sem, k0, k1]) rfl ?_
    exact ⟨_, _, by rw [HE.out], by rw [HE.out]; have hq := HP.out.keep GG; rw [HM.out, HN.out] at hq; exact hq, GG⟩
  by_cases p0 : p < 0
  · have HE : Hid (x = (d, 0, 2)) := Lib.hid (HX.out.symm.trans (opnD_2p HB.out (by omega)))
    go_wp2
    generalize hw : World.setCell (World.setCell _ _ _) _ _ = E
    obtain ⟨RR, GG⟩ := HW.out.ret hw
    obtain ⟨k0, k1, -, -⟩ := RR.two
    refine bodyPost_ret (v := .tuple #[.agg #[.slice a1 m ca, .slice b1 N cb], .int .i64 0, .int .i64 2]) (by simp [results, Try.results11, go_sem, k0, k1]) rfl ?_
    exact ⟨_, _, by rw [HE.out], by rw [HE.out]; have hq := HP.out.keep GG; rw [HM.out, HN.out] at hq; exact hq, GG⟩
  by_cases p1 : (N : Int) ≤ p
  · have HE : Hid (x = (d, 0, 2)) := Lib.hid (HX.out.symm.trans (opnD_2p HB.out (by rw [HN.out]; omega)))
    go_wp2
    generalize hw : World.setCell (World.setCell _ _ _) _ _ = E
    obtain ⟨RR, GG⟩ := HW.out.ret hw
    obtain ⟨k0, k1, -, -⟩ := RR.two
    refine bodyPost_ret (v := .tuple #[.agg #[.slice a1 m ca, .slice b1 N cb], .int .i64 0, .int .i64 2]) (by simp [results, Try.results11, go_sem, k0, k1]) rfl ?_
    exact ⟨_, _, by rw [HE.out], by rw [HE.out]; have hq := HP.out.keep GG; rw [HM.out, HN.out] at hq; exact hq, GG⟩
  obtain ⟨pn, rfl⟩ : ∃ n : Nat, p = n := ⟨p.toNat, by omega⟩
  have hpN : pn < N := by omega
  have p2 : decide ((N : Int) ≤ (pn : Int)) = false := decide_eq_false (by omega)
  have p6 : decide ((pn : Int) < 0) = false := decide_eq_false (by omega)
  have p3 : decide (N ≤ pn) = false := decide_eq_false (by omega)
  have p4 : (pn : Int) < (N : Int) := by omega
  have p5 : (0 : Int) ≤ (pn : Int) := by omega
  have hpt : pn < d.t.length := by rw [HN.out]; exact hpN
  cases hr : rtD ⟨f, g, 0, c, 1⟩
  · have HE : Hid (x = (d, 0, 2)) := Lib.hid (HX.out.symm.trans (opnD_2x HB.out hr))
    have HRR := Lib.hid hr
    clear hr
    go_wp2_with fail
    with_reducible refine (right_q (x := ⟨f, g, 0, c, 1⟩) HRR.out).mono ?_
    rintro e9 w2 ⟨rfl, g2⟩
    clear x0 x1 x2 x3 r0 r1 r2 r3 z0 z1 z2 z3 z4
    replace HW := Lib.hid (HW.out.grew g2)
    obtain ⟨x0, x1, x2, x3⟩ := HW.out.dbox.two
    obtain ⟨r0, r1, r2, r3⟩ := HW.out.res.two
    clear g2
    go_wp2
    generalize hw : World.setCell (World.setCell _ _ _) _ _ = E
    obtain ⟨RR, GG⟩ := HW.out.ret hw
    obtain ⟨k0, k1, -, -⟩ := RR.two
    refine bodyPost_ret (v := .tuple #[.agg #[.slice a1 m ca, .slice b1 N cb], .int .i64 0, .int .i64 2]) (by simp [results, Try.results11, go_sem, k0, k1]) rfl ?_
    exact ⟨_, _, by rw [HE.out], by rw [HE.out]; have hq := HP.out.keep GG; rw [HM.out, HN.out] at hq; exact hq, GG⟩
  have HRR := Lib.hid hr
  clear hr p0 p1
  go_wp2_with fail
  with_reducible refine (right_q (x := ⟨f, g, 0, c, 1⟩) HRR.out).mono ?_
  rintro e9 w2 ⟨rfl, g2⟩
  clear x0 x1 x2 x3 r0 r1 r2 r3 z0 z1 z2 z3 z4
  replace HW := Lib.hid (HW.out.grew g2)
  replace HO := Lib.hid (HO.out.grew g2)
  obtain ⟨x0, x1, x2, x3⟩ := HW.out.dbox.two
  obtain ⟨r0, r1, r2, r3⟩ := HW.out.res.two
  obtain ⟨z0, z1, z2, z3, z4⟩ := HO.out.fiveD
  clear g2
  have HOK := Lib.hid (okD_iff.1 HB.out)
  have HHf := HW.out.dd
  have h8 := HOK.out.t8
  obtain ⟨fr, hfr⟩ : ∃ fr, frD (d.t.getD pn []) = fr := ⟨_, rfl⟩
  have HFR := Lib.hid hfr
  by_cases hf : fr < 16
  rotate_left
  · have HE : Hid (x = (d, 0, 3)) := Lib.hid (HX.out.symm.trans (opnD_3 HB.out hpt HRR.out (by rw [hfr]; exact hf)))
    have HF := Lib.hid (free_q HHf hpt (HOK.out.t pn hpt) (by omega) (freI_ge (by rw [hfr]; exact hf)))
    clear hfr hf HHf h8
    go_wp2_with fail
    with_reducible refine HF.out.mono ?_
    rintro e9 w3 ⟨rfl, g3⟩
    clear x0 x1 x2 x3 r0 r1 r2 r3 z0 z1 z2 z3 z4
    replace HW := Lib.hid (HW.out.grew g3)
    obtain ⟨x0, x1, x2, x3⟩ := HW.out.dbox.two
    obtain ⟨r0, r1, r2, r3⟩ := HW.out.res.two
    clear g3 HF
    go_wp2
    generalize hw : World.setCell (World.setCell _ _ _) _ _ = E
    obtain ⟨RR, GG⟩ := HW.out.ret hw
    obtain ⟨k0, k1, -, -⟩ := RR.two
    refine bodyPost_ret (v := .tuple #[.agg #[.slice a1 m ca, .slice b1 N cb], .int .i64 0, .int .i64 3]) (by simp [results, Try.results11, go_sem, k0, k1]) rfl ?_
    exact ⟨_, _, by rw [HE.out], by rw [HE.out]; have hq := HP.out.keep GG; rw [HM.out, HN.out] at hq; exact hq, GG⟩
  have HF := Lib.hid (free_q HHf hpt (HOK.out.t pn hpt) (by omega) ((freI_lt (by rw [hfr]; exact hf)).trans (by rw [hfr])))
  have HE : Hid (x = (opD d pn ⟨f, g, 0, c, 1⟩, (fr : Int), 0)) := Lib.hid (HX.out.symm.trans (by rw [opnD_0 HB.out hpt HRR.out (by rw [hfr]; exact hf), hfr]))
  have q0 : decide ((fr : Int) < 0) = false := decide_eq_false (by omega)
  have q1 : (0 : Int) ≤ (fr : Int) := by omega
  clear hfr HHf h8 HX
  go_wp2_with fail
  with_reducible refine HF.out.mono ?_
  rintro e9 w3 ⟨rfl, g3⟩
  clear x0 x1 x2 x3 r0 r1 r2 r3 z0 z1 z2 z3 z4
  replace HW := Lib.hid (HW.out.grew g3)
  replace HO := Lib.hid (HO.out.grew g3)
  obtain ⟨x0, x1, x2, x3⟩ := HW.out.dbox.two
  have HCP := Lib.hid (copied_q HW.out.dd (by rw [HM.out]; exact ho) (by rw [HN.out]; exact ht) HOK.out.t)
  clear g3 HF
  go_wp2_with fail
  with_reducible refine HCP.out.mono ?_
  rintro e9 w4 ⟨a2, b2, G, C, rfl, K, g4⟩
  obtain ⟨a3, c3, rfl⟩ := K.o.len
  obtain ⟨b3, c4, rfl⟩ := K.t.slice
  have HO4 := Lib.hid ((HO.out.grew g4).alloc (.cells #[.slice a3 d.o.length c3, .slice b3 d.t.length c4] 29))
  have HU := Lib.hid (OuW.start HW.out.res HW.out.g HW.out.lo K g4)
  have hlo := HO.out.lt
  rw [HM.out, HN.out] at HO4 HU ⊢
  clear K g4 x0 x1 x2 x3 HO HW HCP
  go_upto_region 10 with fail
  obtain ⟨B3, hB3⟩ : ∃ B3, w3.heap.size = B3 := ⟨_, rfl⟩
  rw [hB3] at HU hlo
  clear hB3
  generalize w4.alloc _ = w5 at *
  generalize w4.heap.size = go at *
  obtain ⟨x0, x1, x2, x3⟩ := HU.out.box.two
  go_wp2_with fail
  go_loopw [16, 17] (fun av iv wr => ∃ (k A : Nat) (q : Int), av = .int .i64 A ∧ iv = .int .i64 q ∧ q = (k : Int) - 1 ∧ k ≤ m ∧ A ≤ m ∧ Hid (atF d.o k = A) ∧ Hid (w5 = wr)) (fun _ iv _ => (intOf iv + 1).toNat)
  case atStart => exact ⟨m, m, _, rfl, rfl, by go_num, Nat.le_refl _, Nat.le_refl _, Lib.hid (by rw [← HM.out]; exact atF_m d.o), Lib.hid rfl⟩
  case round =>
    obtain ⟨k, A, q, rfl, rfl, hq, hk, hA, HF, HE5⟩ := hrel
    obtain rfl := HE5.out
    by_cases hk0 : k = 0
    · subst hk0
      obtain rfl : q = -1 := by omega
      clear hq hk
      have HAT : Hid (atD d.o = A) := Lib.hid ((atF_0 d.o).symm.trans HF.out)
      have w1' : IntKind.i64.wrap ((A : Int) + 1) = (A : Int) + 1 := IntWalk.i64_in _ (by omega)
      obtain ⟨z0, z1, z2, z3, z4⟩ := HO4.out.fiveD
      have hA0 : (0 : Int) ≤ (A : Int) := by omega
      by_cases hAm : A = m
      · subst hAm
        have HPU : Hid (opD d pn ⟨f, g, 0, c, 1⟩ = ⟨setT d.t pn fr ((A : Int) + 1), d.o ++ [⟨f, g, 0, c, 1⟩]⟩) := Lib.hid (by
          unfold opD
          rw [HFR.out, HAT.out, putD_ge _ (by rw [HM.out]; omega)])
        rw [HPU.out] at HE
        have hA2 : ((A : Int) == (A : Int)) = true := by simp
        have HRW := Lib.hid (HU.out.k.o.alloc (.cells #[.int .i64 f, .int .i64 g, .int .i64 0, .int .i64 c, .int .i64 1] 34))
        have HBW := Lib.hid (HU.out.box.alloc (.cells #[.int .i64 f, .int .i64 g, .int .i64 0, .int .i64 c, .int .i64 1] 34))
        have hzB : B3 ≤ (w5.alloc (.cells #[.int .i64 f, .int .i64 g, .int .i64 0, .int .i64 c, .int .i64 1] 34)).heap.size := by have := HU.out.box.lt; have := HU.out.bo; simp; omega
        have hl6 : d.o.length < 1000000 := by rw [HM.out]; omega
        have hna : ¬(Value.slice a3 A c3).ownBlock = some go := HU.out.no.a
        go_upto_region 17 with fail
        go_upto_region 19 with (at_builtin; go_loud (
          refine wpList_append_row _ rfl _ _ 26 rfl B3 info_desc Try.underlying26 (by decide) (by decide) encDs_len (.slice a3 A c3) d.o rfl HRW.out w5.heap.size 1 ⟨f, g, 0, c, 1⟩ rfl (Mine.Own.new w5 _ _) encDs_one hl6 (by decide) hzB ?_
          intro g9 cap9 w9 R9 G9 o9
          have HU6 := Lib.hid (HU.out.app ((Grew.refl w5).alloc _) R9 G9 o9)
          clear x0 x1 x2 x3
          obtain ⟨x0, x1, x2, x3⟩ := (HBW.out.keptN G9 (fun e => hna e)).two
          clear R9 G9 o9 z0 z1 z2 z3 z4))
        generalize World.setCell w9 _ _ = w6 at *
        clear x0 x1 x2 x3
        obtain ⟨x0, x1, x2, x3⟩ := HU6.out.box.two
        obtain ⟨gv, rfl, -, hgv, d0, -⟩ := HU6.out.k.t.at_ (k := pn) hpt
        have h16 := HOK.out.t pn hpt
        obtain ⟨e0, ef, -, hgp⟩ := HU6.out.k.t.in_ (k := pn) (i := fr) hpt (show fr < (d.t.getD pn []).length by rw [h16]; exact hf)
        dsimp only at d0 e0
        rw [h16] at d0
        have hf16 : (fr : Int) < 16 := by omega
        generalize (d.t.getD pn []).getD fr 0 = y at e0
        clear h16
        go_upto_region 20 with fail
        have HU7 := Lib.hid (HU6.out.storeT (p := pn) hpt fr ((A : Int) + 1))
        generalize World.setCell w6 _ _ = w7 at *
        clear x0 x1 x2 x3 d0 e0 ef
        obtain ⟨x0, x1, x2, x3⟩ := HU7.out.box.two
        obtain ⟨r0, r1, r2, r3⟩ := HU7.out.res.two
        go_wp2
        generalize hw : World.setCell (World.setCell _ _ _) _ _ = E
        obtain ⟨RR, GG, DD⟩ := HU7.out.ret hw
        obtain ⟨k0, k1, -, -⟩ := RR.two
        refine bodyPost_ret (v := .tuple #[.agg #[.slice (some ⟨g9, 0, none⟩) (d.o.length + 1) cap9, .slice (some ⟨gv, 0, none⟩) N c4], .int .i64 fr, .int .i64 0]) (by simp [results, Try.results11, go_sem, k0, k1]) rfl ?_
        exact ⟨_, _, by rw [HE.out], by rw [HE.out]; exact DD.own, GG⟩
      · have hAl : A < m := by omega
        have hA1 : (A : Int) < (m : Int) := by omega
        have hA2 : ((A : Int) == (m : Int)) = false := by simp; omega
        have hAo : A < d.o.length := by rw [HM.out]; exact hAl
        have HPU : Hid (opD d pn ⟨f, g, 0, c, 1⟩ = ⟨setT d.t pn fr ((A : Int) + 1), d.o.set A ⟨f, g, 0, c, 1⟩⟩) := Lib.hid (by
          unfold opD
          rw [HFR.out, HAT.out, putD_lt _ hAo])
        rw [HPU.out] at HE
        obtain ⟨ga, rfl, -, hga, c0, c1, c2, c3', c4', cf⟩ := HU.out.k.atO hAo
        have cf0 := cf (A * 5)
        have cf1 := cf (A * 5 + 1)
        have cf2 := cf (A * 5 + 2)
        have cf3 := cf (A * 5 + 3)
        have cf4 := cf (A * 5 + 4)
        clear hAm cf
        go_upto_region 19 with fail
        generalize hw : World.setCell (World.setCell (World.setCell (World.setCell (World.setCell w5 _ _) _ _) _ _) _ _) _ _ = w6
        have HU6 := Lib.hid (HU.out.storeX hAo ⟨f, g, 0, c, 1⟩ hw)
        clear hw c0 c1 c2 c3' c4' cf0 cf1 cf2 cf3 cf4 x0 x1 x2 x3 z0 z1 z2 z3 z4
        obtain ⟨x0, x1, x2, x3⟩ := HU6.out.box.two
        obtain ⟨gv, rfl, -, hgv, d0, -⟩ := HU6.out.k.t.at_ (k := pn) hpt
        have h16 := HOK.out.t pn hpt
        obtain ⟨e0, ef, -, hgp⟩ := HU6.out.k.t.in_ (k := pn) (i := fr) hpt (show fr < (d.t.getD pn []).length by rw [h16]; exact hf)
        dsimp only at d0 e0
        rw [h16] at d0
        have hf16 : (fr : Int) < 16 := by omega
        generalize (d.t.getD pn []).getD fr 0 = y at e0
        clear h16
        go_upto_region 20 with fail
        have HU7 := Lib.hid (HU6.out.storeT (p := pn) hpt fr ((A : Int) + 1))
        generalize World.setCell w6 _ _ = w7 at *
        clear x0 x1 x2 x3 d0 e0 ef
        obtain ⟨x0, x1, x2, x3⟩ := HU7.out.box.two
        obtain ⟨r0, r1, r2, r3⟩ := HU7.out.res.two
        go_wp2
        generalize hw : World.setCell (World.setCell _ _ _) _ _ = E
        obtain ⟨RR, GG, DD⟩ := HU7.out.ret hw
        obtain ⟨k0, k1, -, -⟩ := RR.two
        refine bodyPost_ret (v := .tuple #[.agg #[.slice (some ⟨ga, 0, none⟩) m c3, .slice (some ⟨gv, 0, none⟩) N c4], .int .i64 fr, .int .i64 0]) (by simp [results, Try.results11, go_sem, k0, k1]) rfl ?_
        exact ⟨_, _, by rw [HE.out], by rw [HE.out]; exact DD.own, GG⟩
    · obtain ⟨j, rfl⟩ : ∃ j, k = j + 1 := ⟨k - 1, by omega⟩
      obtain rfl : q = (j : Int) := by omega
      have hj0 : (0 : Int) ≤ (j : Int) := by omega
      have hjm : (j : Int) < (m : Int) := by omega
      have HS := Lib.hid (atF_s (o := d.o) (k := j) (by rw [HM.out]; omega))
      obtain ⟨ga, rfl, -, hga, -, -, -, -, c4', -⟩ := HU.out.k.atO (k := j) (by rw [HM.out]; omega)
      obtain ⟨r, hr⟩ : ∃ r, (d.o.getD j zDs).r = r := ⟨_, rfl⟩
      rw [hr] at c4' HS
      clear hq hr
      by_cases hz : r = 0
      · subst hz
        have HF2 : Hid (atF d.o j = j) := Lib.hid (HS.out.trans (if_pos rfl))
        clear HS
        go_wp2_with fail
        go_roundw
        case rel => exact ⟨j, j, _, rfl, rfl, by go_num, by omega, by omega, HF2, Lib.hid (by first | rfl | trivial)⟩
        case measure => simp [intOf] <;> omega
      · have HF2 : Hid (atF d.o j = A) := Lib.hid ((HS.out.trans (if_neg hz)).trans HF.out)
        have hz1 : (r == 0) = false := by simpa using hz
        clear HS hz
        go_wp2_with fail
        go_roundw
        case rel => exact ⟨j, A, _, rfl, rfl, by go_num, by omega, by omega, HF2, Lib.hid (by first | rfl | trivial)⟩
        case measure => simp [intOf] <;> omega
end Go.Proofs.Ytokijggckiidjaa
