/- Dup, Close of the program (layer 18). mkdp9.py writes this text. -/
import Derived.Test.YtokijggckiidjaaDp8
namespace Go.Proofs.Ytokijggckiidjaa
open Go.ChangeShapes Go.WideShapes Go.ChangeAt Go.RowKit Go.Mine
set_option maxRecDepth 100000 in
set_option maxHeartbeats 16000000 in
theorem dup_p {pp : Nat → Prop} {a b : Value} {d : Dd} {p q : Int} {x : Dd × Int × Int} {w : World} (h0 : DdP w pp a b d) (ho : d.o.length ≤ 1000) (ht : d.t.length ≤ 1000) (hr : Hid (∀ p, p < d.t.length → (d.t.getD p []).length ≤ 1000)) (hx : dupD d p q = x) :
    Calls Try.prog 12 #[.agg #[a, b], .int .i64 p, .int .i64 q] w (RetDI pp x w) := by
  have h := h0.rd
  clear h0
  obtain ⟨a1, ca, rfl, -, -⟩ := h.o.slice
  obtain ⟨b1, cb, rfl, -, -⟩ := h.t.slice
  obtain ⟨m, hm⟩ : ∃ m, d.o.length = m := ⟨_, rfl⟩
  obtain ⟨N, hN⟩ : ∃ N, d.t.length = N := ⟨_, rfl⟩
  have HM := Lib.hid hm
  have HN := Lib.hid hN
  have HX := Lib.hid hx
  have hol := ho
  have htl := ht
  rw [hm] at h ho ⊢
  rw [hN] at h ht ⊢
  have HH := Lib.hid h
  have D0 := (Mine.Own.new w 29 #[.slice a1 m ca, .slice b1 N cb]).alloc (.cells #[.slice none 0 0, .slice none 0 0] 29)
  have R0 := Mine.Own.new2 w (.cells #[.slice a1 m ca, .slice b1 N cb] 29) 29 #[.slice none 0 0, .slice none 0 0]
  have G0 := ((Grew.refl w).alloc (.cells #[.slice a1 m ca, .slice b1 N cb] 29)).alloc (.cells #[.slice none 0 0, .slice none 0 0] 29)
  have HOL := Lib.hid hol
  have HTL := Lib.hid htl
  have HCP := Lib.hid (copied_p (HH.out.grew G0) hol htl hr)
  obtain ⟨x0, x1, x2, x3⟩ := D0.two
  have HD0 := Lib.hid D0
  have HR0 := Lib.hid R0
  have HG0 := Lib.hid G0
  clear h hm hN hx D0 R0 G0 hol htl
  go_enter Try.func12, Try.ntmps12
  go_wp2_with fail
  with_reducible refine HCP.out.mono ?_
  rintro e9 w4 ⟨a2, b2, G, C, rfl, K, g4⟩
  obtain ⟨a3, c3, rfl⟩ := K.o.len
  obtain ⟨b3, c4, rfl⟩ := K.t.slice
  have HP := Lib.hid (PrW.start HD0.out HR0.out HG0.out HR0.out.lt K g4)
  rw [HM.out, HN.out] at HP ⊢
  clear K g4 x0 x1 x2 x3 HD0 HR0 HG0 HCP
  go_upto_region 2 with fail
  generalize (World.alloc (World.alloc w _) _).heap.size = B3 at *
  generalize w4.alloc _ = w5 at *
  generalize w4.heap.size = go at *
  obtain ⟨X, hX⟩ : ∃ X, lkD d p q = X := ⟨_, rfl⟩
  have HLK := Lib.hid hX
  have HFN := Lib.hid (find_p (HH.out.grew HP.out.ou.g) HOL.out HTL.out hX)
  obtain ⟨x0, x1, x2, x3⟩ := HP.out.dbox.two
  clear hX
  go_wp2_with fail
  with_reducible refine HFN.out.mono ?_
  rintro e9 v1 ⟨rfl, g1⟩
  clear x0 x1 x2 x3
  replace HP := Lib.hid (HP.out.grew g1)
  clear g1 HFN
  obtain ⟨x0, x1, x2, x3⟩ := HP.out.dbox.two
  by_cases he : X.2.2 = 0
  rotate_left
  · have HE : Hid (x = (d, 0, X.2.2)) := Lib.hid (HX.out.symm.trans ((dupD_e (by rw [HLK.out]; exact he)).trans (by rw [HLK.out])))
    obtain ⟨er, her⟩ : ∃ er, X.2.2 = er := ⟨_, rfl⟩
    rw [her] at he HE ⊢
    have he1 : (er == 0) = false := by simpa using he
    have he2 : (er != 0) = true := by simpa using he
    clear he her
    obtain ⟨o0, o1, o2, o3⟩ := HP.out.ou.box.two
    obtain ⟨r0, r1, r2, r3⟩ := HP.out.ou.res.two
    go_wp2
    generalize hw : World.setCell (World.setCell _ _ _) _ _ = E
    obtain ⟨RR, GG, DD⟩ := HP.out.ou.ret hw
    obtain ⟨k0, k1, -, -⟩ := RR.two
    refine bodyPost_ret (v := .tuple #[.agg #[.slice a3 m c3, .slice b3 N c4], .int .i64 0, .int .i64 er]) (by simp [results, Try.results12, go_sem, k0, k1]) rfl ?_
    exact ⟨_, _, by rw [HE.out], by rw [HE.out]; exact DD.own, GG⟩
  have HLE : Hid ((lkD d p q).2.2 = 0) := Lib.hid (by rw [HLK.out]; exact he)
  obtain ⟨hok, pn, qn, k, rfl, rfl, hp, hq, hk, hko, e⟩ := lkD_get HLE.out
  have HOK := Lib.hid (okD_iff.1 hok)
  have e1 : X.1 = (k : Int) := by rw [← HLK.out, e]
  have HL1 : Hid ((lkD d pn qn).1 = (k : Int)) := Lib.hid (by rw [e])
  rw [he, e1]
  have hpN : pn < N := by rw [← HN.out]; exact hp
  have hkm : k < m := by rw [← HM.out]; exact hko
  have hm8 : m ≤ 128 := by have := HOK.out.o; rw [HM.out] at this; exact this
  have p4 : (pn : Int) < (N : Int) := by omega
  have p5 : (0 : Int) ≤ (pn : Int) := by omega
  have k4 : (k : Int) < (m : Int) := by omega
  have k5 : (0 : Int) ≤ (k : Int) := by omega
  have H16 := Lib.hid (HOK.out.t pn hp)
  have HKO := Lib.hid hko
  have hrb : 0 ≤ (d.o.getD k zDs).r ∧ (d.o.getD k zDs).r ≤ 128 := by
    have h1 := (HOK.out.r k hko).1
    have h2 := cntD_le d.t.flatten k
    have h3 := flat_len HOK.out.t
    have h4 := HOK.out.t8
    omega
  obtain ⟨hrb0, hrb1⟩ := hrb
  clear e e1 he HLK hok
  obtain ⟨fr, hfr⟩ : ∃ fr, frD (d.t.getD pn []) = fr := ⟨_, rfl⟩
  have HFR := Lib.hid hfr
  obtain ⟨gt, ot, ta, tc, rfl, -, hgt, hct, RT⟩ := (HH.out.grew HP.out.ou.g).t.at_ (k := pn) hp
  rw [H16.out] at hct RT
  have HRT := Lib.hid RT
  clear RT
  by_cases hf : fr < 16
  rotate_left
  · have HE : Hid (x = (d, 0, 3)) := Lib.hid (HX.out.symm.trans (dupD_3 HLE.out (by rw [hfr]; exact hf)))
    have HFI : Hid (freI (d.t.getD pn []) = -1) := Lib.hid (freI_ge (by rw [hfr]; exact hf))
    clear hfr hf
    go_wp2_with fail
    with_reducible refine (free_p HRT.out H16.out HFI.out).mono ?_
    rintro e9 v2 ⟨rfl, g2⟩
    clear x0 x1 x2 x3 hct
    replace HP := Lib.hid (HP.out.grew g2)
    clear g2
    obtain ⟨o0, o1, o2, o3⟩ := HP.out.ou.box.two
    obtain ⟨r0, r1, r2, r3⟩ := HP.out.ou.res.two
    go_wp2
    generalize hw : World.setCell (World.setCell _ _ _) _ _ = E
    obtain ⟨RR, GG, DD⟩ := HP.out.ou.ret hw
    obtain ⟨k0, k1, -, -⟩ := RR.two
    refine bodyPost_ret (v := .tuple #[.agg #[.slice a3 m c3, .slice b3 N c4], .int .i64 0, .int .i64 3]) (by simp [results, Try.results12, go_sem, k0, k1]) rfl ?_
    exact ⟨_, _, by rw [HE.out], by rw [HE.out]; exact DD.own, GG⟩
  have HFI : Hid (freI (d.t.getD pn []) = (fr : Int)) := Lib.hid ((freI_lt (by rw [hfr]; exact hf)).trans (by rw [hfr]))
  have HE : Hid (x = (duD d pn k, (fr : Int), 0)) := Lib.hid (HX.out.symm.trans (by rw [dupD_0 HLE.out HL1.out (by rw [hfr]; exact hf), hfr]))
  have HPU : Hid (duD d pn k = ⟨setT d.t pn fr ((k : Int) + 1), d.o.set k { d.o.getD k zDs with r := (d.o.getD k zDs).r + 1 }⟩) := Lib.hid (by
    unfold duD
    rw [HFR.out])
  rw [HPU.out] at HE
  have q0 : decide ((fr : Int) < 0) = false := decide_eq_false (by omega)
  have q1 : (0 : Int) ≤ (fr : Int) := by omega
  have hf16 : (fr : Int) < 16 := by omega
  clear hfr
  go_wp2_with fail
  with_reducible refine (free_p HRT.out H16.out HFI.out).mono ?_
  rintro e9 v2 ⟨rfl, g2⟩
  clear x0 x1 x2 x3 hct hgt HRT
  have HU := Lib.hid (HP.out.grew g2).ou
  clear g2 HP HX
  obtain ⟨o0, o1, o2, o3⟩ := HU.out.box.two
  obtain ⟨ga, rfl, -, hga, -, -, -, -, c4', cf⟩ := HU.out.k.atO (k := k) hko
  have cf4 := cf (k * 5 + 4)
  obtain ⟨r, hr'⟩ : ∃ r, (d.o.getD k zDs).r = r := ⟨_, rfl⟩
  rw [hr'] at c4' hrb0 hrb1
  have w3' : IntKind.i64.wrap (r + 1) = r + 1 := IntWalk.i64_in _ (by omega)
  have w4' : IntKind.i64.wrap ((k : Int) + 1) = (k : Int) + 1 := IntWalk.i64_in _ (by omega)
  have HRV := Lib.hid hr'
  clear cf hr'
  go_upto_region 9 with fail
  replace HU := Lib.hid (HU.out.storeO (k := k) (j := 4) HKO.out (by omega) (x := .int .i64 (r + 1)) (y := { d.o.getD k zDs with r := (d.o.getD k zDs).r + 1 }) (by rw [← HRV.out]; rfl))
  generalize World.setCell v2 _ _ = w6 at *
  clear o0 o1 o2 o3 c4' cf4
  obtain ⟨o0, o1, o2, o3⟩ := HU.out.box.two
  obtain ⟨gv, rfl, -, hgv, d0, -⟩ := HU.out.k.t.at_ (k := pn) hp
  obtain ⟨e0, ef, -, hgp⟩ := HU.out.k.t.in_ (k := pn) (i := fr) hp (show fr < (d.t.getD pn []).length by rw [H16.out]; exact hf)
  try dsimp only at d0 e0
  rw [H16.out] at d0
  generalize (d.t.getD pn []).getD fr 0 = y at e0
  go_upto_region 10 with fail
  replace HU := Lib.hid (HU.out.storeT (p := pn) hp fr ((k : Int) + 1))
  generalize World.setCell w6 _ _ = w7 at *
  clear o0 o1 o2 o3 d0 e0 ef
  obtain ⟨o0, o1, o2, o3⟩ := HU.out.box.two
  obtain ⟨r0, r1, r2, r3⟩ := HU.out.res.two
  go_wp2
  generalize hw : World.setCell (World.setCell _ _ _) _ _ = E
  obtain ⟨RR, GG, DD⟩ := HU.out.ret hw
  obtain ⟨k0, k1, -, -⟩ := RR.two
  refine bodyPost_ret (v := .tuple #[.agg #[.slice (some ⟨ga, 0, none⟩) m c3, .slice (some ⟨gv, 0, none⟩) N c4], .int .i64 fr, .int .i64 0]) (by simp [results, Try.results12, go_sem, k0, k1]) rfl ?_
  exact ⟨_, _, by rw [HE.out], by rw [HE.out]; exact DD.own, GG⟩
set_option maxRecDepth 100000 in
set_option maxHeartbeats 16000000 in
theorem close_p {pp : Nat → Prop} {a b : Value} {d : Dd} {p q : Int} {x : Dd × Bool × Int} {w : World} (h0 : DdP w pp a b d) (ho : d.o.length ≤ 1000) (ht : d.t.length ≤ 1000) (hr : Hid (∀ p, p < d.t.length → (d.t.getD p []).length ≤ 1000)) (hx : clsD d p q = x) :
    Calls Try.prog 17 #[.agg #[a, b], .int .i64 p, .int .i64 q] w (RetDB pp x w) := by
  have h := h0.rd
  clear h0
  obtain ⟨a1, ca, rfl, -, -⟩ := h.o.slice
  obtain ⟨b1, cb, rfl, -, -⟩ := h.t.slice
  obtain ⟨m, hm⟩ : ∃ m, d.o.length = m := ⟨_, rfl⟩
  obtain ⟨N, hN⟩ : ∃ N, d.t.length = N := ⟨_, rfl⟩
  have HM := Lib.hid hm
  have HN := Lib.hid hN
  have HX := Lib.hid hx
  have hol := ho
  have htl := ht
  rw [hm] at h ho ⊢
  rw [hN] at h ht ⊢
  have HH := Lib.hid h
  have D0 := (Mine.Own.new w 29 #[.slice a1 m ca, .slice b1 N cb]).alloc (.cells #[.slice none 0 0, .slice none 0 0] 29)
  have R0 := Mine.Own.new2 w (.cells #[.slice a1 m ca, .slice b1 N cb] 29) 29 #[.slice none 0 0, .slice none 0 0]
  have G0 := ((Grew.refl w).alloc (.cells #[.slice a1 m ca, .slice b1 N cb] 29)).alloc (.cells #[.slice none 0 0, .slice none 0 0] 29)
  have HOL := Lib.hid hol
  have HTL := Lib.hid htl
  have HCP := Lib.hid (copied_p (HH.out.grew G0) hol htl hr)
  obtain ⟨x0, x1, x2, x3⟩ := D0.two
  have HD0 := Lib.hid D0
  have HR0 := Lib.hid R0
  have HG0 := Lib.hid G0
  clear h hm hN hx D0 R0 G0 hol htl
  go_enter Try.func17, Try.ntmps17
  go_wp2_with fail
  with_reducible refine HCP.out.mono ?_
  rintro e9 w4 ⟨a2, b2, G, C, rfl, K, g4⟩
  obtain ⟨a3, c3, rfl⟩ := K.o.len
  obtain ⟨b3, c4, rfl⟩ := K.t.slice
  have HP := Lib.hid (PrW.start HD0.out HR0.out HG0.out HR0.out.lt K g4)
  rw [HM.out, HN.out] at HP ⊢
  clear K g4 x0 x1 x2 x3 HD0 HR0 HG0 HCP
  go_upto_region 2 with fail
  generalize (World.alloc (World.alloc w _) _).heap.size = B3 at *
  generalize w4.alloc _ = w5 at *
  generalize w4.heap.size = go at *
  obtain ⟨X, hX⟩ : ∃ X, lkD d p q = X := ⟨_, rfl⟩
  have HLK := Lib.hid hX
  have HFN := Lib.hid (find_p (HH.out.grew HP.out.ou.g) HOL.out HTL.out hX)
  obtain ⟨x0, x1, x2, x3⟩ := HP.out.dbox.two
  clear hX
  go_wp2_with fail
  with_reducible refine HFN.out.mono ?_
  rintro e9 v1 ⟨rfl, g1⟩
  clear x0 x1 x2 x3
  replace HP := Lib.hid (HP.out.grew g1)
  clear g1 HFN
  obtain ⟨x0, x1, x2, x3⟩ := HP.out.dbox.two
  by_cases he : X.2.2 = 0
  rotate_left
  · have HE : Hid (x = (d, false, X.2.2)) := Lib.hid (HX.out.symm.trans ((clsD_e (by rw [HLK.out]; exact he)).trans (by rw [HLK.out])))
    obtain ⟨er, her⟩ : ∃ er, X.2.2 = er := ⟨_, rfl⟩
    rw [her] at he HE ⊢
    have he1 : (er == 0) = false := by simpa using he
    have he2 : (er != 0) = true := by simpa using he
    clear he her
    obtain ⟨o0, o1, o2, o3⟩ := HP.out.ou.box.two
    obtain ⟨r0, r1, r2, r3⟩ := HP.out.ou.res.two
    go_wp2
    generalize hw : World.setCell (World.setCell _ _ _) _ _ = E
    obtain ⟨RR, GG, DD⟩ := HP.out.ou.ret hw
    obtain ⟨k0, k1, -, -⟩ := RR.two
    refine bodyPost_ret (v := .tuple #[.agg #[.slice a3 m c3, .slice b3 N c4], .bool false, .int .i64 er]) (by simp [results, Try.results17, go_sem, k0, k1]) rfl ?_
    exact ⟨_, _, by rw [HE.out], by rw [HE.out]; exact DD.own, GG⟩
  have HLE : Hid ((lkD d p q).2.2 = 0) := Lib.hid (by rw [HLK.out]; exact he)
  obtain ⟨hok, pn, qn, k, rfl, rfl, hp, hq, hk, hko, e⟩ := lkD_get HLE.out
  have HOK := Lib.hid (okD_iff.1 hok)
  have e1 : X.1 = (k : Int) := by rw [← HLK.out, e]
  have HL1 : Hid ((lkD d pn qn).1 = (k : Int)) := Lib.hid (by rw [e])
  rw [he, e1]
  have hpN : pn < N := by rw [← HN.out]; exact hp
  have hkm : k < m := by rw [← HM.out]; exact hko
  have hm8 : m ≤ 128 := by have := HOK.out.o; rw [HM.out] at this; exact this
  have p4 : (pn : Int) < (N : Int) := by omega
  have p5 : (0 : Int) ≤ (pn : Int) := by omega
  have k4 : (k : Int) < (m : Int) := by omega
  have k5 : (0 : Int) ≤ (k : Int) := by omega
  have H16 := Lib.hid (HOK.out.t pn hp)
  have HKO := Lib.hid hko
  have hrb : 0 ≤ (d.o.getD k zDs).r ∧ (d.o.getD k zDs).r ≤ 128 := by
    have h1 := (HOK.out.r k hko).1
    have h2 := cntD_le d.t.flatten k
    have h3 := flat_len HOK.out.t
    have h4 := HOK.out.t8
    omega
  obtain ⟨hrb0, hrb1⟩ := hrb
  clear e e1 he HLK hok
  have HE0 : Hid (x = ((clD d pn qn k).1, (clD d pn qn k).2, 0)) := Lib.hid (HX.out.symm.trans (clsD_0 HLE.out HL1.out))
  have q4 : (qn : Int) < 16 := by omega
  have q5 : (0 : Int) ≤ (qn : Int) := by omega
  have hkr : 0 < (d.o.getD k zDs).r := by
    have h1 := (HOK.out.r k hko).1
    have h2 := cntD_mem (k := k) hp (by rw [H16.out]; exact hq) hk
    omega
  have HU := Lib.hid HP.out.ou
  clear HP HX x0 x1 x2 x3 hk
  obtain ⟨o0, o1, o2, o3⟩ := HU.out.box.two
  obtain ⟨gv, rfl, -, hgv, d0, -⟩ := HU.out.k.t.at_ (k := pn) hp
  obtain ⟨e0, ef, -, hgp⟩ := HU.out.k.t.in_ (k := pn) (i := qn) hp (by rw [H16.out]; exact hq)
  rw [H16.out] at d0
  generalize (d.t.getD pn []).getD qn 0 = y at e0
  go_upto_region 6 with fail
  replace HU := Lib.hid (HU.out.storeT (p := pn) hp qn 0)
  generalize World.setCell v1 _ _ = w6 at *
  clear o0 o1 o2 o3 d0 e0 ef hgv hgp
  obtain ⟨o0, o1, o2, o3⟩ := HU.out.box.two
  obtain ⟨ga, rfl, -, hga, -, -, -, -, c4', cf⟩ := HU.out.k.atO (k := k) hko
  try dsimp only at c4'
  have cf4 := cf (k * 5 + 4)
  obtain ⟨r, hr'⟩ : ∃ r, (d.o.getD k zDs).r = r := ⟨_, rfl⟩
  rw [hr'] at c4' hrb0 hrb1 hkr
  have w3' : IntKind.i64.wrap (r - 1) = r - 1 := IntWalk.i64_in _ (by omega)
  have HRV := Lib.hid hr'
  clear cf hr'
  go_upto_region 7 with fail
  replace HU := Lib.hid (HU.out.storeO (k := k) (j := 4) hko (by omega) (x := .int .i64 (r - 1)) (y := { d.o.getD k zDs with r := (d.o.getD k zDs).r - 1 }) (by rw [← HRV.out]; rfl))
  generalize World.setCell w6 _ _ = w7 at *
  clear o0 o1 o2 o3 c4' cf4 hga
  obtain ⟨o0, o1, o2, o3⟩ := HU.out.box.two
  have HKS : Hid (k < (d.o.set k { d.o.getD k zDs with r := (d.o.getD k zDs).r - 1 }).length) := Lib.hid (by rw [List.length_set]; exact hko)
  obtain ⟨ga2, e9, -, hga, c0, c1, c2, c3', c4', cf⟩ := HU.out.k.atO (k := k) HKS.out
  injection e9 with e9
  injection e9 with e9
  subst e9
  dsimp only at c0 c1 c2 c3' c4'
  rw [setO_eq hko] at c0 c1 c2 c3' c4'
  dsimp only at c0 c1 c2 c3' c4'
  rw [HRV.out] at c4'
  generalize d.o.getD k zDs = y0 at c0 c1 c2 c3'
  obtain ⟨s, hs⟩ : ∃ s, r - 1 = s := ⟨_, rfl⟩
  rw [hs] at c4'
  have HS : Hid ((d.o.getD k zDs).r - 1 = s) := Lib.hid (by rw [HRV.out]; exact hs)
  clear hs w3' hrb0 hrb1 hkr
  by_cases h1 : 0 < s
  · have h1' : decide (0 < s) = true := decide_eq_true h1
    have HE : Hid (x = (⟨setT d.t pn qn 0, d.o.set k { d.o.getD k zDs with r := (d.o.getD k zDs).r - 1 }⟩, false, 0)) := Lib.hid (HE0.out.trans (by rw [clD_t (by rw [HS.out]; exact h1)]))
    obtain ⟨r0, r1, r2, r3⟩ := HU.out.res.two
    clear h1 cf
    go_wp2
    generalize hw : World.setCell (World.setCell _ _ _) _ _ = E
    obtain ⟨RR, GG, DD⟩ := HU.out.ret hw
    obtain ⟨k0, k1, -, -⟩ := RR.two
    refine bodyPost_ret (v := .tuple #[.agg #[.slice (some ⟨ga, 0, none⟩) m c3, .slice (some ⟨gv, 0, none⟩) N c4], .bool false, .int .i64 0]) (by simp [results, Try.results17, go_sem, k0, k1]) rfl ?_
    exact ⟨_, _, by rw [HE.out], by rw [HE.out]; exact DD.own, GG⟩
  have h1' : decide (0 < s) = false := decide_eq_false h1
  have HE : Hid (x = (⟨setT d.t pn qn 0, trD (d.o.set k zDs)⟩, true, 0)) := Lib.hid (HE0.out.trans (by rw [clD_f (by rw [HS.out]; exact h1)]))
  have cf0 := cf (k * 5)
  have cf1 := cf (k * 5 + 1)
  have cf2 := cf (k * 5 + 2)
  have cf3 := cf (k * 5 + 3)
  have cf4 := cf (k * 5 + 4)
  clear h1 cf
  go_upto_region 10 with fail
  generalize hw : World.setCell (World.setCell (World.setCell (World.setCell (World.setCell w7 _ _) _ _) _ _) _ _) _ _ = w8
  replace HU := HU.out.storeX HKS.out zDs hw
  dsimp only at HU
  rw [List.set_set] at HU
  replace HU := Lib.hid HU
  clear hw c0 c1 c2 c3' c4' cf0 cf1 cf2 cf3 cf4 o0 o1 o2 o3
  obtain ⟨o0, o1, o2, o3⟩ := HU.out.box.two
  have HLN : Hid ((d.o.set k zDs).length = m) := Lib.hid (by rw [List.length_set]; exact HM.out)
  have HTR := Lib.hid (trimmed_p HU.out.k.dd.o (by rw [HLN.out]; exact ho) (fun j hj h0 => by
    by_cases ej : j = k
    · rw [ej]; exact setO_eq hko
    · rw [setO_ne ej] at h0 ⊢
      exact okD_z HOK.out j (by have := HLN.out; rw [List.length_set] at this; rw [List.length_set] at hj; exact hj) h0))
  obtain ⟨tl, htl⟩ : ∃ tl, lsD (d.o.set k zDs) (d.o.set k zDs).length = tl := ⟨_, rfl⟩
  have HTLL := Lib.hid htl
  have htm : tl ≤ m := by rw [← htl, ← HLN.out]; exact lsD_le _ _
  rw [htl] at HTR
  clear htl
  go_wp2_with fail
  with_reducible refine HTR.out.mono ?_
  rintro e9 v3 ⟨rfl, g3⟩
  clear o0 o1 o2 o3 HTR
  replace HU := Lib.hid (HU.out.grew g3)
  clear g3
  obtain ⟨o0, o1, o2, o3⟩ := HU.out.box.two
  go_upto_region 11 with fail
  replace HU := Lib.hid (HU.out.cut (k := tl) (by dsimp only; rw [HLN.out]; exact htm))
  generalize World.setCell v3 _ _ = w9 at *
  clear o0 o1 o2 o3
  obtain ⟨o0, o1, o2, o3⟩ := HU.out.box.two
  obtain ⟨r0, r1, r2, r3⟩ := HU.out.res.two
  go_wp2
  generalize hw : World.setCell (World.setCell _ _ _) _ _ = E
  obtain ⟨RR, GG, DD⟩ := HU.out.ret hw
  obtain ⟨k0, k1, -, -⟩ := RR.two
  refine bodyPost_ret (v := .tuple #[.agg #[.slice (some ⟨ga, 0, none⟩) tl c3, .slice (some ⟨gv, 0, none⟩) N c4], .bool true, .int .i64 0]) (by simp [results, Try.results17, go_sem, k0, k1]) rfl ?_
  have HTD : trD (d.o.set k zDs) = (d.o.set k zDs).take tl := by unfold trD; rw [HTLL.out]
  exact ⟨_, _, by rw [HE.out], by rw [HE.out, HTD]; exact DD.own, GG⟩
end Go.Proofs.Ytokijggckiidjaa
