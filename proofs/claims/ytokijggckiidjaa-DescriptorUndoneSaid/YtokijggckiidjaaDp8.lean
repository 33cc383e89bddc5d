/- Open, Dup of the program (layer 18). mkdp8.py writes this text. -/
import Derived.Test.YtokijggckiidjaaDp6
import Derived.Test.YtokijggckiidjaaDp4
import Derived.Test.YtokijggckiidjaaDp7
namespace Go.Mine
open Go Go.RowKit
/-- The argument's box; a copy under change; the result's box. -/
structure PrW (w : World) (T To Ts Ti : TypeId) (B go : Nat) (a b a' b' : Value) (G C : Nat → Nat) (d' : Dd) (wr : World) : Prop where
  dbox : Own wr w.heap.size T #[a, b]
  ou : OuW w T To Ts Ti B go a' b' (.slice none 0 0) (.slice none 0 0) G C d' wr
theorem PrW.grew {w wr w' : World} {T To Ts Ti : TypeId} {B go : Nat} {a b a' b' : Value} {G C : Nat → Nat} {d' : Dd} (h : PrW w T To Ts Ti B go a b a' b' G C d' wr) (g : Grew wr w') : PrW w T To Ts Ti B go a b a' b' G C d' w' := ⟨h.dbox.grew g, h.ou.grew g⟩
theorem PrW.start {w w0 w4 : World} {T To Ts Ti : TypeId} {a b a' b' : Value} {G C : Nat → Nat} {d : Dd} (hd : Own w0 w.heap.size T #[a, b]) (hr : Own w0 (w.heap.size + 1) T #[.slice none 0 0, .slice none 0 0]) (g : Grew w w0) (lo : w.heap.size + 2 ≤ w0.heap.size) (k : DdK To Ts Ti w4 w0.heap.size a' b' G C d) (g4 : Grew w0 w4) :
    PrW w T To Ts Ti w0.heap.size w4.heap.size a b a' b' G C d (w4.alloc (.cells #[a', b'] T)) := ⟨(hd.grew g4).alloc _, OuW.start hr g lo k g4⟩
/-- .. and the box of a description. -/
structure PrX (w : World) (T To Ts Ti : TypeId) (B go gx : Nat) (a b a' b' : Value) (G C : Nat → Nat) (d' : Dd) (y : Ds) (wr : World) : Prop where
  p : PrW w T To Ts Ti B go a b a' b' G C d' wr
  x : Own wr gx To #[.int .i64 y.f, .int .i64 y.g, .int .i64 y.o, .int .i64 y.c, .int .i64 y.r]
  nx : NoD a' b' G d'.t.length gx
  xg : gx ≠ go
section
variable {w wr w' : World} {T To Ts Ti : TypeId} {B go gx : Nat} {a b a' b' : Value} {G C : Nat → Nat} {d' : Dd} {y : Ds}
theorem PrX.grew (h : PrX w T To Ts Ti B go gx a b a' b' G C d' y wr) (g : Grew wr w') : PrX w T To Ts Ti B go gx a b a' b' G C d' y w' := ⟨h.p.grew g, h.x.grew g, h.nx, h.xg⟩
theorem PrX.start (h : PrW w T To Ts Ti B go a b a' b' G C d' wr) (y : Ds) : PrX w T To Ts Ti B go wr.heap.size a b a' b' G C d' y (wr.alloc (.cells #[.int .i64 y.f, .int .i64 y.g, .int .i64 y.o, .int .i64 y.c, .int .i64 y.r] To)) :=
  ⟨h.grew ((Grew.refl wr).alloc _), Own.new wr To _, h.ou.k.no_hi (Nat.le_refl _), fun e => by have := h.ou.box.lt; omega⟩
theorem PrX.app (h : PrX w T To Ts Ti B go gx a b a' b' G C d' y wr) {W wx : World} (gW : Grew wr W) {z : Ds} {g' n' c' : Nat} (hr : RowE To 5 encDs wx B (.slice (some ⟨g', 0, none⟩) n' c') (d'.o ++ [z])) (g : W.grownBy wx a'.ownBlock) (ho : a'.ownBlock = some g' ∨ g' = W.heap.size) :
    OuW w T To Ts Ti B go (.slice (some ⟨g', 0, none⟩) n' c') b' (.slice none 0 0) (.slice none 0 0) G C ⟨d'.t, d'.o ++ [z]⟩ (wx.setCell ⟨go, 0, none⟩ (.slice (some ⟨g', 0, none⟩) n' c')) ∧
    Own (wx.setCell ⟨go, 0, none⟩ (.slice (some ⟨g', 0, none⟩) n' c')) gx To #[.int .i64 y.f, .int .i64 y.g, .int .i64 y.o, .int .i64 y.c, .int .i64 y.r] :=
  ⟨h.p.ou.app gW hr g ho, ((h.x.grew gW).keptN g (fun e => h.nx.a e)).far (p := ⟨go, 0, none⟩) h.xg _⟩
end
theorem opnD_err {d : Dd} {p : Int} {x : Ds} (h : (opnD d p x).2.2 ≠ 0) : opnD d p x = (d, 0, (opnD d p x).2.2) := by
  cases h1 : okD d
  · rw [opnD_1 h1]
  cases h2 : rtD x
  · rw [opnD_2x h1 h2]
  by_cases hp : 0 ≤ p ∧ p ≤ (d.t.length : Int) - 1
  · obtain ⟨k, rfl⟩ : ∃ k : Nat, p = k := ⟨p.toNat, by omega⟩
    by_cases hf : frD (d.t.getD k []) < 16
    · rw [opnD_0 h1 (by omega) h2 hf] at h; exact absurd rfl h
    · rw [opnD_3 h1 (by omega) h2 hf]
  · rw [opnD_2p h1 hp]
theorem okD_z {d : Dd} (h : OkDd d) : ∀ k, k < d.o.length → (d.o.getD k zDs).r = 0 → d.o.getD k zDs = zDs := fun k hk h0 => (h.r k hk).2.1 (by have := (h.r k hk).1; omega)
theorem set_app (L : List Ds) (x y : Ds) : (L ++ [x]).set L.length y = L ++ [y] := by simp
end Go.Mine
namespace Go.Proofs.Ytokijggckiidjaa
open Go.ChangeShapes Go.WideShapes Go.ChangeAt Go.RowKit Go.Mine
set_option maxRecDepth 100000 in
set_option maxHeartbeats 16000000 in
theorem open_p {pp : Nat → Prop} {a b : Value} {d : Dd} {p f g c : Int} {x : Dd × Int × Int} {w : World} (h0 : DdP w pp a b d) (ho : d.o.length ≤ 1000) (ht : d.t.length ≤ 1000) (hr : Hid (∀ p, p < d.t.length → (d.t.getD p []).length ≤ 1000)) (hx : opnD d p ⟨f, g, 0, c, 1⟩ = x) :
    Calls Try.prog 10 #[.agg #[a, b], .int .i64 p, .int .i64 f, .int .i64 g, .int .i64 c] w (RetDI pp x w) := by
  have h := h0.rd
  clear h0
  obtain ⟨a1, ca, rfl, -, -⟩ := h.o.slice
  obtain ⟨b1, cb, rfl, -, -⟩ := h.t.slice
  obtain ⟨m, hm⟩ : ∃ m, d.o.length = m := ⟨_, rfl⟩
  obtain ⟨N, hN⟩ : ∃ N, d.t.length = N := ⟨_, rfl⟩
  have HM := Lib.hid hm
  have HN := Lib.hid hN
  have HX := Lib.hid hx
  have hol := ho
  have htl := ht
  rw [hm] at h ho ⊢
  rw [hN] at h ht ⊢
  have HH := Lib.hid h
  have D0 := (Mine.Own.new w 29 #[.slice a1 m ca, .slice b1 N cb]).alloc (.cells #[.slice none 0 0, .slice none 0 0] 29)
  have R0 := Mine.Own.new2 w (.cells #[.slice a1 m ca, .slice b1 N cb] 29) 29 #[.slice none 0 0, .slice none 0 0]
  have G0 := ((Grew.refl w).alloc (.cells #[.slice a1 m ca, .slice b1 N cb] 29)).alloc (.cells #[.slice none 0 0, .slice none 0 0] 29)
  have HOL := Lib.hid hol
  have HTL := Lib.hid htl
  have HCP := Lib.hid (copied_p (HH.out.grew G0) hol htl hr)
  obtain ⟨x0, x1, x2, x3⟩ := D0.two
  have HD0 := Lib.hid D0
  have HR0 := Lib.hid R0
  have HG0 := Lib.hid G0
  clear h hm hN hx D0 R0 G0 hol htl
  go_enter Try.func10, Try.ntmps10
  go_wp2_with fail
  with_reducible refine HCP.out.mono ?_
  rintro e9 w4 ⟨a2, b2, G, C, rfl, K, g4⟩
  obtain ⟨a3, c3, rfl⟩ := K.o.len
  obtain ⟨b3, c4, rfl⟩ := K.t.slice
  have HP := Lib.hid (PrW.start HD0.out HR0.out HG0.out HR0.out.lt K g4)
  rw [HM.out, HN.out] at HP ⊢
  clear K g4 x0 x1 x2 x3 HD0 HR0 HG0 HCP
  go_upto_region 2 with fail
  generalize (World.alloc (World.alloc w _) _).heap.size = B3 at *
  generalize w4.alloc _ = w5 at *
  generalize w4.heap.size = go at *
  go_upto_region 3 with fail
  replace HP := Lib.hid (PrX.start HP.out ⟨f, g, 0, c, 1⟩)
  generalize w5.heap.size = gx at *
  generalize World.alloc w5 _ = w6 at *
  obtain ⟨x0, x1, x2, x3⟩ := HP.out.p.dbox.two
  obtain ⟨z0, z1, z2, z3, z4⟩ := HP.out.x.fiveD
  obtain ⟨er, her⟩ : ∃ er, (opnD d p ⟨f, g, 0, c, 1⟩).2.2 = er := ⟨_, rfl⟩
  have HER := Lib.hid her
  have HCK := Lib.hid (checkOpen_p (x := ⟨f, g, 0, c, 1⟩) (HH.out.grew HP.out.p.ou.g) HOL.out HTL.out her)
  clear her
  go_wp2_with fail
  with_reducible refine HCK.out.mono ?_
  rintro e9 v1 ⟨rfl, g1⟩
  clear x0 x1 x2 x3 z0 z1 z2 z3 z4
  replace HP := Lib.hid (HP.out.grew g1)
  clear g1 HCK
  obtain ⟨x0, x1, x2, x3⟩ := HP.out.p.dbox.two
  obtain ⟨z0, z1, z2, z3, z4⟩ := HP.out.x.fiveD
  by_cases he : er = 0
  rotate_left
  · have HE : Hid (x = (d, 0, er)) := Lib.hid (HX.out.symm.trans ((opnD_err (by rw [HER.out]; exact he)).trans (by rw [HER.out])))
    have he1 : (er == 0) = false := by simpa using he
    have he2 : (er != 0) = true := by simpa using he
    clear he
    obtain ⟨o0, o1, o2, o3⟩ := HP.out.p.ou.box.two
    obtain ⟨r0, r1, r2, r3⟩ := HP.out.p.ou.res.two
    go_wp2
    generalize hw : World.setCell (World.setCell _ _ _) _ _ = E
    obtain ⟨RR, GG, DD⟩ := HP.out.p.ou.ret hw
    obtain ⟨k0, k1, -, -⟩ := RR.two
    refine bodyPost_ret (v := .tuple #[.agg #[.slice a3 m c3, .slice b3 N c4], .int .i64 0, .int .i64 er]) (by simp [results, Try.results10, go_sem, k0, k1]) rfl ?_
    exact ⟨_, _, by rw [HE.out], by rw [HE.out]; exact DD.own, GG⟩
  subst he
  obtain ⟨hok, hrt, pn, rfl, hpt, hf, e⟩ := opnD_get HER.out
  have HOK := Lib.hid (okD_iff.1 hok)
  have hpN : pn < N := by rw [← HN.out]; exact hpt
  have p4 : (pn : Int) < (N : Int) := by omega
  have p5 : (0 : Int) ≤ (pn : Int) := by omega
  have H16 := Lib.hid (HOK.out.t pn hpt)
  obtain ⟨fr, hfr⟩ : ∃ fr, frD (d.t.getD pn []) = fr := ⟨_, rfl⟩
  have HFR := Lib.hid hfr
  rw [hfr] at hf e
  have HE : Hid (x = (opD d pn ⟨f, g, 0, c, 1⟩, (fr : Int), 0)) := Lib.hid (HX.out.symm.trans e)
  have HFI : Hid (freI (d.t.getD pn []) = (fr : Int)) := Lib.hid ((freI_lt (by rw [hfr]; exact hf)).trans (by rw [hfr]))
  obtain ⟨A, hA⟩ : ∃ A, atD d.o = A := ⟨_, rfl⟩
  have HAT := Lib.hid hA
  have hAm : A ≤ m := by have := atD_le d.o; rw [HM.out] at this; omega
  have hm8 : m ≤ 128 := by have := HOK.out.o; rw [HM.out] at this; exact this
  obtain ⟨gt, ot, ta, tc, rfl, -, hgt, hct, RT⟩ := (HH.out.grew HP.out.p.ou.g).t.at_ (k := pn) hpt
  rw [H16.out] at hct RT
  have HRT := Lib.hid RT
  have HRO := Lib.hid (HH.out.grew HP.out.p.ou.g).o
  have HUN := Lib.hid (unused_p HRO.out.drew HOL.out (okD_z HOK.out))
  rw [HAT.out] at HUN
  have hdl : w.heap.size < v1.heap.size := HP.out.p.dbox.lt
  clear RT hok hrt hfr e hA z0 z1 z2 z3 z4
  go_upto_region 6 with fail
  go_region_held3 (fun w' => w'.cell? ⟨w.heap.size, 0, none⟩ = some (.slice a1 m ca) ∧ w'.cell? ⟨w.heap.size, 1, none⟩ = some (.slice (some ⟨gt, ot, none⟩) N cb) ∧ w'.cell? ⟨gt, ot + pn, none⟩ = some (.slice ta 16 tc))
    (refine ⟨?_, ?_, ?_⟩ <;> (repeat (first | (with_reducible assumption) | (with_reducible refine far_drew ?_))))
    (first
      | (go_at_call 33; (with_reducible refine HUN.out.mono ?_); rintro e9 v2 ⟨rfl, g2⟩; have HP2 := Lib.hid (HP.out.grew ((Grew.refl v1).drew.trans g2)); have HRT2 := Lib.hid (HRT.out.drew.grew g2); have u0 := (g2.cells.1 _ _ hdl).trans (far_drew x0); have u1 := (g2.cells.1 _ _ hdl).trans (far_drew x1); have u2 := (g2.cells.1 gt _ hgt).trans (far_drew hct); have hdl2 : w.heap.size < v2.heap.size := HP2.out.p.dbox.lt; have hgt2 : gt < v2.heap.size := Nat.lt_of_lt_of_le hgt g2.size)
      | (go_at_call 34; (with_reducible refine (free_p HRT2.out H16.out HFI.out).mono ?_); rintro e9 v3 ⟨rfl, g3⟩; have HP3 := Lib.hid (HP2.out.grew g3); have t0 := (g3.cells.1 _ _ hdl2).trans u0; have t1 := (g3.cells.1 _ _ hdl2).trans u1; have t2 := (g3.cells.1 gt _ hgt2).trans u2))
  have w1' : IntKind.i64.wrap ((A : Int) + 1) = (A : Int) + 1 := IntWalk.i64_in _ (by omega)
  have hA0 : (0 : Int) ≤ (A : Int) := by omega
  obtain ⟨o0, o1, o2, o3⟩ := HP3.out.p.ou.box.two
  clear HUN HRT HRT2 HRO x0 x1 x2 x3 u0 u1 u2 t0 t1 t2 hct HP HP2 hgt hgt2 hdl hdl2
  by_cases hAe : A = m
  · subst hAe
    have hA2 : ((A : Int) == (A : Int)) = true := by simp
    have HPU : Hid (opD d pn ⟨f, g, 0, c, 1⟩ = ⟨setT d.t pn fr ((A : Int) + 1), (d.o ++ [zDs]).set A ⟨f, g, 0, c, 1⟩⟩) := Lib.hid (by
      unfold opD
      rw [HFR.out, HAT.out, putD_ge _ (by rw [HM.out]; omega), ← HM.out, set_app])
    rw [HPU.out] at HE
    have hAo : A < (d.o ++ [zDs]).length := by rw [List.length_append, HM.out]; simp
    have HRW := Lib.hid (HP3.out.p.ou.k.o.alloc (.cells #[.int .i64 0, .int .i64 0, .int .i64 0, .int .i64 0, .int .i64 0] 34))
    have HBW := Lib.hid (HP3.out.p.ou.box.alloc (.cells #[.int .i64 0, .int .i64 0, .int .i64 0, .int .i64 0, .int .i64 0] 34))
    have hzB : B3 ≤ (v3.alloc (.cells #[.int .i64 0, .int .i64 0, .int .i64 0, .int .i64 0, .int .i64 0] 34)).heap.size := by have := HP3.out.p.ou.box.lt; have := HP3.out.p.ou.bo; simp; omega
    have hl6 : d.o.length < 1000000 := by rw [HM.out]; omega
    have hna : ¬(Value.slice a3 A c3).ownBlock = some go := HP3.out.p.ou.no.a
    go_upto_region 8 with fail
    go_upto_region 9 with (at_builtin; go_loud (
      refine wpList_append_row _ rfl _ _ 26 rfl B3 info_des Try.underlying26 (by decide) (by decide) encDs_len (.slice a3 A c3) d.o rfl HRW.out v3.heap.size 1 zDs rfl (Mine.Own.new v3 _ _) encDs_one hl6 (by decide) hzB ?_
      intro g9 cap9 w9 R9 G9 o9
      have HU := Lib.hid (HP3.out.app ((Grew.refl v3).alloc _) R9 G9 o9).1
      have XO := (HP3.out.app ((Grew.refl v3).alloc _) R9 G9 o9).2
      clear o0 o1 o2 o3
      obtain ⟨o0, o1, o2, o3⟩ := (HBW.out.keptN G9 (fun e => hna e)).two
      clear R9 G9 o9))
    generalize World.setCell w9 _ _ = w7 at *
    clear o0 o1 o2 o3
    obtain ⟨o0, o1, o2, o3⟩ := HU.out.box.two
    obtain ⟨z0, z1, z2, z3, z4⟩ := XO.fiveD
    rw [HM.out] at HU o0
    rw [HM.out]
    obtain ⟨ga, e9, -, hga, c0, c1, c2, c3', c4', cf⟩ := HU.out.k.atO hAo
    injection e9 with e9
    injection e9 with e9
    subst e9
    generalize (Dd.o _).getD A zDs = y at c0 c1 c2 c3' c4'
    have cf0 := cf (A * 5)
    have cf1 := cf (A * 5 + 1)
    have cf2 := cf (A * 5 + 2)
    have cf3 := cf (A * 5 + 3)
    have cf4 := cf (A * 5 + 4)
    have hA1 : (A : Int) < (A : Int) + 1 := by omega
    clear cf XO HBW HRW
    go_upto_region 10 with fail
    generalize hw : World.setCell (World.setCell (World.setCell (World.setCell (World.setCell w7 _ _) _ _) _ _) _ _) _ _ = w8
    have HU8 := Lib.hid (HU.out.storeX hAo ⟨f, g, 0, c, 1⟩ hw)
    clear hw c0 c1 c2 c3' c4' cf0 cf1 cf2 cf3 cf4 o0 o1 o2 o3 z0 z1 z2 z3 z4
    obtain ⟨o0, o1, o2, o3⟩ := HU8.out.box.two
    obtain ⟨gv, rfl, -, hgv, d0, -⟩ := HU8.out.k.t.at_ (k := pn) hpt
    obtain ⟨e0, ef, -, hgp⟩ := HU8.out.k.t.in_ (k := pn) (i := fr) hpt (show fr < (d.t.getD pn []).length by rw [H16.out]; exact hf)
    dsimp only at d0 e0
    rw [H16.out] at d0
    have hf16 : (fr : Int) < 16 := by omega
    have hf0 : (0 : Int) ≤ (fr : Int) := by omega
    generalize (d.t.getD pn []).getD fr 0 = y at e0
    go_upto_region 11 with fail
    have HU9 := Lib.hid (HU8.out.storeT (p := pn) hpt fr ((A : Int) + 1))
    generalize World.setCell w8 _ _ = w9' at *
    clear o0 o1 o2 o3 d0 e0 ef
    obtain ⟨o0, o1, o2, o3⟩ := HU9.out.box.two
    obtain ⟨r0, r1, r2, r3⟩ := HU9.out.res.two
    go_wp2
    generalize hw : World.setCell (World.setCell _ _ _) _ _ = E
    obtain ⟨RR, GG, DD⟩ := HU9.out.ret hw
    obtain ⟨k0, k1, -, -⟩ := RR.two
    refine bodyPost_ret (v := .tuple #[.agg #[.slice (some ⟨g9, 0, none⟩) (A + 1) cap9, .slice (some ⟨gv, 0, none⟩) N c4], .int .i64 fr, .int .i64 0]) (by simp [results, Try.results10, go_sem, k0, k1]) rfl ?_
    exact ⟨_, _, by rw [HE.out], by rw [HE.out]; exact DD.own, GG⟩
  · have hAl : A < m := by omega
    have hA1 : (A : Int) < (m : Int) := by omega
    have hA2 : ((A : Int) == (m : Int)) = false := by simp; omega
    have hAo : A < d.o.length := by rw [HM.out]; exact hAl
    have HPU : Hid (opD d pn ⟨f, g, 0, c, 1⟩ = ⟨setT d.t pn fr ((A : Int) + 1), d.o.set A ⟨f, g, 0, c, 1⟩⟩) := Lib.hid (by
      unfold opD
      rw [HFR.out, HAT.out, putD_lt _ hAo])
    rw [HPU.out] at HE
    have HU := Lib.hid HP3.out.p.ou
    obtain ⟨z0, z1, z2, z3, z4⟩ := HP3.out.x.fiveD
    obtain ⟨ga, rfl, -, hga, c0, c1, c2, c3', c4', cf⟩ := HU.out.k.atO hAo
    generalize d.o.getD A zDs = y at c0 c1 c2 c3' c4'
    have cf0 := cf (A * 5)
    have cf1 := cf (A * 5 + 1)
    have cf2 := cf (A * 5 + 2)
    have cf3 := cf (A * 5 + 3)
    have cf4 := cf (A * 5 + 4)
    clear cf hAe
    go_upto_region 10 with fail
    generalize hw : World.setCell (World.setCell (World.setCell (World.setCell (World.setCell v3 _ _) _ _) _ _) _ _) _ _ = w8
    have HU8 := Lib.hid (HU.out.storeX hAo ⟨f, g, 0, c, 1⟩ hw)
    clear hw c0 c1 c2 c3' c4' cf0 cf1 cf2 cf3 cf4 o0 o1 o2 o3 z0 z1 z2 z3 z4
    obtain ⟨o0, o1, o2, o3⟩ := HU8.out.box.two
    obtain ⟨gv, rfl, -, hgv, d0, -⟩ := HU8.out.k.t.at_ (k := pn) hpt
    obtain ⟨e0, ef, -, hgp⟩ := HU8.out.k.t.in_ (k := pn) (i := fr) hpt (show fr < (d.t.getD pn []).length by rw [H16.out]; exact hf)
    dsimp only at d0 e0
    rw [H16.out] at d0
    have hf16 : (fr : Int) < 16 := by omega
    have hf0 : (0 : Int) ≤ (fr : Int) := by omega
    generalize (d.t.getD pn []).getD fr 0 = y at e0
    go_upto_region 11 with fail
    have HU9 := Lib.hid (HU8.out.storeT (p := pn) hpt fr ((A : Int) + 1))
    generalize World.setCell w8 _ _ = w9' at *
    clear o0 o1 o2 o3 d0 e0 ef
    obtain ⟨o0, o1, o2, o3⟩ := HU9.out.box.two
    obtain ⟨r0, r1, r2, r3⟩ := HU9.out.res.two
    go_wp2
    generalize hw : World.setCell (World.setCell _ _ _) _ _ = E
    obtain ⟨RR, GG, DD⟩ := HU9.out.ret hw
    obtain ⟨k0, k1, -, -⟩ := RR.two
    refine bodyPost_ret (v := .tuple #[.agg #[.slice (some ⟨ga, 0, none⟩) (m) c3, .slice (some ⟨gv, 0, none⟩) N c4], .int .i64 fr, .int .i64 0]) (by simp [results, Try.results10, go_sem, k0, k1]) rfl ?_
    exact ⟨_, _, by rw [HE.out], by rw [HE.out]; exact DD.own, GG⟩
end Go.Proofs.Ytokijggckiidjaa
