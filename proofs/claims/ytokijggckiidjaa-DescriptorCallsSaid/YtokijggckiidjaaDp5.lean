/- find, Lookup, checkOpen, checkFork, checkUpdate of the program (layer 18). mkdp5.py writes this text. -/
import Derived.Test.YtokijggckiidjaaDp3
import Derived.Test.YtokijggckiidjaaDs4
namespace Go.Mine
open Go Go.RowKit
/-- The argument's box. -/
structure FnW (w : World) (T : TypeId) (a b : Value) (d : Dd) (B : Nat) (wr : World) : Prop where
  box : Own wr w.heap.size T #[a, b]
  dd : DdR wr B a b d
  g : Grew w wr
theorem FnW.start (w : World) (T : TypeId) {a b : Value} {d : Dd} {B : Nat} (h : DdR w B a b d) : FnW w T a b d B (w.alloc (.cells #[a, b] T)) := ⟨Own.new w T _, h.grew ((Grew.refl w).alloc _), (Grew.refl w).alloc _⟩
theorem FnW.grew {w wr w' : World} {T : TypeId} {a b : Value} {d : Dd} {B : Nat} (h : FnW w T a b d B wr) (g : Grew wr w') : FnW w T a b d B w' := ⟨h.box.grew g, h.dd.grew g, h.g.trans g⟩
/-- .. and that of a description. -/
structure FnX (w : World) (T Td : TypeId) (a b : Value) (d : Dd) (x : Ds) (B : Nat) (wr : World) : Prop where
  f : FnW w T a b d B wr
  x : Own wr (w.heap.size + 1) Td #[.int .i64 x.f, .int .i64 x.g, .int .i64 x.o, .int .i64 x.c, .int .i64 x.r]
theorem FnX.start (w : World) (T Td : TypeId) {a b : Value} {d : Dd} {x : Ds} {B : Nat} (h : DdR w B a b d) : FnX w T Td a b d x B ((w.alloc (.cells #[a, b] T)).alloc (.cells #[.int .i64 x.f, .int .i64 x.g, .int .i64 x.o, .int .i64 x.c, .int .i64 x.r] Td)) :=
  ⟨(FnW.start w T h).grew ((Grew.refl _).alloc _), Own.new2 w (.cells #[a, b] T) Td _⟩
theorem FnX.grew {w wr w' : World} {T Td : TypeId} {a b : Value} {d : Dd} {x : Ds} {B : Nat} (h : FnX w T Td a b d x B wr) (g : Grew wr w') : FnX w T Td a b d x B w' := ⟨h.f.grew g, h.x.grew g⟩
theorem lkD_err {d : Dd} {p q : Int} (h : (lkD d p q).2.2 ≠ 0) : lkD d p q = (0, zDs, (lkD d p q).2.2) := by
  cases h1 : okD d
  · rw [lkD_1 h1]
  by_cases hp : 0 ≤ p ∧ p ≤ (d.t.length : Int) - 1
  · by_cases hq : (0 ≤ q ∧ q ≤ 15) ∧ entD d p q ≠ 0
    · rw [lkD_0 h1 hp hq.1 hq.2] at h; exact absurd rfl h
    · rw [lkD_4 h1 hp hq]
  · rw [lkD_2 h1 hp]
end Go.Mine
namespace Go.Proofs.Ytokijggckiidjaa
open Go.ChangeShapes Go.WideShapes Go.ChangeAt Go.RowKit Go.Mine
set_option maxRecDepth 100000 in
set_option maxHeartbeats 8000000 in
theorem find_p {B : Nat} {a b : Value} {d : Dd} {p q : Int} {x : Int × Ds × Int} {w : World} (h : DdR w B a b d) (ho : d.o.length ≤ 1000) (ht : d.t.length ≤ 1000) (hx : lkD d p q = x) :
    Calls Try.prog 38 #[.agg #[a, b], .int .i64 p, .int .i64 q] w (RetG (.tuple #[.int .i64 x.1, .int .i64 x.2.2]) w) := by
  obtain ⟨a1, ca, rfl, -, -⟩ := h.o.slice
  obtain ⟨b1, cb, rfl, -, -⟩ := h.t.slice
  obtain ⟨m, hm⟩ : ∃ m, d.o.length = m := ⟨_, rfl⟩
  obtain ⟨N, hN⟩ : ∃ N, d.t.length = N := ⟨_, rfl⟩
  have HM := Lib.hid hm
  have HN := Lib.hid hN
  have HX := Lib.hid hx
  have hol := ho
  have htl := ht
  rw [hm] at h ho ⊢
  rw [hN] at h ht ⊢
  have W0 := FnW.start w 29 h
  have HW := Lib.hid W0
  obtain ⟨x0, x1, x2, x3⟩ := W0.box.two
  clear h hm hN hx
  obtain ⟨bb, hb⟩ : ∃ bb, okD d = bb := ⟨_, rfl⟩
  have HC := Lib.hid (check_p W0.dd hol htl hb)
  have HB := Lib.hid hb
  clear W0 hb hol htl
  go_enter Try.func38, Try.ntmps38
  go_wp2_with fail
  with_reducible refine (HC.out).mono ?_
  rintro e9 v1 ⟨rfl, g1⟩
  clear x0 x1 x2 x3
  replace HW := Lib.hid (HW.out.grew g1)
  obtain ⟨x0, x1, x2, x3⟩ := HW.out.box.two
  clear g1
  clear HC
  cases bb
  · skip
    have HE : Hid (x = (0, zDs, 1)) := Lib.hid (HX.out.symm.trans (lkD_1 HB.out))
    go_wp2
    refine bodyPost_ret (v := .tuple #[.int .i64 0, .int .i64 1]) (by simp [results, Try.results38, go_sem]) rfl ?_
    exact ⟨by rw [HE.out], HW.out.g⟩
  obtain ⟨b2, hb2⟩ : ∃ b2, inD p 0 ((N : Int) - 1) = b2 := ⟨_, rfl⟩
  have HB2 := Lib.hid hb2
  clear hb2
  go_wp2_with fail
  with_reducible refine (hasProc_p ht HB2.out).mono ?_
  rintro e9 v2 ⟨rfl, g2⟩
  clear x0 x1 x2 x3
  replace HW := Lib.hid (HW.out.grew g2)
  obtain ⟨x0, x1, x2, x3⟩ := HW.out.box.two
  clear g2
  cases b2
  · skip
    have HE : Hid (x = (0, zDs, 2)) := Lib.hid (HX.out.symm.trans (lkD_2 HB.out (fun k => by rw [HN.out, ← inD_iff, HB2.out] at k; cases k)))
    go_wp2
    refine bodyPost_ret (v := .tuple #[.int .i64 0, .int .i64 2]) (by simp [results, Try.results38, go_sem]) rfl ?_
    exact ⟨by rw [HE.out], HW.out.g⟩
  have HP := inD_iff.1 HB2.out
  obtain ⟨pn, rfl⟩ : ∃ n : Nat, p = n := ⟨p.toNat, by omega⟩
  have HPT : Hid ((0 : Int) ≤ (pn : Int) ∧ (pn : Int) ≤ (d.t.length : Int) - 1) := Lib.hid (by rw [HN.out]; exact HP)
  have hpN : pn < N := by omega
  have p4 : (pn : Int) < (N : Int) := by omega
  have p5 : (0 : Int) ≤ (pn : Int) := by omega
  clear HP HB2
  cases b3 : inD q 0 15
  · skip
    have HB3 := Lib.hid b3
    clear b3
    go_wp2_with fail
    with_reducible refine (isFrom_p HB3.out).mono ?_
    rintro e9 v3 ⟨rfl, rfl⟩
    have HE : Hid (x = (0, zDs, 4)) := Lib.hid (HX.out.symm.trans (lkD_4 HB.out HPT.out (fun k => by rw [inD_iff.2 k.1] at HB3; exact absurd HB3.out (by simp))))
    go_wp2
    refine bodyPost_ret (v := .tuple #[.int .i64 0, .int .i64 4]) (by simp [results, Try.results38, go_sem]) rfl ?_
    exact ⟨by rw [HE.out], HW.out.g⟩
  have HB3 := Lib.hid b3
  have HQ := inD_iff.1 b3
  clear b3
  obtain ⟨qn, rfl⟩ : ∃ n : Nat, q = n := ⟨q.toNat, by omega⟩
  have hq16 : qn < 16 := by omega
  have q4 : (qn : Int) < 16 := by omega
  have q5 : (0 : Int) ≤ (qn : Int) := by omega
  have HQ2 := Lib.hid HQ
  clear HQ
  have H16 := Lib.hid ((okD_iff.1 HB.out).t pn (by rw [HN.out]; exact hpN))
  obtain ⟨g, o, ta, tc, rfl, -, hg, hc, RT⟩ := HW.out.dd.t.at_ (k := pn) (by rw [HN.out]; exact hpN)
  obtain ⟨g2, o2, rfl, -, hg2, hc2⟩ := RT.atI (k := qn) (by rw [H16.out]; exact hq16)
  rw [H16.out] at hc
  obtain ⟨n, hn⟩ : ∃ n, (d.t.getD pn []).getD qn 0 = n := ⟨_, rfl⟩
  rw [hn] at hc2
  have HV : Hid (entD d pn qn = n) := Lib.hid hn
  have hr := (okD_iff.1 HB.out).n pn (by rw [HN.out]; exact hpN) qn hq16
  rw [hn, HM.out] at hr
  clear RT hn
  by_cases hz : n = 0
  · subst hz
    clear hr
    go_wp2_with fail
    with_reducible refine (isFrom_p HB3.out).mono ?_
    rintro e9 v3 ⟨rfl, rfl⟩
    have HE : Hid (x = (0, zDs, 4)) := Lib.hid (HX.out.symm.trans (lkD_4 HB.out HPT.out (fun h => h.2 HV.out)))
    go_wp2
    refine bodyPost_ret (v := .tuple #[.int .i64 0, .int .i64 4]) (by simp [results, Try.results38, go_sem]) rfl ?_
    exact ⟨by rw [HE.out], HW.out.g⟩
  obtain ⟨k, rfl⟩ : ∃ k : Nat, n = (k : Int) + 1 := ⟨(n - 1).toNat, by omega⟩
  have hk : k < m := by omega
  have HE : Hid (x = ((k : Int), d.o.getD k zDs, 0)) := Lib.hid (HX.out.symm.trans (by
    rw [lkD_0 HB.out HPT.out HQ2.out (by rw [HV.out]; exact hz), HV.out, show (k : Int) + 1 - 1 = (k : Int) by omega, Int.toNat_natCast]))
  have k1 : IntKind.i64.wrap ((k : Int) + 1 - 1) = (k : Int) := by rw [IntWalk.i64_in _ (by omega)]; omega
  have k2 : ((k : Int) + 1 == 0) = false := by simp; omega
  clear hz hr
  go_wp2_with fail
  with_reducible refine (isFrom_p HB3.out).mono ?_
  rintro e9 v3 ⟨rfl, rfl⟩
  go_wp2
  refine bodyPost_ret (v := .tuple #[.int .i64 (k : Int), .int .i64 0]) (by simp [results, Try.results38, go_sem]) rfl ?_
  exact ⟨by rw [HE.out], HW.out.g⟩
set_option maxHeartbeats 8000000 in
theorem lookup_p {B : Nat} {a b : Value} {d : Dd} {p q : Int} {x : Int × Ds × Int} {w : World} (h : DdR w B a b d) (ho : d.o.length ≤ 1000) (ht : d.t.length ≤ 1000) (hx : lkD d p q = x) :
    Calls Try.prog 19 #[.agg #[a, b], .int .i64 p, .int .i64 q] w (RetG (lkV x) w) := by
  obtain ⟨a1, ca, rfl, -, -⟩ := h.o.slice
  obtain ⟨m, hm⟩ : ∃ m, d.o.length = m := ⟨_, rfl⟩
  have HM := Lib.hid hm
  have HX := Lib.hid hx
  have hol := ho
  rw [hm] at h ho ⊢
  have A0 := (Mine.Own.new w 29 #[.slice a1 m ca, b]).alloc (.cells #[.int .i64 0, .int .i64 0, .int .i64 0, .int .i64 0, .int .i64 0] 34)
  have O0 := Mine.Own.new2 w (.cells #[.slice a1 m ca, b] 29) 34 #[.int .i64 0, .int .i64 0, .int .i64 0, .int .i64 0, .int .i64 0]
  have G0 := ((Grew.refl w).alloc (.cells #[.slice a1 m ca, b] 29)).alloc (.cells #[.int .i64 0, .int .i64 0, .int .i64 0, .int .i64 0, .int .i64 0] 34)
  have HC := Lib.hid (find_p (h.grew G0) hol ht hx)
  have HH := Lib.hid (h.grew G0)
  have HA := Lib.hid A0
  have HO := Lib.hid O0
  have HG := Lib.hid G0
  obtain ⟨x0, x1, x2, x3⟩ := A0.two
  clear h hm hx A0 O0 G0 hol
  go_enter Try.func19, Try.ntmps19
  go_wp2_with fail
  with_reducible refine HC.out.mono ?_
  rintro e9 w1 ⟨rfl, g1⟩
  have HG1 := Lib.hid (HG.out.trans g1)
  have HO1 := Lib.hid (HO.out.grew g1)
  have HA1 := Lib.hid (HA.out.grew g1)
  have HH1 := Lib.hid (HH.out.grew g1)
  clear g1 x0 x1 x2 x3 HC HG HO HA HH
  obtain ⟨x0, x1, x2, x3⟩ := HA1.out.two
  obtain ⟨z0, z1, z2, z3, z4⟩ := HO1.out.fiveD
  obtain ⟨f0, f1, f2, f3, f4⟩ := HO1.out.five0D
  by_cases he : x.2.2 = 0
  rotate_left
  · have hz : (lkD d p q).2.2 ≠ 0 := by rw [HX.out]; exact he
    have HE : Hid (x = (0, zDs, x.2.2)) := Lib.hid (by
      have := lkD_err hz
      rw [HX.out] at this
      exact this)
    obtain ⟨r, hr⟩ : ∃ r, x.2.2 = r := ⟨_, rfl⟩
    rw [hr] at he HE ⊢
    have he1 : (r == 0) = false := by simpa using he
    have he2 : (r != 0) = true := by simpa using he
    clear he hz
    go_wp2
    generalize hw : World.setCell (World.setCell (World.setCell (World.setCell (World.setCell w1 _ _) _ _) _ _) _ _) _ _ = E
    obtain ⟨b0, b1, b2, b3, b4⟩ := (HO1.out.store5D hw).fiveD
    refine bodyPost_ret (v := lkV (0, zDs, r)) (by simp [results, Try.results19, go_sem, b0, b1, b2, b3, b4]) rfl ?_
    exact ⟨by rw [HE.out], HG1.out.far5D hw (by omega)⟩
  obtain ⟨-, pn, qn, k, rfl, rfl, hp, hq, hk, hko, e⟩ := lkD_get (d := d) (p := p) (q := q) (by rw [HX.out]; exact he)
  have HE : Hid (x = ((k : Int), d.o.getD k zDs, 0)) := Lib.hid (HX.out.symm.trans e)
  have e1 : x.1 = (k : Int) := by rw [HE.out]
  obtain ⟨g3, o3, rfl, -, hg3, c0, c1, c2, c3, c4⟩ := HH1.out.o.atD (k := k) hko
  rw [HM.out] at hko
  have k3 : (0 : Int) ≤ (k : Int) := by omega
  have k4 : (k : Int) < (m : Int) := by omega
  generalize d.o.getD k zDs = y at *
  rw [he, e1]
  clear hp hq hk e e1 he
  go_upto_region 4 with fail
  go_region
  all_goals (go_wp2_with fail)
  generalize hw : World.setCell (World.setCell (World.setCell (World.setCell (World.setCell w1 _ _) _ _) _ _) _ _) _ _ = E
  obtain ⟨b0, b1, b2, b3, b4⟩ := (HO1.out.store5D hw).drew.fiveD
  refine bodyPost_ret (v := lkV ((k : Int), y, 0)) (by simp [results, Try.results19, go_sem, b0, b1, b2, b3, b4]) rfl ?_
  exact ⟨by rw [HE.out], (HG1.out.far5D hw (by omega)).drew⟩
end Go.Proofs.Ytokijggckiidjaa
