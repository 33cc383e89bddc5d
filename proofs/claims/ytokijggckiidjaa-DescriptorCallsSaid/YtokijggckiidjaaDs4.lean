/- free, Lookup, Same of the reference (layer 18). mkds4.py writes this text out of ds4.base. -/
import Derived.Test.YtokijggckiidjaaDs3
import Derived.Test.YtokijggckiidjaaDsN
namespace Go.Mine
open Go Go.RowKit
section
variable {w w' : World} {g : Nat} {t : TypeId}
theorem Own.store5D {a b c d e x y z u v : Value} (h : Own w g t #[a, b, c, d, e]) (hw : ((((w.setCell ⟨g, 0, none⟩ x).setCell ⟨g, 1, none⟩ y).setCell ⟨g, 2, none⟩ z).setCell ⟨g, 3, none⟩ u).setCell ⟨g, 4, none⟩ v = w') : Own w' g t #[x, y, z, u, v] := by
  rw [← hw]
  exact ((((h.set 0 x).set 1 y).set 2 z).set 3 u).set 4 v
theorem Grew.far5D {a : World} {b : Nat} {x y z u v : Value} (h : Grew a w) (hw : ((((w.setCell ⟨b, 0, none⟩ x).setCell ⟨b, 1, none⟩ y).setCell ⟨b, 2, none⟩ z).setCell ⟨b, 3, none⟩ u).setCell ⟨b, 4, none⟩ v = w') (hb : a.heap.size ≤ b) : Grew a w' := by
  rw [← hw]
  exact ((((h.set (p := ⟨b, 0, none⟩) hb x).set (p := ⟨b, 1, none⟩) hb y).set (p := ⟨b, 2, none⟩) hb z).set (p := ⟨b, 3, none⟩) hb u).set (p := ⟨b, 4, none⟩) hb v
end
abbrev lkV (x : Int × Ds × Int) : Value := .tuple #[.int .i64 x.1, dsV x.2.1, .int .i64 x.2.2]
end Go.Mine
namespace Go.Proofs.Ytokijggckiidjaa
open Go.ChangeShapes Go.WideShapes Go.ChangeAt Go.RowKit Go.Mine
set_option maxHeartbeats 4000000 in
theorem free_q {B p : Nat} {a b : Value} {d : Dd} {x : Int} {w : World} (h : DdR w B a b d) (hp : p < d.t.length) (h16 : (d.t.getD p []).length = 16) (hp8 : p < 1000) (hx : freI (d.t.getD p []) = x) :
    Calls Try.prog 36 #[.agg #[a, b], .int .i64 p] w (RetG (.int .i64 x) w) := by
  obtain ⟨b', cb, rfl, -, -⟩ := h.t.slice
  obtain ⟨N, hN⟩ : ∃ N, d.t.length = N := ⟨_, rfl⟩
  have HN := Lib.hid hN
  have HX := Lib.hid hx
  have H16 := Lib.hid h16
  rw [hN] at h hp ⊢
  have HH := Lib.hid h
  have HA := Lib.hid (Mine.Own.new w 29 #[a, .slice b' N cb])
  have HG := Lib.hid ((Grew.refl w).alloc (.cells #[a, .slice b' N cb] 29))
  have hp0 : (0 : Int) ≤ (p : Int) := by omega
  have hp1 : (p : Int) < (N : Int) := by omega
  clear h hN hx h16
  go_enter Try.func36, Try.ntmps36
  go_wp2_with fail
  go_loopw [5] (fun iv wr => ∃ i : Nat, iv = .int .i64 i ∧ i ≤ 16 ∧ Hid (∀ j, j < i → (d.t.getD p []).getD j 0 ≠ 0) ∧ Mine.Own wr w.heap.size 29 #[a, .slice b' N cb] ∧ Grew w wr) (fun iv _ => 16 - (intOf iv).toNat)
  case atStart => exact ⟨0, rfl, by omega, Lib.hid (fun j hj => by omega), HA.out, HG.out⟩
  case round =>
    obtain ⟨i, rfl, hi, HK, O, G⟩ := hrel
    obtain ⟨wo, rfl⟩ : ∃ wo : World, wo = wr := ⟨_, rfl⟩
    clear HA HG
    have HO := Lib.hid O
    have HG := Lib.hid G
    by_cases hlt : i < 16
    · have hi0 : (0 : Int) ≤ (i : Int) := by omega
      have hi1 : (i : Int) < 16 := by omega
      obtain ⟨g, o, ta, tc, rfl, -, hg, hc, RT⟩ := (HH.out.t.grew G).at_ (k := p) (by rw [HN.out]; exact hp)
      obtain ⟨g2, o2, rfl, -, hg2, hc2⟩ := RT.atI (k := i) (by rw [H16.out]; exact hlt)
      rw [H16.out] at hc
      obtain ⟨x0, x1, y0, y1⟩ := O.two
      obtain ⟨n, hn⟩ : ∃ n, (d.t.getD p []).getD i 0 = n := ⟨_, rfl⟩
      rw [hn] at hc2
      have HNV := Lib.hid hn
      clear RT O G hn
      by_cases hz : n = 0
      · subst hz
        have HE := Lib.hid (HX.out.symm.trans (freI_at hlt (by rw [H16.out]; exact hlt) HNV.out HK.out))
        go_wp2_with fail
        go_ret
        exact ⟨(congrArg (fun z => Ending.returned (.int .i64 z)) HE.out).symm, HG.out⟩
      · have hz1 : (n == 0) = false := by simpa using hz
        have HK2 : Hid (∀ j, j < i + 1 → (d.t.getD p []).getD j 0 ≠ 0) := Lib.hid (fun j hj => by
          by_cases e : j = i
          · rw [e, HNV.out]; exact hz
          · exact HK.out j (by omega))
        clear hz
        go_wp2_with fail
        go_roundw
        case rel => exact ⟨i + 1, by go_num, by omega, HK2, HO.out, HG.out⟩
        case measure => simp [intOf]; omega
    · obtain rfl : i = 16 := by omega
      rw [show ((16 : Nat) : Int) = 16 from rfl]
      have HE := Lib.hid (HX.out.symm.trans (freI_none H16.out HK.out))
      clear O G
      go_wp2_with fail
      go_ret
      exact ⟨(congrArg (fun z => Ending.returned (.int .i64 z)) HE.out).symm, HG.out⟩
set_option maxHeartbeats 8000000 in
theorem lookup_q {B : Nat} {a b : Value} {d : Dd} {p q : Int} {x : Int × Ds × Int} {w : World} (h : DdR w B a b d) (ho : d.o.length ≤ 1000) (ht : d.t.length ≤ 1000) (hx : lkD d p q = x) :
    Calls Try.prog 20 #[.agg #[a, b], .int .i64 p, .int .i64 q] w (RetG (lkV x) w) := by
  have HX := Lib.hid hx
  have HA := Lib.hid ((Mine.Own.new w 29 #[a, b]).alloc (.cells #[.int .i64 0, .int .i64 0, .int .i64 0, .int .i64 0, .int .i64 0] 34))
  have HO := Lib.hid (Mine.Own.new2 w (.cells #[a, b] 29) 34 #[.int .i64 0, .int .i64 0, .int .i64 0, .int .i64 0, .int .i64 0])
  have HG := Lib.hid (((Grew.refl w).alloc (.cells #[a, b] 29)).alloc (.cells #[.int .i64 0, .int .i64 0, .int .i64 0, .int .i64 0, .int .i64 0] 34))
  have HH := Lib.hid (h.grew HG.out)
  obtain ⟨x0, x1, y0, y1⟩ := HA.out.two
  cases h1 : okD d
  · have HC := Lib.hid (check_q HH.out ho ht h1)
    have HE : Hid (x = (0, zDs, 1)) := Lib.hid (HX.out.symm.trans (lkD_1 h1))
    clear h hx h1
    go_enter Try.func20, Try.ntmps20
    go_wp2_with fail
    with_reducible refine HC.out.mono ?_
    rintro e9 w1 ⟨rfl, g1⟩
    have HG1 := Lib.hid (HG.out.trans g1)
    have HO1 := Lib.hid (HO.out.grew g1)
    obtain ⟨z0, z1, z2, z3, z4⟩ := HO1.out.fiveD
    obtain ⟨f0, f1, f2, f3, f4⟩ := HO1.out.five0D
    clear g1 x0 x1 y0 y1 HC
    go_wp2
    generalize hw : World.setCell (World.setCell (World.setCell (World.setCell (World.setCell w1 _ _) _ _) _ _) _ _) _ _ = E
    obtain ⟨b0, b1, b2, b3, b4⟩ := (HO1.out.store5D hw).fiveD
    refine bodyPost_ret (v := lkV (0, zDs, 1)) (by simp [results, Try.results20, go_sem, b0, b1, b2, b3, b4]) rfl ?_
    exact ⟨by rw [HE.out], HG1.out.far5D hw (by omega)⟩
  · have HC := Lib.hid (check_q HH.out ho ht h1)
    have H1 := Lib.hid h1
    obtain ⟨a', ca, rfl, -, -⟩ := h.o.slice
    obtain ⟨b', cb, rfl, -, -⟩ := h.t.slice
    obtain ⟨m, hm⟩ : ∃ m, d.o.length = m := ⟨_, rfl⟩
    obtain ⟨N, hN⟩ : ∃ N, d.t.length = N := ⟨_, rfl⟩
    have HM := Lib.hid hm
    have HN := Lib.hid hN
    rw [hm] at HH HC HA HO HG ho x0 x1 y0 y1 ⊢
    rw [hN] at HH HC HA HO HG ht x0 x1 y0 y1 ⊢
    clear h hx h1 hm hN
    go_enter Try.func20, Try.ntmps20
    go_wp2_with fail
    with_reducible refine HC.out.mono ?_
    rintro e9 w1 ⟨rfl, g1⟩
    have HG1 := Lib.hid (HG.out.trans g1)
    have HO1 := Lib.hid (HO.out.grew g1)
    have HA1 := Lib.hid (HA.out.grew g1)
    have HH1 := Lib.hid (HH.out.grew g1)
    obtain ⟨z0, z1, z2, z3, z4⟩ := HO1.out.fiveD
    obtain ⟨f0, f1, f2, f3, f4⟩ := HO1.out.five0D
    clear g1 x0 x1 y0 y1 HC HG HO HA HH
    obtain ⟨x0, x1, y0, y1⟩ := HA1.out.two
    by_cases p0 : p < 0
    · have HE : Hid (x = (0, zDs, 2)) := Lib.hid (HX.out.symm.trans (lkD_2 H1.out (by omega)))
      go_wp2
      generalize hw : World.setCell (World.setCell (World.setCell (World.setCell (World.setCell w1 _ _) _ _) _ _) _ _) _ _ = E
      obtain ⟨b0, b1, b2, b3, b4⟩ := (HO1.out.store5D hw).fiveD
      refine bodyPost_ret (v := lkV (0, zDs, 2)) (by simp [results, Try.results20, go_sem, b0, b1, b2, b3, b4]) rfl ?_
      exact ⟨by rw [HE.out], HG1.out.far5D hw (by omega)⟩
    · by_cases p1 : (N : Int) ≤ p
      · have HE : Hid (x = (0, zDs, 2)) := Lib.hid (HX.out.symm.trans (lkD_2 H1.out (by rw [HN.out]; omega)))
        go_wp2
        generalize hw : World.setCell (World.setCell (World.setCell (World.setCell (World.setCell w1 _ _) _ _) _ _) _ _) _ _ = E
        obtain ⟨b0, b1, b2, b3, b4⟩ := (HO1.out.store5D hw).fiveD
        refine bodyPost_ret (v := lkV (0, zDs, 2)) (by simp [results, Try.results20, go_sem, b0, b1, b2, b3, b4]) rfl ?_
        exact ⟨by rw [HE.out], HG1.out.far5D hw (by omega)⟩
      · obtain ⟨pn, rfl⟩ : ∃ n : Nat, p = n := ⟨p.toNat, by omega⟩
        have HP : Hid ((0 : Int) ≤ (pn : Int) ∧ (pn : Int) ≤ (d.t.length : Int) - 1) := Lib.hid (by rw [HN.out]; omega)
        have hpN : pn < N := by omega
        have p2 : decide ((N : Int) ≤ (pn : Int)) = false := decide_eq_false (by omega)
        have p3 : decide (N ≤ pn) = false := decide_eq_false (by omega)
        have p4 : (pn : Int) < (N : Int) := by omega
        have p5 : (0 : Int) ≤ (pn : Int) := by omega
        by_cases q0 : q < 0
        · have HE : Hid (x = (0, zDs, 4)) := Lib.hid (HX.out.symm.trans (lkD_4 H1.out HP.out (fun h => by omega)))
          go_wp2
          generalize hw : World.setCell (World.setCell (World.setCell (World.setCell (World.setCell w1 _ _) _ _) _ _) _ _) _ _ = E
          obtain ⟨b0, b1, b2, b3, b4⟩ := (HO1.out.store5D hw).fiveD
          refine bodyPost_ret (v := lkV (0, zDs, 4)) (by simp [results, Try.results20, go_sem, b0, b1, b2, b3, b4]) rfl ?_
          exact ⟨by rw [HE.out], HG1.out.far5D hw (by omega)⟩
        · by_cases q1 : 16 ≤ q
          · have HE : Hid (x = (0, zDs, 4)) := Lib.hid (HX.out.symm.trans (lkD_4 H1.out HP.out (fun h => by omega)))
            go_wp2
            generalize hw : World.setCell (World.setCell (World.setCell (World.setCell (World.setCell w1 _ _) _ _) _ _) _ _) _ _ = E
            obtain ⟨b0, b1, b2, b3, b4⟩ := (HO1.out.store5D hw).fiveD
            refine bodyPost_ret (v := lkV (0, zDs, 4)) (by simp [results, Try.results20, go_sem, b0, b1, b2, b3, b4]) rfl ?_
            exact ⟨by rw [HE.out], HG1.out.far5D hw (by omega)⟩
          · obtain ⟨qn, rfl⟩ : ∃ n : Nat, q = n := ⟨q.toNat, by omega⟩
            have hq16 : qn < 16 := by omega
            have q2 : decide (16 ≤ qn) = false := decide_eq_false (by omega)
            have q4 : (qn : Int) < 16 := by omega
            have q5 : (0 : Int) ≤ (qn : Int) := by omega
            have H16 := Lib.hid ((okD_iff.1 H1.out).t pn (by rw [HN.out]; exact hpN))
            obtain ⟨g, o, ta, tc, rfl, -, hg, hc, RT⟩ := HH1.out.t.at_ (k := pn) (by rw [HN.out]; exact hpN)
            obtain ⟨g2, o2, rfl, -, hg2, hc2⟩ := RT.atI (k := qn) (by rw [H16.out]; exact hq16)
            rw [H16.out] at hc
            obtain ⟨n, hn⟩ : ∃ n, (d.t.getD pn []).getD qn 0 = n := ⟨_, rfl⟩
            rw [hn] at hc2
            have HV : Hid (entD d pn qn = n) := Lib.hid hn
            have hr := (okD_iff.1 H1.out).n pn (by rw [HN.out]; exact hpN) qn hq16
            rw [hn, HM.out] at hr
            clear RT hn
            by_cases hz : n = 0
            · subst hz
              have HE : Hid (x = (0, zDs, 4)) := Lib.hid (HX.out.symm.trans (lkD_4 H1.out HP.out (fun h => h.2 HV.out)))
              go_wp2
              generalize hw : World.setCell (World.setCell (World.setCell (World.setCell (World.setCell w1 _ _) _ _) _ _) _ _) _ _ = E
              obtain ⟨b0, b1, b2, b3, b4⟩ := (HO1.out.store5D hw).fiveD
              refine bodyPost_ret (v := lkV (0, zDs, 4)) (by simp [results, Try.results20, go_sem, b0, b1, b2, b3, b4]) rfl ?_
              exact ⟨by rw [HE.out], HG1.out.far5D hw (by omega)⟩
            · obtain ⟨k, rfl⟩ : ∃ k : Nat, n = (k : Int) + 1 := ⟨(n - 1).toNat, by omega⟩
              have hk : k < m := by omega
              have HE : Hid (x = ((k : Int), d.o.getD k zDs, 0)) := Lib.hid (HX.out.symm.trans (by
                rw [lkD_0 H1.out HP.out (by omega) (by rw [HV.out]; exact hz), HV.out, show (k : Int) + 1 - 1 = (k : Int) by omega, Int.toNat_natCast]))
              obtain ⟨g3, o3, rfl, -, hg3, c0, c1, c2, c3, c4⟩ := HH1.out.o.atD (k := k) (by rw [HM.out]; exact hk)
              have k1 : IntKind.i64.wrap ((k : Int) + 1 - 1) = (k : Int) := by rw [IntWalk.i64_in _ (by omega)]; omega
              have k2 : ((k : Int) + 1 == 0) = false := by simp; omega
              have k3 : (0 : Int) ≤ (k : Int) := by omega
              have k4 : (k : Int) < (m : Int) := by omega
              generalize d.o.getD k zDs = y at *
              clear hz hr
              clear p0 p1 q0 q1
              go_upto_region 8 with fail
              go_region
              all_goals (go_wp2_with fail)
              generalize hw : World.setCell (World.setCell (World.setCell (World.setCell (World.setCell w1 _ _) _ _) _ _) _ _) _ _ = E
              obtain ⟨b0, b1, b2, b3, b4⟩ := (HO1.out.store5D hw).drew.fiveD
              refine bodyPost_ret (v := lkV ((k : Int), y, 0)) (by simp [results, Try.results20, go_sem, b0, b1, b2, b3, b4]) rfl ?_
              exact ⟨by rw [HE.out], (HG1.out.far5D hw (by omega)).drew⟩
end Go.Proofs.Ytokijggckiidjaa
