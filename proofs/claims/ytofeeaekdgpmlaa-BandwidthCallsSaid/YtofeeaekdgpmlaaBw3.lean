/- Layer 12: the reference's Note. -/
import Derived.Test.YtofeeaekdgpmlaaBw2
import Derived.Deep.RegionHeld3
import Derived.Deep.DeepCutAuto
import Derived.Deep.CutBlock
namespace Go.Proofs.Ytofeeaekdgpmlaa
open Go.RowKit Go.Mine

set_option maxHeartbeats 16000000 in
theorem note_q {x y : Me} {n p e : Int} {w : World} (hn : NtR x n p y e) : Calls Try.prog 11 #[meV x, .int .i64 n, .int .i64 p] w (RetG (.tuple #[meV y, .int .i64 e]) w) := by
  obtain ⟨a, s, d⟩ := x
  have O := (Own.new w 28 #[.int .i64 a, .int .i64 s, .int .i64 d])
  have HO := Lib.hid (O.alloc (.cells #[.int .i64 0, .int .i64 0, .int .i64 0] 28))
  have HP := Lib.hid (Own.new2 w (.cells #[.int .i64 a, .int .i64 s, .int .i64 d] 28) 28 #[.int .i64 0, .int .i64 0, .int .i64 0])
  have HG := Lib.hid (((Grew.refl w).alloc (.cells #[.int .i64 a, .int .i64 s, .int .i64 d] 28)).alloc (.cells #[.int .i64 0, .int .i64 0, .int .i64 0] 28))
  have hs0 : w.heap.size ≤ w.heap.size := Nat.le_refl _
  have hs1 : w.heap.size ≤ w.heap.size + 1 := Nat.le_succ _
  have hne : w.heap.size + 1 ≠ w.heap.size := by omega
  clear O
  rcases hn with ⟨h1, rfl, rfl⟩ | ⟨h1, h2, rfl, rfl⟩ | ⟨h1, h2, h3, rfl, rfl⟩ | ⟨h1, h2, h3, rfl, rfl⟩
  · have H1 := Lib.hid h1
    clear h1
    go_enter Try.func11, Try.ntmps11
    go_wp2_with fail
    with_reducible refine (check_q H1.out).mono ?_
    rintro e w1 ⟨rfl, g1⟩
    have P1 := HP.out.grew g1
    have O1 := HO.out.grew g1
    obtain ⟨a0, a1, a2, a3, a4, a5⟩ := O1.three
    obtain ⟨c0, c1, c2, c3, c4, c5⟩ := P1.three
    have HP1 := Lib.hid P1
    have HO1 := Lib.hid O1
    have hl0 := O1.lt
    have hl1 := P1.lt
    have HG1 := Lib.hid (HG.out.trans g1)
    clear g1 P1 O1
    go_wp2
    generalize hw : World.setCell (World.setCell (World.setCell w1 _ _) _ _) _ _ = E
    obtain ⟨b0, b1, b2, -⟩ := (HP1.out.store3 hw).three
    refine bodyPost_ret (v := .tuple #[meV ⟨a, s, d⟩, .int .i64 1]) (by simp [results, Try.results11, go_sem, b0, b1, b2]) rfl ⟨rfl, ?_⟩
    exact HG1.out.far3 hw hs1
  · have H2 := Lib.hid (rgM_cases h2)
    clear h2
    rcases H2.out with h2 | ⟨h2, h3⟩ | ⟨h2, h3, h4⟩ | ⟨h2, h3, h4, h5⟩
    all_goals
      clear H2
      simp only at h2
      have H1 := Lib.hid h1
      clear h1
      go_enter Try.func11, Try.ntmps11
      go_wp2_with fail
      with_reducible refine (check_q H1.out).mono ?_
      rintro e w1 ⟨rfl, g1⟩
      have P1 := HP.out.grew g1
      have O1 := HO.out.grew g1
      obtain ⟨a0, a1, a2, a3, a4, a5⟩ := O1.three
      obtain ⟨c0, c1, c2, c3, c4, c5⟩ := P1.three
      have HP1 := Lib.hid P1
      have HO1 := Lib.hid O1
      have hl0 := O1.lt
      have hl1 := P1.lt
      have HG1 := Lib.hid (HG.out.trans g1)
      clear g1 P1 O1
      go_wp2
      generalize hw : World.setCell (World.setCell (World.setCell w1 _ _) _ _) _ _ = E
      obtain ⟨b0, b1, b2, -⟩ := (HP1.out.store3 hw).three
      refine bodyPost_ret (v := .tuple #[meV ⟨a, s, d⟩, .int .i64 2]) (by simp [results, Try.results11, go_sem, b0, b1, b2]) rfl ⟨rfl, ?_⟩
      exact HG1.out.far3 hw hs1
  · have HB : Hid ((0 ≤ a ∧ a ≤ 256000000) ∧ (0 ≤ d ∧ d ≤ 256000000) ∧ (0 ≤ s ∧ s ≤ 1000000)) := Lib.hid (okM_iff.1 h1)
    obtain ⟨⟨k1, k2⟩, k3, k4⟩ := rgM_t h2
    simp only at h3 k1
    obtain ⟨⟨l1, l2⟩, ⟨l3, l4⟩, l5, l6⟩ := HB.out
    obtain ⟨t, ht⟩ : ∃ t, n - s = t := ⟨_, rfl⟩
    obtain ⟨D, hD⟩ : ∃ D, d + p = D := ⟨_, rfl⟩
    have n0 : wrap64 (n - s) = t := (num_tkw l5 k1 k2).trans ht
    have n1 : wrap64 (d + p) = D := (num_dnw l3 l4 k3 k4).trans hD
    have n2 : wrap64 (3 * a) = 3 * a := num_3w l1 l2
    rw [ht] at h3
    have HT := Lib.hid ht
    clear h2 ht
    by_cases hc : D ≤ 256000000
    · have m1 : wrap64 (D * 256) = D * 256 := num_256w (D := D) (by omega) hc
      have HY : Hid (dnM ⟨a, s, d⟩ p = D) := Lib.hid (by unfold dnM; simp only; omega)
      clear hD l1 l2 l3 l4 l5 l6
      have H1 := Lib.hid h1
      clear h1
      go_enter Try.func11, Try.ntmps11
      go_wp2_with fail
      with_reducible refine (check_q H1.out).mono ?_
      rintro e w1 ⟨rfl, g1⟩
      have P1 := HP.out.grew g1
      have O1 := HO.out.grew g1
      obtain ⟨a0, a1, a2, a3, a4, a5⟩ := O1.three
      obtain ⟨c0, c1, c2, c3, c4, c5⟩ := P1.three
      have HP1 := Lib.hid P1
      have HO1 := Lib.hid O1
      have hl0 := O1.lt
      have hl1 := P1.lt
      have HG1 := Lib.hid (HG.out.trans g1)
      clear g1 P1 O1
      go_wp2
      rw [HY.out]
      generalize hq : World.setCell w1 ⟨w.heap.size, 2, none⟩ (.int .i64 D) = wq
      have HPQ := Lib.hid (Own.far HP1.out (p := ⟨w.heap.size, 2, none⟩) hne (.int .i64 D))
      have HGQ := Lib.hid (Grew.set HG1.out (p := ⟨w.heap.size, 2, none⟩) hs0 (.int .i64 D))
      rw [hq] at HPQ HGQ
      generalize hw : World.setCell (World.setCell (World.setCell wq _ _) _ _) _ _ = E
      obtain ⟨b0, b1, b2, -⟩ := (HPQ.out.store3 hw).three
      refine bodyPost_ret (v := .tuple #[meV ⟨a, s, D⟩, .int .i64 0]) (by simp [results, Try.results11, go_sem, b0, b1, b2]) rfl ⟨rfl, ?_⟩
      exact HGQ.out.far3 hw hs1
    · have HY : Hid (dnM ⟨a, s, d⟩ p = 256000000) := Lib.hid (by unfold dnM; simp only; omega)
      clear hD l1 l2 l3 l4 l5 l6
      have H1 := Lib.hid h1
      clear h1
      go_enter Try.func11, Try.ntmps11
      go_wp2_with fail
      with_reducible refine (check_q H1.out).mono ?_
      rintro e w1 ⟨rfl, g1⟩
      have P1 := HP.out.grew g1
      have O1 := HO.out.grew g1
      obtain ⟨a0, a1, a2, a3, a4, a5⟩ := O1.three
      obtain ⟨c0, c1, c2, c3, c4, c5⟩ := P1.three
      have HP1 := Lib.hid P1
      have HO1 := Lib.hid O1
      have hl0 := O1.lt
      have hl1 := P1.lt
      have HG1 := Lib.hid (HG.out.trans g1)
      clear g1 P1 O1
      go_wp2
      rw [HY.out]
      generalize hq : World.setCell w1 ⟨w.heap.size, 2, none⟩ (.int .i64 256000000) = wq
      have HPQ := Lib.hid (Own.far HP1.out (p := ⟨w.heap.size, 2, none⟩) hne (.int .i64 256000000))
      have HGQ := Lib.hid (Grew.set HG1.out (p := ⟨w.heap.size, 2, none⟩) hs0 (.int .i64 256000000))
      rw [hq] at HPQ HGQ
      generalize hw : World.setCell (World.setCell (World.setCell wq _ _) _ _) _ _ = E
      obtain ⟨b0, b1, b2, -⟩ := (HPQ.out.store3 hw).three
      refine bodyPost_ret (v := .tuple #[meV ⟨a, s, 256000000⟩, .int .i64 0]) (by simp [results, Try.results11, go_sem, b0, b1, b2]) rfl ⟨rfl, ?_⟩
      exact HGQ.out.far3 hw hs1
  · have HB : Hid ((0 ≤ a ∧ a ≤ 256000000) ∧ (0 ≤ d ∧ d ≤ 256000000) ∧ (0 ≤ s ∧ s ≤ 1000000)) := Lib.hid (okM_iff.1 h1)
    obtain ⟨⟨k1, k2⟩, k3, k4⟩ := rgM_t h2
    simp only at h3 k1
    obtain ⟨⟨l1, l2⟩, ⟨l3, l4⟩, l5, l6⟩ := HB.out
    obtain ⟨t, ht⟩ : ∃ t, n - s = t := ⟨_, rfl⟩
    obtain ⟨D, hD⟩ : ∃ D, d + p = D := ⟨_, rfl⟩
    have n0 : wrap64 (n - s) = t := (num_tkw l5 k1 k2).trans ht
    have n1 : wrap64 (d + p) = D := (num_dnw l3 l4 k3 k4).trans hD
    have n2 : wrap64 (3 * a) = 3 * a := num_3w l1 l2
    rw [ht] at h3
    have HT := Lib.hid ht
    clear h2 ht
    by_cases hc : D ≤ 256000000
    · have HY : Hid (dnM ⟨a, s, d⟩ p = D) := Lib.hid (by unfold dnM; simp only; omega)
      have HAV : Hid (avM ⟨a, s, d⟩ n p = min ((3 * a + D * 256 / t) / 4) 256000000) := Lib.hid (by unfold avM; rw [HY.out, ← HT.out])
      obtain ⟨X, hX⟩ : ∃ X, D * 256 = X := ⟨_, rfl⟩
      have m1 : wrap64 (D * 256) = X := (num_256w (D := D) (by omega) hc).trans hX
      rw [hX] at HAV
      have x0 : 0 ≤ X := by omega
      have x1 : X ≤ 65536000000 := by omega
      clear hX
      obtain ⟨Q, hQ⟩ : ∃ Q, X / t = Q := ⟨_, rfl⟩
      obtain ⟨q0, q1⟩ := quo_le (X := X) x0 h3
      have m2 : Int.tdiv X t = Q := (Int.tdiv_eq_ediv_of_nonneg x0).trans hQ
      rw [hQ] at q0 q1 HAV
      have m3 : wrap64 Q = Q := IntWalk.wrap64_in _ (by omega)
      obtain ⟨Y, hY⟩ : ∃ Y, 3 * a + Q = Y := ⟨_, rfl⟩
      have m4 : wrap64 (3 * a + Q) = Y := (IntWalk.wrap64_in _ (by omega)).trans hY
      rw [hY] at HAV
      have y0 : 0 ≤ Y := by omega
      have y1 : Y ≤ 70000000000 := by omega
      obtain ⟨Z, hZ⟩ : ∃ Z, Y / 4 = Z := ⟨_, rfl⟩
      have m5 : Int.tdiv Y 4 = Z := (Int.tdiv_eq_ediv_of_nonneg y0).trans hZ
      rw [hZ] at HAV
      have z0 : 0 ≤ Z := by omega
      have z1 : Z ≤ 70000000000 := by omega
      have m6 : wrap64 Z = Z := IntWalk.wrap64_in _ (by omega)
      clear hD l1 l2 l3 l4 l5 l6 hQ q0 q1 hY hZ y0 y1 x0 x1
      by_cases hz : Z ≤ 256000000
      · have HZ : Hid (avM ⟨a, s, d⟩ n p = Z) := Lib.hid (by rw [HAV.out]; omega)
        clear HAV z0 z1
        have H1 := Lib.hid h1
        clear h1
        go_enter Try.func11, Try.ntmps11
        go_wp2_with fail
        with_reducible refine (check_q H1.out).mono ?_
        rintro e w1 ⟨rfl, g1⟩
        have P1 := HP.out.grew g1
        have O1 := HO.out.grew g1
        obtain ⟨a0, a1, a2, a3, a4, a5⟩ := O1.three
        obtain ⟨c0, c1, c2, c3, c4, c5⟩ := P1.three
        have HP1 := Lib.hid P1
        have HO1 := Lib.hid O1
        have hl0 := O1.lt
        have hl1 := P1.lt
        have HG1 := Lib.hid (HG.out.trans g1)
        clear g1 P1 O1
        go_upto_region 8 with fail
        rw [n0]
        generalize hq : World.setCell w1 ⟨w.heap.size, 2, none⟩ (.int .i64 D) = wq
        have OQ := Own.set HO1.out 2 (.int .i64 D)
        have PQ := Own.far HP1.out (p := ⟨w.heap.size, 2, none⟩) hne (.int .i64 D)
        have GQ := Grew.set HG1.out (p := ⟨w.heap.size, 2, none⟩) hs0 (.int .i64 D)
        rw [hq] at OQ PQ GQ
        have OR : Own wq w.heap.size 28 #[.int .i64 a, .int .i64 s, .int .i64 D] := OQ
        clear a0 a1 a2 a3 a4 a5 c0 c1 c2 c3 c4 c5
        obtain ⟨a0, a1, a2, a3, a4, a5⟩ := OR.three
        obtain ⟨c0, c1, c2, c3, c4, c5⟩ := PQ.three
        go_region
        go_wp2
        rw [HZ.out]
        generalize hv : World.setCell (World.setCell (World.setCell wq _ _) _ _) _ _ = wv
        have PV := Own.far (Own.far (Own.far PQ (p := ⟨w.heap.size, 0, none⟩) hne (.int .i64 Z)) (p := ⟨w.heap.size, 2, none⟩) hne (.int .i64 0)) (p := ⟨w.heap.size, 1, none⟩) hne (.int .i64 n)
        have GV := Grew.set (Grew.set (Grew.set GQ (p := ⟨w.heap.size, 0, none⟩) hs0 (.int .i64 Z)) (p := ⟨w.heap.size, 2, none⟩) hs0 (.int .i64 0)) (p := ⟨w.heap.size, 1, none⟩) hs0 (.int .i64 n)
        rw [hv] at PV GV
        generalize hw : World.setCell (World.setCell (World.setCell wv _ _) _ _) _ _ = E
        obtain ⟨b0, b1, b2, -⟩ := (PV.store3 hw).three
        refine bodyPost_ret (v := .tuple #[meV ⟨Z, n, 0⟩, .int .i64 0]) (by simp [results, Try.results11, go_sem, b0, b1, b2]) rfl ⟨rfl, ?_⟩
        exact (GV.far3 hw hs1).drew
      · have HZ : Hid (avM ⟨a, s, d⟩ n p = 256000000) := Lib.hid (by rw [HAV.out]; omega)
        clear HAV z0 z1
        have H1 := Lib.hid h1
        clear h1
        go_enter Try.func11, Try.ntmps11
        go_wp2_with fail
        with_reducible refine (check_q H1.out).mono ?_
        rintro e w1 ⟨rfl, g1⟩
        have P1 := HP.out.grew g1
        have O1 := HO.out.grew g1
        obtain ⟨a0, a1, a2, a3, a4, a5⟩ := O1.three
        obtain ⟨c0, c1, c2, c3, c4, c5⟩ := P1.three
        have HP1 := Lib.hid P1
        have HO1 := Lib.hid O1
        have hl0 := O1.lt
        have hl1 := P1.lt
        have HG1 := Lib.hid (HG.out.trans g1)
        clear g1 P1 O1
        go_upto_region 8 with fail
        rw [n0]
        generalize hq : World.setCell w1 ⟨w.heap.size, 2, none⟩ (.int .i64 D) = wq
        have OQ := Own.set HO1.out 2 (.int .i64 D)
        have PQ := Own.far HP1.out (p := ⟨w.heap.size, 2, none⟩) hne (.int .i64 D)
        have GQ := Grew.set HG1.out (p := ⟨w.heap.size, 2, none⟩) hs0 (.int .i64 D)
        rw [hq] at OQ PQ GQ
        have OR : Own wq w.heap.size 28 #[.int .i64 a, .int .i64 s, .int .i64 D] := OQ
        clear a0 a1 a2 a3 a4 a5 c0 c1 c2 c3 c4 c5
        obtain ⟨a0, a1, a2, a3, a4, a5⟩ := OR.three
        obtain ⟨c0, c1, c2, c3, c4, c5⟩ := PQ.three
        go_region
        go_wp2
        rw [HZ.out]
        generalize hv : World.setCell (World.setCell (World.setCell wq _ _) _ _) _ _ = wv
        have PV := Own.far (Own.far (Own.far PQ (p := ⟨w.heap.size, 0, none⟩) hne (.int .i64 256000000)) (p := ⟨w.heap.size, 2, none⟩) hne (.int .i64 0)) (p := ⟨w.heap.size, 1, none⟩) hne (.int .i64 n)
        have GV := Grew.set (Grew.set (Grew.set GQ (p := ⟨w.heap.size, 0, none⟩) hs0 (.int .i64 256000000)) (p := ⟨w.heap.size, 2, none⟩) hs0 (.int .i64 0)) (p := ⟨w.heap.size, 1, none⟩) hs0 (.int .i64 n)
        rw [hv] at PV GV
        generalize hw : World.setCell (World.setCell (World.setCell wv _ _) _ _) _ _ = E
        obtain ⟨b0, b1, b2, -⟩ := (PV.store3 hw).three
        refine bodyPost_ret (v := .tuple #[meV ⟨256000000, n, 0⟩, .int .i64 0]) (by simp [results, Try.results11, go_sem, b0, b1, b2]) rfl ⟨rfl, ?_⟩
        exact (GV.far3 hw hs1).drew
    · have HY : Hid (dnM ⟨a, s, d⟩ p = 256000000) := Lib.hid (by unfold dnM; simp only; omega)
      have HAV : Hid (avM ⟨a, s, d⟩ n p = min ((3 * a + 256000000 * 256 / t) / 4) 256000000) := Lib.hid (by unfold avM; rw [HY.out, ← HT.out])
      obtain ⟨X, hX⟩ : ∃ X : Int, X = 65536000000 := ⟨_, rfl⟩
      rw [show (256000000 : Int) * 256 / t = X / t from by rw [hX]; rfl] at HAV
      have x0 : 0 ≤ X := by omega
      have x1 : X ≤ 65536000000 := by omega
      obtain ⟨Q, hQ⟩ : ∃ Q, X / t = Q := ⟨_, rfl⟩
      obtain ⟨q0, q1⟩ := quo_le (X := X) x0 h3
      have m2 : Int.tdiv X t = Q := (Int.tdiv_eq_ediv_of_nonneg x0).trans hQ
      rw [hQ] at q0 q1 HAV
      have m3 : wrap64 Q = Q := IntWalk.wrap64_in _ (by omega)
      obtain ⟨Y, hY⟩ : ∃ Y, 3 * a + Q = Y := ⟨_, rfl⟩
      have m4 : wrap64 (3 * a + Q) = Y := (IntWalk.wrap64_in _ (by omega)).trans hY
      rw [hY] at HAV
      have y0 : 0 ≤ Y := by omega
      have y1 : Y ≤ 70000000000 := by omega
      obtain ⟨Z, hZ⟩ : ∃ Z, Y / 4 = Z := ⟨_, rfl⟩
      have m5 : Int.tdiv Y 4 = Z := (Int.tdiv_eq_ediv_of_nonneg y0).trans hZ
      rw [hZ] at HAV
      have z0 : 0 ≤ Z := by omega
      have z1 : Z ≤ 70000000000 := by omega
      have m6 : wrap64 Z = Z := IntWalk.wrap64_in _ (by omega)
      clear hD l1 l2 l3 l4 l5 l6 hQ q0 q1 hY hZ y0 y1 x0 x1
      subst hX
      by_cases hz : Z ≤ 256000000
      · have HZ : Hid (avM ⟨a, s, d⟩ n p = Z) := Lib.hid (by rw [HAV.out]; omega)
        clear HAV z0 z1
        have H1 := Lib.hid h1
        clear h1
        go_enter Try.func11, Try.ntmps11
        go_wp2_with fail
        with_reducible refine (check_q H1.out).mono ?_
        rintro e w1 ⟨rfl, g1⟩
        have P1 := HP.out.grew g1
        have O1 := HO.out.grew g1
        obtain ⟨a0, a1, a2, a3, a4, a5⟩ := O1.three
        obtain ⟨c0, c1, c2, c3, c4, c5⟩ := P1.three
        have HP1 := Lib.hid P1
        have HO1 := Lib.hid O1
        have hl0 := O1.lt
        have hl1 := P1.lt
        have HG1 := Lib.hid (HG.out.trans g1)
        clear g1 P1 O1
        go_upto_region 8 with fail
        rw [n0]
        generalize hq : World.setCell w1 ⟨w.heap.size, 2, none⟩ (.int .i64 256000000) = wq
        have OQ := Own.set HO1.out 2 (.int .i64 256000000)
        have PQ := Own.far HP1.out (p := ⟨w.heap.size, 2, none⟩) hne (.int .i64 256000000)
        have GQ := Grew.set HG1.out (p := ⟨w.heap.size, 2, none⟩) hs0 (.int .i64 256000000)
        rw [hq] at OQ PQ GQ
        have OR : Own wq w.heap.size 28 #[.int .i64 a, .int .i64 s, .int .i64 256000000] := OQ
        clear a0 a1 a2 a3 a4 a5 c0 c1 c2 c3 c4 c5
        obtain ⟨a0, a1, a2, a3, a4, a5⟩ := OR.three
        obtain ⟨c0, c1, c2, c3, c4, c5⟩ := PQ.three
        go_region
        go_wp2
        rw [HZ.out]
        generalize hv : World.setCell (World.setCell (World.setCell wq _ _) _ _) _ _ = wv
        have PV := Own.far (Own.far (Own.far PQ (p := ⟨w.heap.size, 0, none⟩) hne (.int .i64 Z)) (p := ⟨w.heap.size, 2, none⟩) hne (.int .i64 0)) (p := ⟨w.heap.size, 1, none⟩) hne (.int .i64 n)
        have GV := Grew.set (Grew.set (Grew.set GQ (p := ⟨w.heap.size, 0, none⟩) hs0 (.int .i64 Z)) (p := ⟨w.heap.size, 2, none⟩) hs0 (.int .i64 0)) (p := ⟨w.heap.size, 1, none⟩) hs0 (.int .i64 n)
        rw [hv] at PV GV
        generalize hw : World.setCell (World.setCell (World.setCell wv _ _) _ _) _ _ = E
        obtain ⟨b0, b1, b2, -⟩ := (PV.store3 hw).three
        refine bodyPost_ret (v := .tuple #[meV ⟨Z, n, 0⟩, .int .i64 0]) (by simp [results, Try.results11, go_sem, b0, b1, b2]) rfl ⟨rfl, ?_⟩
        exact (GV.far3 hw hs1).drew
      · have HZ : Hid (avM ⟨a, s, d⟩ n p = 256000000) := Lib.hid (by rw [HAV.out]; omega)
        clear HAV z0 z1
        have H1 := Lib.hid h1
        clear h1
        go_enter Try.func11, Try.ntmps11
        go_wp2_with fail
        with_reducible refine (check_q H1.out).mono ?_
        rintro e w1 ⟨rfl, g1⟩
        have P1 := HP.out.grew g1
        have O1 := HO.out.grew g1
        obtain ⟨a0, a1, a2, a3, a4, a5⟩ := O1.three
        obtain ⟨c0, c1, c2, c3, c4, c5⟩ := P1.three
        have HP1 := Lib.hid P1
        have HO1 := Lib.hid O1
        have hl0 := O1.lt
        have hl1 := P1.lt
        have HG1 := Lib.hid (HG.out.trans g1)
        clear g1 P1 O1
        go_upto_region 8 with fail
        rw [n0]
        generalize hq : World.setCell w1 ⟨w.heap.size, 2, none⟩ (.int .i64 256000000) = wq
        have OQ := Own.set HO1.out 2 (.int .i64 256000000)
        have PQ := Own.far HP1.out (p := ⟨w.heap.size, 2, none⟩) hne (.int .i64 256000000)
        have GQ := Grew.set HG1.out (p := ⟨w.heap.size, 2, none⟩) hs0 (.int .i64 256000000)
        rw [hq] at OQ PQ GQ
        have OR : Own wq w.heap.size 28 #[.int .i64 a, .int .i64 s, .int .i64 256000000] := OQ
        clear a0 a1 a2 a3 a4 a5 c0 c1 c2 c3 c4 c5
        obtain ⟨a0, a1, a2, a3, a4, a5⟩ := OR.three
        obtain ⟨c0, c1, c2, c3, c4, c5⟩ := PQ.three
        go_region
        go_wp2
        rw [HZ.out]
        generalize hv : World.setCell (World.setCell (World.setCell wq _ _) _ _) _ _ = wv
        have PV := Own.far (Own.far (Own.far PQ (p := ⟨w.heap.size, 0, none⟩) hne (.int .i64 256000000)) (p := ⟨w.heap.size, 2, none⟩) hne (.int .i64 0)) (p := ⟨w.heap.size, 1, none⟩) hne (.int .i64 n)
        have GV := Grew.set (Grew.set (Grew.set GQ (p := ⟨w.heap.size, 0, none⟩) hs0 (.int .i64 256000000)) (p := ⟨w.heap.size, 2, none⟩) hs0 (.int .i64 0)) (p := ⟨w.heap.size, 1, none⟩) hs0 (.int .i64 n)
        rw [hv] at PV GV
        generalize hw : World.setCell (World.setCell (World.setCell wv _ _) _ _) _ _ = E
        obtain ⟨b0, b1, b2, -⟩ := (PV.store3 hw).three
        refine bodyPost_ret (v := .tuple #[meV ⟨256000000, n, 0⟩, .int .i64 0]) (by simp [results, Try.results11, go_sem, b0, b1, b2]) rfl ⟨rfl, ?_⟩
        exact (GV.far3 hw hs1).drew
end Go.Proofs.Ytofeeaekdgpmlaa
