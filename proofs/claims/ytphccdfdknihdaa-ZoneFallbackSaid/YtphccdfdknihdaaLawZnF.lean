/- ZoneFallback holds: a frame is taken from the preferred zone or a lower one, from a lower one only if the higher ones have nothing above their reserve. -/
import Derived.Test.YtphccdfdknihdaaZm1
import Derived.StillTailTactics
namespace Go.Mine
open Go Go.RowKit
/-- A frame of one zone is in no other. -/
theorem in_one {L : List Zo} {i j : Nat} {f : Int} (hok : okB L = true) (hi : i < L.length) (hj : j < L.length) (h1 : (L.getD i zoZ).f ≤ f) (h2 : f < (L.getD i zoZ).f + (L.getD i zoZ).s) (hne : j ≠ i) : f < (L.getD j zoZ).f ∨ (L.getD j zoZ).f + (L.getD j zoZ).s ≤ f := by
  by_cases a : f < (L.getD j zoZ).f
  · exact .inl a
  · by_cases b : (L.getD j zoZ).f + (L.getD j zoZ).s ≤ f
    · exact .inr b
    · exact absurd (zone_one (okB_iff.1 hok).2 (getZ hj) (getZ hi) (by omega) (by omega) h1 h2) hne
end Go.Mine
namespace Go.Proofs.Ytphccdfdknihdaa
open Go.ChangeShapes Go.WideShapes Go.ChangeAt Go.RowKit Go.Mine

set_option maxRecDepth 100000 in
set_option maxHeartbeats 8000000 in
theorem zfal_core (A : Option Addr) (c : Nat) (xs : List Int) (u : Bool) (w : World) (hr : IntRow w A xs) (hm : xs.length ≤ maxLen) :
    Calls Try.prog 7 #[.slice A xs.length c, .bool u] w (RetG (.bool true) w) := by
  have tp := Tp.made hr hm c 25
  have gA := (Grew.refl w).alloc (.cells #[.slice A xs.length c, .int .i64 0] 25)
  have hbw : w.heap.size + 1 ≤ (w.alloc (.cells #[.slice A xs.length c, .int .i64 0] 25)).heap.size := by simp
  clear hr hm
  generalize hX : xs.length = X at *
  clear hX
  go_enter Try.func7, Try.ntmps7
  go_wp2_with fail
  with_reducible refine (zones_x tp hbw).mono ?_
  rintro e w1 ⟨v1, L, rfl, HOK, hL3, Z1, T1, G1⟩
  have HZ1 := Lib.hid Z1
  have HT1 := Lib.hid T1
  have HG1 := Lib.hid (gA.past G1 (Nat.le_refl _))
  have HO := Lib.hid HOK
  have HSM := Lib.hid (ok_small HOK)
  have hN1 : 1 ≤ L.length := (okB_iff.1 HOK).1
  obtain ⟨N, hN⟩ : ∃ N, L.length = N := ⟨_, rfl⟩
  have HN := Lib.hid hN
  obtain ⟨a1, c1, rfl⟩ := HZ1.out.slice
  rw [hN] at hL3 hN1 HZ1 ⊢
  clear Z1 T1 G1 gA tp hbw HOK hN
  go_wp2_with fail
  with_reducible refine (next_x _ _ _ _ (by omega) (by omega) HT1.out).mono ?_
  rintro e w2 ⟨q, q0, q1, rfl, -, g2⟩
  obtain ⟨p, rfl⟩ := Int.eq_ofNat_of_zero_le q0
  have HZ2 : Hid (ZsR w2 (fun _ => True) (.slice a1 N c1) L) := Lib.hid ((past_r HZ1.out g2 (fun x hx _ => by have h : _ ≤ x := hx; simp at h; omega)).mono fun _ _ _ => trivial)
  have HG2 := Lib.hid (HG1.out.past g2 (Nat.le_refl _))
  have hpN : p < N := by omega
  clear g2 q0 q1 HT1 HG1 HZ1
  go_wp2_with fail
  with_reducible refine (take_p HZ2.out HSM.out).mono ?_
  intro e w3 h
  have hrange : 0 ≤ (p : Int) ∧ (p : Int) < (L.length : Int) := by rw [HN.out]; omega
  cases hf : fromZ u L (p + 1) with
  | none =>
    obtain ⟨v3, rfl, -, G3⟩ := h.split (takX_3 (u := u) HO.out hrange (by simpa using hf))
    have HZ3 := Lib.hid (HZ2.out.grew G3)
    have HG3 := Lib.hid (HG2.out.trans G3)
    have HNO := Lib.hid (fun j (hj : j < p + 1) (hjN : j < L.length) => fromZ_none hf j hj _ (getZ hjN))
    clear h G3 HZ2 HG2 hrange hf
    go_wp2_with fail
    go_loopw [11] (fun iv wr => ∃ (k : Nat) (q : Int), iv = .int .i64 q ∧ q = (k : Int) - 1 ∧ k ≤ N ∧ Grew w3 wr) (fun iv _ => (intOf iv + 1).toNat)
    case atStart => exact ⟨N, _, rfl, by omega, by omega, Grew.refl _⟩
    case round =>
      obtain ⟨k, q, rfl, hq, hk, G⟩ := hrel
      obtain ⟨wo, rfl⟩ : ∃ wo : World, wo = wr := ⟨_, rfl⟩
      have HG := Lib.hid (HG3.out.trans G)
      have HZ := Lib.hid (HZ3.out.grew G)
      have HG0 := Lib.hid G
      clear G
      by_cases hk0 : k = 0
      · subst hk0
        obtain rfl : q = -1 := by omega
        clear hq
        go_wp2_with fail
        with_reducible refine (awake_any _).mono ?_
        rintro e w7 ⟨rfl, g7⟩
        have HG7 := Lib.hid (HG.out.trans g7)
        clear g7
        go_wp2
        go_ret
        exact ⟨by simp, HG7.out⟩
      · obtain ⟨j, rfl⟩ : ∃ j, k = j + 1 := ⟨k - 1, by omega⟩
        obtain rfl : q = (j : Int) := by omega
        clear hq
        have hjL : j < L.length := by rw [HN.out]; omega
        have hi0 : (0 : Int) ≤ (j : Int) := by omega
        have hi1 : (j : Int) < (N : Int) := by omega
        obtain ⟨g, a', c', rfl, -, hg, x0, x1, x2, -, -, x5, -, -⟩ := HZ.out.at_ hjL
        have hfr := HSM.out.2 j hjL
        have HH : Hid (j ≤ p → hasZ u (L.getD j zoZ) = false) := Lib.hid fun h => HNO.out j (by omega) hjL
        obtain ⟨⟨zf, zs, zm, zl, zh, fr⟩, hzd⟩ : ∃ z, L.getD j zoZ = z := ⟨_, rfl⟩
        rw [hzd] at x0 x1 x2 x5 hfr HH
        simp only at x0 x1 x2 x5 hfr
        obtain ⟨m, hm⟩ : ∃ m, fr.length = m := ⟨_, rfl⟩
        have HM := Lib.hid hm
        rw [hm] at x5 hfr
        clear hzd hm
        have hcase : (j ≤ p ∧ ¬zm < (m : Int) ∧ u = true ∧ ¬0 < m) ∨ (j ≤ p ∧ ¬zm < (m : Int) ∧ u = false) ∨ (p < j ∧ zm < (m : Int)) ∨ (p < j ∧ ¬zm < (m : Int) ∧ u = true ∧ 0 < m) ∨ (p < j ∧ ¬zm < (m : Int) ∧ u = true ∧ ¬0 < m) ∨ (p < j ∧ ¬zm < (m : Int) ∧ u = false) := by
          have hno : j ≤ p → ¬zm < (m : Int) ∧ (u = true → ¬0 < m) := fun h => by
            have h1 := HH.out h
            unfold hasZ at h1
            rw [Bool.or_eq_false_iff, decide_eq_false_iff_not] at h1
            refine ⟨fun h2 => h1.1 (by show zm < (fr.length : Int); rw [HM.out]; exact h2), fun h2 => ?_⟩
            have h3 := h1.2
            rw [h2, Bool.true_and, decide_eq_false_iff_not] at h3
            have h4 : ¬0 < fr.length := h3
            rw [HM.out] at h4
            exact h4
          by_cases a : j ≤ p
          · obtain ⟨b, d⟩ := hno a
            cases u
            · exact .inr (.inl ⟨a, b, rfl⟩)
            · exact .inl ⟨a, b, rfl, d rfl⟩
          · have a2 : p < j := by omega
            by_cases b : zm < (m : Int)
            · exact .inr (.inr (.inl ⟨a2, b⟩))
            · cases u
              · exact .inr (.inr (.inr (.inr (.inr ⟨a2, b, rfl⟩))))
              · by_cases d : 0 < m
                · exact .inr (.inr (.inr (.inl ⟨a2, b, rfl, d⟩)))
                · exact .inr (.inr (.inr (.inr (.inl ⟨a2, b, rfl, d⟩))))
        clear HH HNO hg
        rcases hcase with ⟨t1, t2, rfl, t3⟩ | ⟨t1, t2, rfl⟩ | ⟨t1, t2⟩ | ⟨t1, t2, rfl, t3⟩ | ⟨t1, t2, rfl, t3⟩ | ⟨t1, t2, rfl⟩
        all_goals
          go_upto_region 8 with fail
          go_quiet (fail)
          revert nq; intro nq1
          go_upto_region 9 with fail
          go_quiet (fail)
          revert nq; intro nq2
          have HGd := Lib.hid (HG0.out.drewN (nq1 + nq2))
          go_wp2_with fail
          go_roundw
          case rel => exact ⟨j, (j : Int) - 1, by go_num, by omega, by omega, HGd.out⟩
          case measure => simp [intOf] <;> omega
  | some i =>
    obtain ⟨v3, rfl, Z3, G3⟩ := h.split (takX_0 (u := u) HO.out hrange (by simpa using hf))
    have HZ3 := Lib.hid (HZ2.out.grew G3)
    have HY3 := Lib.hid Z3
    have HG3 := Lib.hid (HG2.out.trans G3)
    obtain ⟨hip, z0, hz0, hh0, hno0⟩ := fromZ_some hf
    have hiL := fromZ_lt hf
    have hz0d : L.getD i zoZ = z0 := by rw [List.getD, hz0]; rfl
    obtain ⟨nx, hnx, hzok⟩ := ok_at HO.out hiL
    rw [hz0d] at hzok
    have hpos : 0 < z0.fr.length := by
      have h0 : 0 ≤ z0.mn := hzok.2.2.2.1
      unfold hasZ at hh0
      rw [Bool.or_eq_true, Bool.and_eq_true, decide_eq_true_iff, decide_eq_true_iff] at hh0
      rcases hh0 with hh0 | ⟨-, hh0⟩
      · omega
      · exact hh0
    obtain ⟨x, xs', hfx⟩ : ∃ x xs', z0.fr = x :: xs' := by
      cases hq : z0.fr with
      | nil => rw [hq] at hpos; exact absurd hpos (by simp)
      | cons x xs' => exact ⟨x, xs', rfl⟩
    have hx := hzok.2.2.2.2.2.2.2.1 x (by rw [hfx]; exact List.mem_cons_self)
    have HNO := Lib.hid (fun j (h1 : i < j) (h2 : j < p + 1) (hjN : j < L.length) => hno0 j h1 h2 _ (getZ hjN))
    have hf0 : (frI L i).getD 0 0 = x := by unfold frI; rw [hz0d, hfx]; rfl
    have HIN := Lib.hid (fun j (hj : j < L.length) (hne : j ≠ i) => in_one (f := x) HO.out hiL hj (by rw [hz0d]; exact hx.1) (by rw [hz0d]; exact hx.2) hne)
    have HZI : Hid (L.getD i zoZ = z0 ∧ z0.fr = x :: xs' ∧ hasZ u z0 = true ∧ z0.f ≤ x ∧ x < z0.f + z0.s) := Lib.hid ⟨hz0d, hfx, hh0, hx.1, hx.2⟩
    rw [hf0]
    have hipN : i ≤ p := by omega
    clear h G3 Z3 HZ2 HG2 hrange hf hno0 hz0 hh0 hz0d hzok hpos hfx hx hf0 hnx hip
    go_wp2_with fail
    go_loopw [11] (fun iv wr => ∃ (k : Nat) (q : Int), iv = .int .i64 q ∧ q = (k : Int) - 1 ∧ k ≤ N ∧ i < k ∧ Grew w3 wr) (fun iv _ => (intOf iv + 1).toNat)
    case atStart => exact ⟨N, _, rfl, by omega, by omega, by rw [← HN.out]; exact hiL, Grew.refl _⟩
    case round =>
      obtain ⟨k, q, rfl, hq, hk, hik, G⟩ := hrel
      obtain ⟨wo, rfl⟩ : ∃ wo : World, wo = wr := ⟨_, rfl⟩
      have HG := Lib.hid (HG3.out.trans G)
      have HZ := Lib.hid (HZ3.out.grew G)
      have HY := Lib.hid (HY3.out.grew G)
      have HG0 := Lib.hid G
      clear G
      obtain ⟨j, rfl⟩ : ∃ j, k = j + 1 := ⟨k - 1, by omega⟩
      obtain rfl : q = (j : Int) := by omega
      clear hq
      have hjL : j < L.length := by rw [HN.out]; omega
      have hi0 : (0 : Int) ≤ (j : Int) := by omega
      have hi1 : (j : Int) < (N : Int) := by omega
      by_cases hji : j = i
      · subst hji
        obtain ⟨hzd, hfx, hhas, hx1, hx2⟩ := HZI.out
        obtain ⟨g, a', c', rfl, -, hg, x0, x1, x2, -, -, x5, hri, -⟩ := HZ.out.at_ hjL
        have hlY : (setF L j ((frI L j).drop 1)).length = N := by rw [setF_len, HN.out]
        obtain ⟨aY, cY, rfl⟩ := HY.out.slice
        obtain ⟨gY, bY, dY, rfl, -, hgY, -, -, -, -, -, y5, -, -⟩ := HY.out.at_ (k := j) (by rw [hlY, ← HN.out]; exact hjL)
        have hfr := HSM.out.2 j hjL
        have hgy : (setF L j ((frI L j).drop 1)).getD j zoZ = { L.getD j zoZ with fr := (frI L j).drop 1 } := by unfold setF; simp [List.getD, hjL]
        have hfi : (frI L j).drop 1 = xs' := by unfold frI; rw [hzd, hfx]; rfl
        rw [hgy, hfi] at y5
        rw [hlY]
        have hzb : 1 ≤ (L.getD j zoZ).f ∧ 1 ≤ (L.getD j zoZ).s ∧ (L.getD j zoZ).f + (L.getD j zoZ).s ≤ 65 := by
          obtain ⟨nx, h1, h2⟩ := ok_at HO.out hjL
          obtain ⟨b1, b2, b3, -⟩ := h2
          omega
        rw [hzd] at x0 x1 x2 x5 hri hfr hzb
        rw [hfx] at x5 hri hfr
        have hri2 := hri.at_ (k := 0) (by simp)
        obtain ⟨gf, of, rfl, -, hgf, r0⟩ := hri2
        rw [Nat.add_zero] at r0
        have HR0 : Hid (wo.cell? ⟨gf, of, none⟩ = some (.int .i64 x)) := Lib.hid r0
        replace r0 := HR0.out
        obtain ⟨zf, zs, zm, zl, zh, fr⟩ := z0
        simp only at x0 x1 x2 x5 y5 hx1 hx2 hzb hfx
        simp only [List.length_cons] at x5 hfr
        obtain ⟨m, hm⟩ : ∃ m, xs'.length = m := ⟨_, rfl⟩
        rw [hm] at x5 hfr y5
        obtain ⟨zb1, zb2, zb3⟩ := hzb
        have hjp : (j : Int) ≤ (p : Int) := by omega
        have hjp2 : j ≤ p := by omega
        have hor : zm < (m : Int) + 1 ∨ (¬zm < (m : Int) + 1 ∧ u = true) := by
          unfold hasZ at hhas
          rw [Bool.or_eq_true, Bool.and_eq_true, decide_eq_true_iff, decide_eq_true_iff] at hhas
          by_cases b : zm < (m : Int) + 1
          · exact .inl b
          · rcases hhas with h1 | ⟨h1, -⟩
            · exact absurd (show zm < (m : Int) + 1 by have h2 : zm < (fr.length : Int) := h1; rw [hfx, List.length_cons, hm] at h2; omega) b
            · exact .inr ⟨b, h1⟩
        clear hri hhas hzd hfx hgy hfi hm hlY HNO HIN HZI hipN
        have hm0 : (0 : Int) ≤ (m : Int) := by omega
        rcases hor with t1 | ⟨t1, rfl⟩
        all_goals
          go_upto_region 8 with fail
          go_quiet (fail)
          revert nq; intro nq1
          have y0 : (wo.drewN nq1).cell? ⟨g, j * 6, none⟩ = some (.int .i64 zf) := x0
          have y1 : (wo.drewN nq1).cell? ⟨g, j * 6 + 1, none⟩ = some (.int .i64 zs) := x1
          have ya : (wo.drewN nq1).cell? ⟨g, j * 6 + 5, none⟩ = some (.slice (some ⟨gf, of, none⟩) (m + 1) c') := x5
          have yb : (wo.drewN nq1).cell? ⟨gY, j * 6 + 5, none⟩ = some (.slice bY m dY) := y5
          have yc : (wo.drewN nq1).cell? ⟨gf, of, none⟩ = some (.int .i64 x) := HR0.out
          have HGe := Lib.hid (HG.out.drewN nq1)
          clear x0 x1 x2 x5 y5 r0
          go_upto_region 9 with fail
          generalize World.drewN wo nq1 = wd at *
          go_quiet (fail)
          revert nq; intro nq2
          have zb : (wd.drewN nq2).cell? ⟨gY, j * 6 + 5, none⟩ = some (.slice bY m dY) := yb
          have za : (wd.drewN nq2).cell? ⟨g, j * 6 + 5, none⟩ = some (.slice (some ⟨gf, of, none⟩) (m + 1) c') := ya
          have zc : (wd.drewN nq2).cell? ⟨gf, of, none⟩ = some (.int .i64 x) := yc
          have HGf := Lib.hid (HGe.out.drewN nq2)
          clear y0 y1 ya yb yc
          go_upto_region 13 with fail
          generalize World.drewN wd nq2 = we at *
          have n1 : IntKind.i64.wrap (m : Int) = (m : Int) := by rw [IntKind.wrap_i64]; omega
          have HGd := Lib.hid HGf.out.drew
          go_still_tail 33, (by kernel_rfl)
          change wpList _ _ _ _ _ we.drew
          go_wp2_with fail
          with_reducible refine (awake_any _).mono ?_
          rintro e w7 ⟨rfl, g7⟩
          have HG7 := Lib.hid (HGd.out.trans g7)
          clear g7
          go_wp2
          go_ret
          exact ⟨by simp, HG7.out⟩
      · have hij : i < j := by omega
        have hk2 : i < j := hij
        obtain ⟨g, a', c', rfl, -, hg, x0, x1, x2, -, -, x5, -, -⟩ := HZ.out.at_ hjL
        have hfr := HSM.out.2 j hjL
        have hin := HIN.out j hjL hji
        have hzb : 1 ≤ (L.getD j zoZ).f ∧ 1 ≤ (L.getD j zoZ).s ∧ (L.getD j zoZ).f + (L.getD j zoZ).s ≤ 65 := by
          obtain ⟨nx, h1, h2⟩ := ok_at HO.out hjL
          obtain ⟨b1, b2, b3, -⟩ := h2
          omega
        have HH : Hid (j ≤ p → hasZ u (L.getD j zoZ) = false) := Lib.hid fun h => HNO.out j hij (by omega) hjL
        obtain ⟨⟨zf, zs, zm, zl, zh, fr⟩, hzd⟩ : ∃ z, L.getD j zoZ = z := ⟨_, rfl⟩
        rw [hzd] at x0 x1 x2 x5 hfr HH hin hzb
        simp only at x0 x1 x2 x5 hfr hin hzb
        obtain ⟨m, hm⟩ : ∃ m, fr.length = m := ⟨_, rfl⟩
        have HM := Lib.hid hm
        rw [hm] at x5 hfr
        obtain ⟨zb1, zb2, zb3⟩ := hzb
        clear hzd hm
        have hcase : (j ≤ p ∧ ¬zm < (m : Int) ∧ u = true ∧ ¬0 < m) ∨ (j ≤ p ∧ ¬zm < (m : Int) ∧ u = false) ∨ (p < j ∧ zm < (m : Int)) ∨ (p < j ∧ ¬zm < (m : Int) ∧ u = true ∧ 0 < m) ∨ (p < j ∧ ¬zm < (m : Int) ∧ u = true ∧ ¬0 < m) ∨ (p < j ∧ ¬zm < (m : Int) ∧ u = false) := by
          have hno : j ≤ p → ¬zm < (m : Int) ∧ (u = true → ¬0 < m) := fun h => by
            have h1 := HH.out h
            unfold hasZ at h1
            rw [Bool.or_eq_false_iff, decide_eq_false_iff_not] at h1
            refine ⟨fun h2 => h1.1 (by show zm < (fr.length : Int); rw [HM.out]; exact h2), fun h2 => ?_⟩
            have h3 := h1.2
            rw [h2, Bool.true_and, decide_eq_false_iff_not] at h3
            have h4 : ¬0 < fr.length := h3
            rw [HM.out] at h4
            exact h4
          by_cases a : j ≤ p
          · obtain ⟨b, d⟩ := hno a
            cases u
            · exact .inr (.inl ⟨a, b, rfl⟩)
            · exact .inl ⟨a, b, rfl, d rfl⟩
          · have a2 : p < j := by omega
            by_cases b : zm < (m : Int)
            · exact .inr (.inr (.inl ⟨a2, b⟩))
            · cases u
              · exact .inr (.inr (.inr (.inr (.inr ⟨a2, b, rfl⟩))))
              · by_cases d : 0 < m
                · exact .inr (.inr (.inr (.inl ⟨a2, b, rfl, d⟩)))
                · exact .inr (.inr (.inr (.inr (.inl ⟨a2, b, rfl, d⟩))))
        have hin2 : decide (zf ≤ x) = false ∨ (zf ≤ x ∧ zf + zs ≤ x) := by
          by_cases b : x < zf
          · exact .inl (decide_eq_false (by omega))
          · exact .inr ⟨by omega, by omega⟩
        clear HH hg hin
        rcases hin2 with t5 | ⟨t5, t6⟩ <;> rcases hcase with ⟨t1, t2, rfl, t3⟩ | ⟨t1, t2, rfl⟩ | ⟨t1, t2⟩ | ⟨t1, t2, rfl, t3⟩ | ⟨t1, t2, rfl, t3⟩ | ⟨t1, t2, rfl⟩
        all_goals
          go_upto_region 8 with fail
          go_quiet (fail)
          revert nq; intro nq1
          have y0 : (wo.drewN nq1).cell? ⟨g, j * 6, none⟩ = some (.int .i64 zf) := x0
          have y1 : (wo.drewN nq1).cell? ⟨g, j * 6 + 1, none⟩ = some (.int .i64 zs) := x1
          have HGe := Lib.hid (HG0.out.drewN nq1)
          clear x0 x1 x2 x5
          go_upto_region 9 with fail
          generalize World.drewN wo nq1 = wd at *
          go_quiet (fail)
          revert nq; intro nq2
          have HGd := Lib.hid (HGe.out.drewN nq2)
          go_wp2_with fail
          go_roundw
          case rel => exact ⟨j, (j : Int) - 1, by go_num, by omega, by omega, by omega, HGd.out⟩
          case measure => simp [intOf] <;> omega

theorem Try.own : ownKnob Try.prog.godebug = none := by kernel_rfl
theorem Try.laidOut : laidOutB Try.prog = true := by kernel_rfl

theorem zoneFallback_contract (W : World) (base : Nat) (args : Array Value) (H : Type) (enc : TypeId × Value → H) (ds : List (DataW H)) (p : List MemPlace)
    (hval : ∀ (j : Nat) t v, Try.f7.params[j]? = some t → args[j]? = some v → Value.okWide Try.prog W .any base t v)
    (hA : DataW.TrodAll enc Try.prog W 0 (fun _ => true) true Try.f7.params.toList args.toList ds p) :
    (∃ d0 d1, ds = [d0, d1]) ∧ Calls Try.prog 7 args W fun e W' => e = .returned (.bool true) ∧ Below W.heap.size W W' := by
  rw [Try.params7] at hval hA
  obtain ⟨v0, v1, d0, d1, p0, p1, ha, hd, hp, h0, h1⟩ := args_2 hA
  subst ha hd
  obtain ⟨A0, c0, xs0, rfl, hr0, hm0⟩ := open_introw Try.underlying22 Try.underlying3 (by kernel_rfl) (hval 0 _ _ rfl rfl) h0
  obtain ⟨v1, rfl, -, -⟩ := open_bool Try.underlying4 (hval 1 _ _ rfl rfl) h1
  exact ⟨⟨_, _, rfl⟩, (zfal_core A0 c0 xs0 v1 W hr0 hm0).mono fun _ _ h => h⟩

set_option maxRecDepth 100000 in
theorem zoneFallback_lifted (os : Os) (started : os.Started) (H : Type) (enc : TypeId × Value → H) :
    ReturnsInHanded {} Try.checked os 7 .any (Rows.zoneFallbackSpec.pre6 enc Try.prog Try.f7 Rows.zoneFallbackRow.domain false) (Rows.zoneFallbackSpec.post enc Try.prog Try.f7 false true false false) := by
  refine returnsInHanded_of_change (C := Try.checked) Try.own started (by kernel_rfl) Try.func7
    (ChangeSpec.witness6 (enc := enc) (C := Try.checked) false ⟨#[], #[.slice none 0 0, .bool false], []⟩ 8 (by kernel_rfl) (by kernel_rfl) (by kernel_rfl) (by kernel_rfl)) ?_
  intro W base args ds gs before hval hW _ _
  obtain ⟨p, q, hA, hV, hrest⟩ := id hW
  obtain ⟨⟨d0, d1, rfl⟩, hc⟩ := zoneFallback_contract W base args H enc ds p hval hA
  obtain ⟨rfl, -⟩ := trodVars_none hV
  refine hc.mono fun e W' ⟨he, hb⟩ => ⟨_, he, ?_⟩
  exact law_close (tb := 4) Try.laidOut (by rw [Try.params7]; decide +kernel) Try.underlying4 rfl rfl hW rfl rfl rfl hb

theorem zoneFallback_holds : Rows.ZoneFallbackSaid :=
  OpenClaim.holds_of_wide 7 Try.f7 rfl rfl rfl rfl rfl rfl rfl ⟨rfl, rfl, rfl, rfl, rfl⟩ rfl rfl rfl rfl rfl (by kernel_rfl) Try.func7 (by kernel_rfl)
    (of_decide_eq_true (by kernel_rfl)) (by unfold Func.isWrapper; first | (rw [if_pos (by decide +kernel)]; kernel_rfl) | (rw [if_neg (by decide +kernel)]; exact ⟨rfl, rfl⟩))
    (fun os started H enc _ => zoneFallback_lifted os started H enc)
end Go.Proofs.Ytphccdfdknihdaa
