/- GroupFair holds: just as many frames are taken as are asked for, or all; nothing below protections while a group has an excess; of two groups that lost something the remaining excesses differ by at most 1. -/
import Derived.Test.YtgcblkibnihplaaGl0
import Derived.StillTailTactics
namespace Go.Mine
open Go Go.RowKit
theorem sumD_same {a b : Nat → Int} : ∀ {m : Nat}, (∀ i, i < m → a i ≤ b i) → sumD b m ≤ sumD a m → ∀ i, i < m → b i ≤ a i
  | 0, _, _, i, hi => absurd hi (by omega)
  | m + 1, h, hs, i, hi => by
    have h1 := sumD_le (m := m) fun i hi => h i (by omega)
    have h2 := h m (by omega)
    have hs : sumD b m + b m ≤ sumD a m + a m := hs
    by_cases e : i = m
    · rw [e]; omega
    · exact sumD_same (m := m) (fun i hi => h i (by omega)) (by omega) i (by omega)
/-- Nothing is taken below protections while there is an excess. -/
theorem in_exc {L : List Gp} (h : okG L = true) {K : Nat} (hk : (K : Int) ≤ sumD (excF L) L.length) : ∀ i, i < L.length → divD L K i ≤ excF L i := by
  have hi := itD_inv (exc_ok h) K
  rcases hi.ph with h1 | h1
  · exact h1
  · have h2 : sumD (divD L K) L.length = min (K : Int) (sumD (chgF L) L.length) := itD_sum (exc_ok h) K
    exact sumD_same (a := excF L) (b := divD L K) h1 (by omega)
theorem fair_exc {L : List Gp} (h : okG L = true) {K : Nat} (hk : (K : Int) ≤ sumD (excF L) L.length) {i j : Nat} (hi : i < L.length) (hj : j < L.length) (h0 : 0 < divD L K i) : excF L j - divD L K j ≤ excF L i - divD L K i + 1 :=
  (itD_inv (exc_ok h) K).fair (in_exc h hk) i j hi hj h0
end Go.Mine
namespace Go.Proofs.Ytgcblkibnihplaa
open Go.ChangeShapes Go.WideShapes Go.ChangeAt Go.RowKit Go.Mine

set_option maxRecDepth 100000 in
set_option maxHeartbeats 16000000 in
theorem gfair_core (A : Option Addr) (c : Nat) (xs : List Int) (nn : Int) (w : World) (hr : IntRow w A xs) (hm : xs.length ≤ maxLen) (hw : (Lit.int .i64 nn).wf = true) :
    Calls Try.prog 3 #[.slice A xs.length c, .int .i64 nn] w (RetG (.bool true) w) := by
  have tp := Tp.made hr hm c 25
  have gA := (Grew.refl w).alloc (.cells #[.slice A xs.length c, .int .i64 0] 25)
  have hbw : w.heap.size + 1 ≤ (w.alloc (.cells #[.slice A xs.length c, .int .i64 0] 25)).heap.size := by simp
  clear hr hm hw
  generalize hX : xs.length = X at *
  clear hX
  go_enter Try.func3, Try.ntmps3
  go_wp2_with fail
  with_reducible refine (groups_x _ _ _ tp hbw).mono ?_
  rintro e w1 ⟨v1, L, rfl, hL1, hL4, R1, T1, G1⟩
  obtain ⟨a1, c1, rfl, -⟩ := R1.gps
  obtain ⟨N, hN⟩ : ∃ N, L.length = N := ⟨_, rfl⟩
  have HN := Lib.hid hN
  have HR1 := Lib.hid (R1.wider hbw)
  have HG1 := Lib.hid (gA.past G1 (Nat.le_refl _))
  have HL1000 : Hid (L.length ≤ 1000) := Lib.hid (by omega)
  rw [hN] at hL1 hL4 HR1 ⊢
  clear R1 G1 gA tp hN T1
  cases hok : okG L
  · have HO := Lib.hid hok
    clear hok
    go_wp2_with fail
    with_reducible refine (check_p HR1.out HL1000.out HO.out).mono ?_
    rintro e w2 ⟨rfl, g2⟩
    have HR2 := Lib.hid (HR1.out.grew g2)
    have HG2 := Lib.hid (HG1.out.trans g2)
    clear g2
    go_wp2_with fail
    with_reducible refine (divide_no HR2.out HL1000.out HO.out).mono ?_
    rintro e w4 ⟨rfl, g4⟩
    have HG4 := Lib.hid (HG2.out.trans g4)
    clear g4
    go_wp2_with fail
    with_reducible refine (awake_any _).mono ?_
    rintro e w7 ⟨rfl, g7⟩
    go_wp2
    go_ret
    exact ⟨rfl, HG4.out.trans g7⟩
  · have HO := Lib.hid hok
    clear hok
    go_wp2_with fail
    with_reducible refine (check_p HR1.out HL1000.out HO.out).mono ?_
    rintro e w2 ⟨rfl, g2⟩
    have HR2 := Lib.hid (HR1.out.grew g2)
    have HG2 := Lib.hid (HG1.out.trans g2)
    clear g2 HR1 HG1
    go_wp2_with fail
    with_reducible refine (cut_any nn 100 _ (by omega) (by omega)).mono ?_
    rintro e w3 ⟨rfl, rfl⟩
    obtain ⟨k0, k1⟩ := cut_lt nn 100 (by omega)
    generalize cut nn 100 = k at *
    obtain ⟨K, rfl⟩ := Int.eq_ofNat_of_zero_le k0
    have hK : K < 100 := by omega
    clear k0 k1
    go_wp2_with fail
    with_reducible refine (divide_p (k := K) HR2.out HO.out (by omega)).mono ?_
    intro e w4 h
    obtain ⟨gd, cd, rfl, hgd, hd, g4⟩ := h.split
    rw [HN.out] at hd ⊢
    have HD4 := Lib.hid hd
    have HR4 := Lib.hid (HR2.out.grew g4)
    have HG4 := Lib.hid (HG2.out.trans g4)
    clear h g4 hd HR2 HG2
    go_wp2_with fail
    go_loopw [9, 10, 11, 12, 13] (fun sv av ev lv iv wr => ∃ (i : Nat) (s al ex : Int) (lo : Bool), sv = .int .i64 s ∧ av = .int .i64 al ∧ ev = .int .i64 ex ∧ lv = .bool lo ∧ iv = .int .i64 i ∧ i ≤ N ∧ (0 ≤ s ∧ s ≤ 64 * (i : Int)) ∧ (0 ≤ al ∧ al ≤ 64 * (i : Int)) ∧ (0 ≤ ex ∧ ex ≤ 64 * (i : Int)) ∧
      Hid (s = sumD (divD L K) i) ∧ Hid (al = sumD (chgF L) i) ∧ Hid (ex = sumD (excF L) i) ∧ Hid (lo = true → ∃ j, j < i ∧ excF L j < divD L K j) ∧ Grew w4 wr) (fun _ _ _ _ iv _ => N - (intOf iv).toNat)
    case atStart => exact ⟨0, 0, 0, 0, false, rfl, rfl, rfl, rfl, rfl, by omega, by omega, by omega, by omega, Lib.hid rfl, Lib.hid rfl, Lib.hid rfl, Lib.hid (fun h => absurd h (by decide)), Grew.refl _⟩
    case round =>
      obtain ⟨i, s, al, ex, lo, rfl, rfl, rfl, rfl, rfl, hi, ⟨s0, s1⟩, ⟨al0, al1⟩, ⟨ex0, ex1⟩, HS, HAL, HEX, HLO, G⟩ := hrel
      obtain ⟨wo, rfl⟩ : ∃ wo : World, wo = wr := ⟨_, rfl⟩
      by_cases hlt : i < N
      · have hiL : i < L.length := by rw [HN.out]; exact hlt
        obtain ⟨-, g, rfl, -, hg, x0, x1, x2⟩ := (HR4.out.grew G).gat hiL
        have xd := (G.cells.1 gd i hgd).trans (HD4.out i hlt)
        have hgd0 : gd < wo.heap.size := Nat.lt_of_lt_of_le hgd G.size
        obtain ⟨da0, da1⟩ := divD_b HO.out K i (by omega)
        have hdc : divD L K i ≤ (L.getD i zG).c := ((itD_inv (exc_ok HO.out) K).lo i hiL).2
        have hokp := okG_at HO.out hiL
        have hex : excP (L.getD i zG) = excF L i := rfl
        have heb := exc_ok HO.out i hiL
        have hec := exc_64 HO.out i hiL
        have HS1 : Hid (sumD (divD L K) (i + 1) = sumD (divD L K) i + divD L K i) := Lib.hid rfl
        have HS2 : Hid (sumD (chgF L) (i + 1) = sumD (chgF L) i + (L.getD i zG).c) := Lib.hid rfl
        have HS3 : Hid (sumD (excF L) (i + 1) = sumD (excF L) i + excF L i) := Lib.hid rfl
        have HLO2 : Hid (lo = true ∨ excF L i < divD L K i → ∃ j, j < i + 1 ∧ excF L j < divD L K j) := Lib.hid (by
          rintro (h | h)
          · obtain ⟨j, h1, h2⟩ := HLO.out h
            exact ⟨j, by omega, h2⟩
          · exact ⟨i, by omega, h⟩)
        obtain ⟨di, hdi⟩ : ∃ di, divD L K i = di := ⟨_, rfl⟩
        obtain ⟨ei, hei⟩ : ∃ ei, excF L i = ei := ⟨_, rfl⟩
        have hcc : chgF L i = (L.getD i zG).c := rfl
        obtain ⟨⟨xl, xp, xc⟩, hx⟩ : ∃ x, L.getD i zG = x := ⟨_, rfl⟩
        rw [hcc] at hec heb
        rw [hx] at x0 x1 x2 hdc hokp hex hec heb HS2
        rw [hdi] at xd da0 da1 hdc HS1 HLO2
        rw [hei] at hex heb HS3 HLO2
        simp only at x0 x1 x2 hdc hec heb
        have HOKP := Lib.hid hokp
        have HE := Lib.hid hex
        have hi0 : (0 : Int) ≤ (i : Int) := by omega
        have hi1 : (i : Int) < (N : Int) := by omega
        have hx0 : 0 ≤ xc := hokp.2.2.2.2.1
        obtain ⟨e0, e01⟩ := heb
        have e1 : ei ≤ 64 := by omega
        have HG := Lib.hid G
        clear hokp hex hiL hdi hei hcc hx G
        go_upto_region 13 with fail
        have t1 : decide (di < 0) = false := decide_eq_false (by omega)
        have t2 : decide (xc < di) = false := decide_eq_false (by omega)
        go_quiet (fail)
        revert nq; intro nq1
        have y0 : (wo.drewN nq1).cell? ⟨g, i * 3, none⟩ = some (.int .i64 xl) := x0
        have y1 : (wo.drewN nq1).cell? ⟨g, i * 3 + 1, none⟩ = some (.int .i64 xp) := x1
        have y2 : (wo.drewN nq1).cell? ⟨g, i * 3 + 2, none⟩ = some (.int .i64 xc) := x2
        have yd : (wo.drewN nq1).cell? ⟨gd, i, none⟩ = some (.int .i64 di) := xd
        have hg2 : g < (wo.drewN nq1).heap.size := hg
        have hgd2 : gd < (wo.drewN nq1).heap.size := hgd0
        have HG2 := Lib.hid (HG.out.drewN nq1)
        clear x0 x1 x2 xd hg hgd0 HG
        go_upto_region 15 with fail
        generalize World.drewN wo nq1 = w5 at *
        have n1 : IntKind.i64.wrap (s + di) = s + di := IntWalk.i64_in _ (by omega)
        have n2 : IntKind.i64.wrap (al + xc) = al + xc := IntWalk.i64_in _ (by omega)
        have n3 : IntKind.i64.wrap (ex + ei) = ex + ei := IntWalk.i64_in _ (by omega)
        go_region_held3 (fun w' => w'.cell? ⟨g, i * 3, none⟩ = some (.int .i64 xl) ∧ w'.cell? ⟨g, i * 3 + 1, none⟩ = some (.int .i64 xp) ∧ w'.cell? ⟨g, i * 3 + 2, none⟩ = some (.int .i64 xc) ∧ w'.cell? ⟨gd, i, none⟩ = some (.int .i64 di))
          (refine ⟨?_, ?_, ?_, ?_⟩ <;> (repeat (first | with_reducible assumption | with_reducible refine far_drew ?_)))
          (first | (go_at_call 12; (with_reducible refine (excess_p (x := ⟨xl, xp, xc⟩) HOKP.out).mono ?_); rintro e w6 ⟨rfl, g6⟩; rw [HE.out]; have z0 := (g6.cells.1 g (i * 3) hg2).trans (far_drew y0); have z1 := (g6.cells.1 g (i * 3 + 1) hg2).trans (far_drew y1); have z2 := (g6.cells.1 g (i * 3 + 2) hg2).trans (far_drew y2); have zd := (g6.cells.1 gd i hgd2).trans (far_drew yd); have HG6 := Lib.hid (HG2.out.drew.trans g6); have hg6 := Nat.lt_of_lt_of_le hg2 g6.size; have hgd6 := Nat.lt_of_lt_of_le hgd2 g6.size; clear y0 y1 y2 yd))
        have HSS : Hid (s + di = sumD (divD L K) (i + 1)) := Lib.hid (by rw [HS1.out, ← HS.out])
        have HAA : Hid (al + xc = sumD (chgF L) (i + 1)) := Lib.hid (by rw [HS2.out, ← HAL.out])
        have HEE : Hid (ex + ei = sumD (excF L) (i + 1)) := Lib.hid (by rw [HS3.out, ← HEX.out])
        clear HS HAL HEX HS1 HS2 HS3 HLO HG2 hg2 hgd2
        cases lo
        · go_upto_region 16 with fail
          have hb1 : (false || decide (ei < di)) = decide (ei < di) := rfl
          go_region_held3 (fun w' => w'.cell? ⟨g, i * 3, none⟩ = some (.int .i64 xl) ∧ w'.cell? ⟨g, i * 3 + 1, none⟩ = some (.int .i64 xp) ∧ w'.cell? ⟨g, i * 3 + 2, none⟩ = some (.int .i64 xc) ∧ w'.cell? ⟨gd, i, none⟩ = some (.int .i64 di))
            (refine ⟨?_, ?_, ?_, ?_⟩ <;> (repeat (first | with_reducible assumption | with_reducible refine far_drew ?_)))
            (first | (go_at_call 12; (with_reducible refine (excess_p (x := ⟨xl, xp, xc⟩) HOKP.out).mono ?_); rintro e w7 ⟨rfl, g7⟩; rw [HE.out]; have y0 := (g7.cells.1 g (i * 3) hg6).trans (far_drew z0); have y1 := (g7.cells.1 g (i * 3 + 1) hg6).trans (far_drew z1); have y2 := (g7.cells.1 g (i * 3 + 2) hg6).trans (far_drew z2); have yd := (g7.cells.1 gd i hgd6).trans (far_drew zd); have HG7 := Lib.hid (HG6.out.drew.trans g7); clear z0 z1 z2 zd))
          cases hb : decide (ei < di)
          · go_wp2_with fail
            go_roundw
            case rel => exact ⟨i + 1, s + di, al + xc, ex + ei, false, rfl, rfl, rfl, rfl, by go_num, by omega, ⟨by omega, by omega⟩, ⟨by omega, by omega⟩, ⟨by omega, by omega⟩, HSS, HAA, HEE, Lib.hid (fun h => absurd h (by decide)), HG7.out⟩
            case measure => simp [intOf] <;> omega
          · have HLO3 := Lib.hid (HLO2.out (.inr (of_decide_eq_true hb)))
            go_wp2_with fail
            go_roundw
            case rel => exact ⟨i + 1, s + di, al + xc, ex + ei, true, rfl, rfl, rfl, rfl, by go_num, by omega, ⟨by omega, by omega⟩, ⟨by omega, by omega⟩, ⟨by omega, by omega⟩, HSS, HAA, HEE, Lib.hid (fun _ => HLO3.out), HG7.out⟩
            case measure => simp [intOf] <;> omega
        · go_upto_region 16 with fail
          have HLO3 := Lib.hid (HLO2.out (.inl rfl))
          go_quiet (fail)
          revert nq; intro nq2
          have HG7 := Lib.hid (HG6.out.drewN nq2)
          clear z0 z1 z2 zd
          go_wp2_with fail
          go_roundw
          case rel => exact ⟨i + 1, s + di, al + xc, ex + ei, true, rfl, rfl, rfl, rfl, by go_num, by omega, ⟨by omega, by omega⟩, ⟨by omega, by omega⟩, ⟨by omega, by omega⟩, HSS, HAA, HEE, Lib.hid (fun _ => HLO3.out), HG7.out⟩
          case measure => simp [intOf] <;> omega
      · obtain rfl : i = N := by omega
        have HRR := Lib.hid (HR4.out.grew G)
        have HDD := Lib.hid (fun j (hj : j < i) => (G.cells.1 gd j hgd).trans (HD4.out j hj))
        have hgdo : gd < wo.heap.size := Nat.lt_of_lt_of_le hgd G.size
        have HGG := Lib.hid (HG4.out.trans G)
        have hsum := divD_sum HO.out K
        rw [HN.out, ← HS.out, ← HAL.out] at hsum
        have HFA := Lib.hid (fun (hk : (K : Int) ≤ ex) (p q : Nat) (hp : p < i) (hq : q < i) (h0 : 0 < divD L K p) => fair_exc HO.out (K := K) (by rw [HN.out, ← HEX.out]; exact hk) (by rw [HN.out]; exact hp) (by rw [HN.out]; exact hq) h0)
        have HLW : Hid (lo = true → ex < (K : Int)) := Lib.hid fun h => by
          obtain ⟨j, h1, h2⟩ := HLO.out h
          by_cases hk : (K : Int) ≤ ex
          · have := in_exc HO.out (K := K) (by rw [HN.out, ← HEX.out]; exact hk) j (by rw [HN.out]; exact h1)
            omega
          · omega
        have hK0 : (0 : Int) ≤ (K : Int) := by omega
        clear HR4 HD4 hgd HG4 HS HAL HEX HLO G
        have hscase : (s = (K : Int) ∧ (K : Int) < al) ∨ (s = al ∧ al < (K : Int)) ∨ (s = al ∧ al = (K : Int)) := by
          by_cases h : (K : Int) < al
          · exact .inl ⟨by omega, h⟩
          · by_cases h2 : al < (K : Int)
            · exact .inr (.inl ⟨by omega, h2⟩)
            · exact .inr (.inr ⟨by omega, by omega⟩)
        have hi1 : (0 : Int) < (i : Int) := by omega
        have HIL : Hid (i = L.length) := Lib.hid HN.out.symm
        clear hsum
        cases lo
        · rcases hscase with ⟨rfl, hc⟩ | ⟨rfl, hc⟩ | ⟨rfl, rfl⟩
          all_goals
            go_wp2_with fail
            go_loopw [14, 15] (fun pv qv wr => ∃ (p : Nat) (u : Value), pv = .int .i64 p ∧ qv = u ∧ p ≤ i ∧ Grew wo wr) (fun pv _ _ => i - (intOf pv).toNat)
            case atStart => exact ⟨0, _, rfl, rfl, by omega, Grew.refl _⟩
            case round =>
              obtain ⟨p, u, rfl, rfl, hp, G⟩ := hrel
              obtain ⟨w1, rfl⟩ : ∃ w1 : World, w1 = wr := ⟨_, rfl⟩
              by_cases hpi : p < i
              · have hpi2 : (p : Int) < (i : Int) := by omega
                have hp0 : (0 : Int) ≤ (p : Int) := by omega
                by_cases hk : (K : Int) ≤ ex
                · go_wp2_with fail
                  go_loopw [15] (fun qv wr => ∃ q : Nat, qv = .int .i64 q ∧ q ≤ i ∧ Grew wo wr) (fun qv _ => i - (intOf qv).toNat)
                  case atStart => exact ⟨0, rfl, by omega, G⟩
                  case round =>
                    clear G
                    obtain ⟨q, rfl, hq, G⟩ := hrel
                    obtain ⟨w2, rfl⟩ : ∃ w2 : World, w2 = wr := ⟨_, rfl⟩
                    by_cases hqi : q < i
                    · have hqi2 : (q : Int) < (i : Int) := by omega
                      have hq0 : (0 : Int) ≤ (q : Int) := by omega
                      have hpL : p < L.length := by rw [← HIL.out]; exact hpi
                      have hqL : q < L.length := by rw [← HIL.out]; exact hqi
                      obtain ⟨-, g, ea, -, hg, x0, x1, x2⟩ := (HRR.out.grew G).gat hpL
                      obtain ⟨-, g', ea', -, -, u0, u1, u2⟩ := (HRR.out.grew G).gat hqL
                      subst ea
                      injection ea' with ea'
                      injection ea' with ea'
                      subst ea'
                      have xd := (G.cells.1 gd p hgdo).trans (HDD.out p hpi)
                      have ud := (G.cells.1 gd q hgdo).trans (HDD.out q hqi)
                      have hgd1 : gd < w2.heap.size := Nat.lt_of_lt_of_le hgdo G.size
                      have HOKP := Lib.hid (okG_at HO.out hpL)
                      have HOKQ := Lib.hid (okG_at HO.out hqL)
                      have HEP : Hid (excP (L.getD p zG) = excF L p) := Lib.hid rfl
                      have HEQ : Hid (excP (L.getD q zG) = excF L q) := Lib.hid rfl
                      have hf := HFA.out hk p q hpi hqi
                      obtain ⟨hbp0, hbp1⟩ := divD_b HO.out K p (by omega)
                      obtain ⟨hbq0, hbq1⟩ := divD_b HO.out K q (by omega)
                      obtain ⟨hep0, hep1⟩ := exc_ok HO.out p hpL
                      obtain ⟨heq0, heq1⟩ := exc_ok HO.out q hqL
                      have hep2 := exc_64 HO.out p hpL
                      have heq2 := exc_64 HO.out q hqL
                      replace hep1 := Int.le_trans hep1 hep2
                      replace heq1 := Int.le_trans heq1 heq2
                      clear hep2 heq2
                      generalize excF L p = ep at *
                      generalize excF L q = eq at *
                      generalize divD L K p = dp at *
                      generalize divD L K q = dq at *
                      generalize L.getD p zG = gp at *
                      generalize L.getD q zG = gq at *
                      obtain ⟨pl, pp, pc⟩ := gp
                      obtain ⟨ql, qp, qc⟩ := gq
                      simp only at x0 x1 x2 u0 u1 u2
                      have HG := Lib.hid G
                      clear G hpL hqL
                      by_cases hd0 : 0 < dp
                      · have hf2 := hf hd0
                        have d0b : decide (0 < dp) = true := decide_eq_true hd0
                        clear hf
                        go_upto_region 25 with fail
                        have yp0 := x0
                        have yp1 := x1
                        have yp2 := x2
                        have yq0 := u0
                        have yq1 := u1
                        have yq2 := u2
                        have ypd := xd
                        have yqd := ud
                        have hg5 := hg
                        have hgd5 := hgd1
                        have HG5 := HG
                        clear x0 x1 x2 u0 u1 u2 xd ud
                        have n1 : IntKind.i64.wrap (eq - dq) = eq - dq := IntWalk.i64_in _ (by omega)
                        have n2 : IntKind.i64.wrap (ep - dp) = ep - dp := IntWalk.i64_in _ (by omega)
                        have n3 : IntKind.i64.wrap (ep - dp + 1) = ep - dp + 1 := IntWalk.i64_in _ (by omega)
                        have t3 : decide (ep - dp + 1 < eq - dq) = false := decide_eq_false (by omega)
                        go_region_held3 (fun w' => w'.cell? ⟨g, p * 3, none⟩ = some (.int .i64 pl) ∧ w'.cell? ⟨g, p * 3 + 1, none⟩ = some (.int .i64 pp) ∧ w'.cell? ⟨g, p * 3 + 2, none⟩ = some (.int .i64 pc) ∧ w'.cell? ⟨g, q * 3, none⟩ = some (.int .i64 ql) ∧ w'.cell? ⟨g, q * 3 + 1, none⟩ = some (.int .i64 qp) ∧ w'.cell? ⟨g, q * 3 + 2, none⟩ = some (.int .i64 qc) ∧ w'.cell? ⟨gd, p, none⟩ = some (.int .i64 dp) ∧ w'.cell? ⟨gd, q, none⟩ = some (.int .i64 dq))
                          (refine ⟨?_, ?_, ?_, ?_, ?_, ?_, ?_, ?_⟩ <;> (repeat (first | with_reducible assumption | with_reducible refine far_drew ?_)))
                          (first
                            | (go_at_call 12; (with_reducible refine (excess_p (x := ⟨ql, qp, qc⟩) HOKQ.out).mono ?_); rintro e w7 ⟨rfl, gw7⟩; rw [HEQ.out]; have zp0 := (gw7.cells.1 g (p * 3) hg5).trans (far_drew yp0); have zp1 := (gw7.cells.1 g (p * 3 + 1) hg5).trans (far_drew yp1); have zp2 := (gw7.cells.1 g (p * 3 + 2) hg5).trans (far_drew yp2); have zq0 := (gw7.cells.1 g (q * 3) hg5).trans (far_drew yq0); have zq1 := (gw7.cells.1 g (q * 3 + 1) hg5).trans (far_drew yq1); have zq2 := (gw7.cells.1 g (q * 3 + 2) hg5).trans (far_drew yq2); have zpd := (gw7.cells.1 gd (p) hgd5).trans (far_drew ypd); have zqd := (gw7.cells.1 gd (q) hgd5).trans (far_drew yqd); have HG7 := Lib.hid (HG5.out.drew.trans gw7); have hg7 := Nat.lt_of_lt_of_le hg5 gw7.size; have hgd7 := Nat.lt_of_lt_of_le hgd5 gw7.size; clear yp0 yp1 yp2 yq0 yq1 yq2 ypd yqd)
                            | (go_at_call 12; (with_reducible refine (excess_p (x := ⟨pl, pp, pc⟩) HOKP.out).mono ?_); rintro e w8 ⟨rfl, gw8⟩; rw [HEP.out]; have vp0 := (gw8.cells.1 g (p * 3) hg7).trans (zp0); have vp1 := (gw8.cells.1 g (p * 3 + 1) hg7).trans (zp1); have vp2 := (gw8.cells.1 g (p * 3 + 2) hg7).trans (zp2); have vq0 := (gw8.cells.1 g (q * 3) hg7).trans (zq0); have vq1 := (gw8.cells.1 g (q * 3 + 1) hg7).trans (zq1); have vq2 := (gw8.cells.1 g (q * 3 + 2) hg7).trans (zq2); have vpd := (gw8.cells.1 gd (p) hgd7).trans (zpd); have vqd := (gw8.cells.1 gd (q) hgd7).trans (zqd); have HG8 := Lib.hid (HG7.out.trans gw8); have hg8 := Nat.lt_of_lt_of_le hg7 gw8.size; have hgd8 := Nat.lt_of_lt_of_le hgd7 gw8.size; clear zp0 zp1 zp2 zq0 zq1 zq2 zpd zqd))
                        go_wp2_with fail
                        go_roundw
                        case rel => exact ⟨q + 1, by go_num, by omega, HG8.out⟩
                        case measure => simp [intOf] <;> omega
                      · have d0b : decide (0 < dp) = false := decide_eq_false hd0
                        clear hf
                        go_upto_region 25 with fail
                        go_quiet (fail)
                        revert nq; intro nq1
                        have HG2 := Lib.hid (HG.out.drewN nq1)
                        clear x0 x1 x2 u0 u1 u2 xd ud
                        go_wp2_with fail
                        go_roundw
                        case rel => exact ⟨q + 1, by go_num, by omega, HG2.out⟩
                        case measure => simp [intOf] <;> omega
                    · obtain rfl : q = i := by omega
                      go_wp2_with fail
                      go_roundw
                      case rel => exact ⟨p + 1, _, by go_num, rfl, by omega, G⟩
                      case measure => simp [intOf] <;> omega
                · go_wp2_with fail
                  with_reducible refine (awake_any _).mono ?_
                  rintro e w9 ⟨rfl, g9⟩
                  go_wp2
                  go_ret
                  exact ⟨rfl, HGG.out.trans (G.trans g9)⟩
              · obtain rfl : p = i := by omega
                go_wp2_with fail
                with_reducible refine (awake_any _).mono ?_
                rintro e w9 ⟨rfl, g9⟩
                go_wp2
                go_ret
                exact ⟨rfl, HGG.out.trans (G.trans g9)⟩
        · have hlt2 := HLW.out rfl
          have hkb : decide ((K : Int) ≤ ex) = false := decide_eq_false (by omega)
          rcases hscase with ⟨rfl, hc⟩ | ⟨rfl, hc⟩ | ⟨rfl, rfl⟩
          all_goals
            go_wp2_with fail
            refine wp_loop_rounds 1 ?_
            rw [rounds_succ]
            go_wp2_with fail
            with_reducible refine (awake_any _).mono ?_
            rintro e w9 ⟨rfl, g9⟩
            go_wp2
            go_ret
            exact ⟨rfl, HGG.out.trans g9⟩

theorem Try.own : ownKnob Try.prog.godebug = none := by kernel_rfl
theorem Try.laidOut : laidOutB Try.prog = true := by kernel_rfl

theorem groupFair_contract (W : World) (base : Nat) (args : Array Value) (H : Type) (enc : TypeId × Value → H) (ds : List (DataW H)) (p : List MemPlace)
    (hval : ∀ (j : Nat) t v, Try.f3.params[j]? = some t → args[j]? = some v → Value.okWide Try.prog W .any base t v)
    (hA : DataW.TrodAll enc Try.prog W 0 (fun _ => true) true Try.f3.params.toList args.toList ds p) :
    (∃ d0 d1, ds = [d0, d1]) ∧ Calls Try.prog 3 args W fun e W' => e = .returned (.bool true) ∧ Below W.heap.size W W' := by
  rw [Try.params3] at hval hA
  obtain ⟨v0, v1, d0, d1, p0, p1, ha, hd, hp, h0, h1⟩ := args_2 hA
  subst ha hd
  obtain ⟨A0, c0, xs0, rfl, hr0, hm0⟩ := open_introw Try.underlying22 Try.underlying3 (by kernel_rfl) (hval 0 _ _ rfl rfl) h0
  obtain ⟨n1, rfl, -, -, hw1⟩ := open_int Try.underlying3 (hval 1 _ _ rfl rfl) h1
  exact ⟨⟨_, _, rfl⟩, (gfair_core A0 c0 xs0 n1 W hr0 hm0 hw1).mono fun _ _ h => h⟩

set_option maxRecDepth 100000 in
theorem groupFair_lifted (os : Os) (started : os.Started) (H : Type) (enc : TypeId × Value → H) :
    ReturnsInHanded {} Try.checked os 3 .any (Rows.groupFairSpec.pre6 enc Try.prog Try.f3 Rows.groupFairRow.domain false) (Rows.groupFairSpec.post enc Try.prog Try.f3 false true false false) := by
  refine returnsInHanded_of_change (C := Try.checked) Try.own started (by kernel_rfl) Try.func3
    (ChangeSpec.witness6 (enc := enc) (C := Try.checked) false ⟨#[], #[.slice none 0 0, .int .i64 0], []⟩ 8 (by kernel_rfl) (by kernel_rfl) (by kernel_rfl) (by kernel_rfl)) ?_
  intro W base args ds gs before hval hW _ _
  obtain ⟨p, q, hA, hV, hrest⟩ := id hW
  obtain ⟨⟨d0, d1, rfl⟩, hc⟩ := groupFair_contract W base args H enc ds p hval hA
  obtain ⟨rfl, -⟩ := trodVars_none hV
  refine hc.mono fun e W' ⟨he, hb⟩ => ⟨_, he, ?_⟩
  exact law_close (tb := 4) Try.laidOut (by rw [Try.params3]; decide +kernel) Try.underlying4 rfl rfl hW rfl rfl rfl hb

theorem groupFair_holds : Rows.GroupFairSaid :=
  OpenClaim.holds_of_wide 3 Try.f3 rfl rfl rfl rfl rfl rfl rfl ⟨rfl, rfl, rfl, rfl, rfl⟩ rfl rfl rfl rfl rfl (by kernel_rfl) Try.func3 (by kernel_rfl)
    (of_decide_eq_true (by kernel_rfl)) (by unfold Func.isWrapper; first | (rw [if_pos (by decide +kernel)]; kernel_rfl) | (rw [if_neg (by decide +kernel)]; exact ⟨rfl, rfl⟩))
    (fun os started H enc _ => groupFair_lifted os started H enc)
end Go.Proofs.Ytgcblkibnihplaa
