/- The reference's Sure and Predict (layer 6): contracts. -/
import Derived.Test.YtfljohgcbihhbaaDoorStW
import Derived.Test.YtfljohgcbihhbaaDoorSr1
namespace Go.Proofs.YtfljohgcbihhbaaDoor
open Go.RowKit Go.Mine

theorem rsure_any (x : Str) (w : World) : Calls Tryd.prog 33 #[strV x] w (RetG (.bool (sureB x)) w) := by
  have O := Own.new w 29 (csS x)
  cases h0 : rgtB x
  all_goals
    go_enter Tryd.func33, Tryd.ntmps33
    go_wp2_with fail
    with_reducible refine (rRight_v _ _ h0).mono ?_
    rintro e w1 ⟨rfl, g1⟩
    have P := O.grew g1
    have G : Grew w w1 := ((Grew.refl w).alloc _).trans g1
    obtain ⟨p0, p1, p2, p3, p4, p5⟩ := P.six
    go_wp2
    go_ret
    exact ⟨ret_bool (by simp [sureB, h0]), G⟩
theorem rsure_v {v : Bool} (x : Str) (w : World) (h : sureB x = v) : Calls Tryd.prog 33 #[strV x] w (RetG (.bool v) w) := h ▸ rsure_any x w
def elN (x : Str) : Nat := if x.k = 4 then (x.b - x.a).toNat else 1
def frF (x : Str) (K : Nat) : Int := if x.k = 2 then x.b + K else if x.k = 3 then x.a - 1 - K else x.a + ((K : Int) + 1) * x.d
theorem el_ok {x : Str} (hx : RgtP x) : 1 ≤ elN x ∧ elN x ≤ 8 ∧ (x.k = 4 → (elN x : Int) = x.b - x.a) ∧ (¬x.k = 4 → elN x = 1) := by
  obtain ⟨⟨x0, x1, x2⟩, -, -, -, -, -, h⟩ := hx
  unfold elN
  by_cases h4 : x.k = 4
  · rw [if_pos h4]; unfold StpP at h; omega
  · rw [if_neg h4]; omega
theorem pg_at {x : Str} (hx : RgtP x) (hk : ¬x.k = 1) (K r : Nat) (hr : r < elN x) : pgF x (K * elN x + r) = frF x K + r := by
  obtain ⟨e0, e1, e4, en⟩ := el_ok hx
  unfold pgF frF
  by_cases h2 : x.k = 2
  · rw [if_pos h2, if_pos h2, en (by omega)]
    have : r = 0 := by have := en (by omega); omega
    subst this; simp
  · rw [if_neg h2, if_neg h2]
    by_cases h3 : x.k = 3
    · rw [if_pos h3, if_pos h3, en (by omega)]
      have : r = 0 := by have := en (by omega); omega
      subst this; simp
    · have h4 : x.k = 4 := by have h := hx.2.2.2.2.2.2; omega
      rw [if_neg h3, if_neg h3, ← e4 h4]
      generalize elN x = E at *
      have d1 : (K * E + r) / E = K := by rw [Nat.add_comm, Nat.add_mul_div_right _ _ (by omega), Nat.div_eq_of_lt hr, Nat.zero_add]
      have d2 : (K * E + r) % E = r := by rw [Nat.add_comm, Nat.add_mul_mod_self_right, Nat.mod_eq_of_lt hr]
      have c1 : ((K * E + r : Nat) : Int) / (E : Int) = K := by rw [← Int.natCast_ediv, d1]
      have c2 : ((K * E + r : Nat) : Int) % (E : Int) = r := by rw [← Int.natCast_emod, d2]
      rw [c1, c2]
theorem prL_full {x : Str} (hx : RgtP x) (hk : ¬x.k = 1) (h : (prL x (256 * elN x)).length = 256 * elN x) : False := by
  obtain ⟨e0, e1, e4, en⟩ := el_ok hx
  have e : 256 * elN x = (255 * elN x + (elN x - 1)) + 1 := by omega
  have hb := prL_last (e ▸ h)
  rw [pg_at hx hk 255 (elN x - 1) (by omega)] at hb
  have hb : 0 ≤ frF x 255 + ((elN x - 1 : Nat) : Int) ∧ frF x 255 + ((elN x - 1 : Nat) : Int) ≤ 255 := of_decide_eq_true hb
  obtain ⟨⟨x0, x1, x2⟩, -, -, -, -, -, h⟩ := hx
  unfold frF at hb
  by_cases h2 : x.k = 2
  · rw [if_pos h2] at hb; omega
  · rw [if_neg h2] at hb
    by_cases h3 : x.k = 3
    · rw [if_pos h3] at hb; have := en (by omega); omega
    · rw [if_neg h3] at hb
      unfold StpP at h
      have h4 : x.k = 4 := by omega
      have := e4 h4
      have hd : x.d = -8 ∨ x.d = -7 ∨ x.d = -6 ∨ x.d = -5 ∨ x.d = -4 ∨ x.d = -3 ∨ x.d = -2 ∨ x.d = 2 ∨ x.d = 3 ∨ x.d = 4 ∨ x.d = 5 ∨ x.d = 6 ∨ x.d = 7 ∨ x.d = 8 := by omega
      rcases hd with e | e | e | e | e | e | e | e | e | e | e | e | e | e <;> rw [e] at hb <;> omega
theorem rpredict_no (x : Str) (n : Int) (w : World) (h : rgtB x = false ∨ x.k = 1) : Calls Tryd.prog 23 #[strV x, .int .i64 n] w (RetI1 (prF x n) w) := by
  have HF := Lib.hid (show prF x n = [] from by rw [prF, if_neg]; rintro ⟨h1, h2⟩; rcases h with h | h; exact absurd h1 (of_decide_eq_false h); exact h2 h)
  have O := Own.new w 29 (csS x)
  cases h0 : rgtB x
  case false =>
    clear h
    go_enter Tryd.func23, Tryd.ntmps23
    go_wp2_with fail
    with_reducible refine (rRight_v _ _ h0).mono ?_
    rintro e w1 ⟨rfl, g1⟩
    have P := O.grew g1
    have G : Grew w w1 := ((Grew.refl w).alloc _).trans g1
    obtain ⟨p0, p1, p2, p3, p4, p5⟩ := P.six
    go_wp2
    go_ret
    exact ⟨_, rfl, by rw [HF.out]; exact RowE.nil _ _, G⟩
  case true =>
    have k1 : x.k = 1 := by rcases h with h | h; rw [h0] at h; exact absurd h (by simp); exact h
    have e1 := beqT k1
    clear k1 h
    go_enter Tryd.func23, Tryd.ntmps23
    go_wp2_with fail
    with_reducible refine (rRight_v _ _ h0).mono ?_
    rintro e w1 ⟨rfl, g1⟩
    have P := O.grew g1
    have G : Grew w w1 := ((Grew.refl w).alloc _).trans g1
    obtain ⟨p0, p1, p2, p3, p4, p5⟩ := P.six
    go_wp2
    go_ret
    exact ⟨_, rfl, by rw [HF.out]; exact RowE.nil _ _, G⟩
set_option maxRecDepth 100000 in
set_option maxHeartbeats 4000000 in
theorem rpredict_2 (x : Str) (n : Int) (w : World) (hx : RgtP x) (hk : x.k = 2) : Calls Tryd.prog 23 #[strV x, .int .i64 n] w (RetI1 (prF x n) w) := by
  have HF := Lib.hid (show prF x n = prL x n.toNat from by rw [prF, if_pos ⟨hx, by omega⟩])
  have HX := Lib.hid hx
  have HK := Lib.hid hk
  have O := Own.new w 29 (csS x)
  have e1 : (x.k == 1) = false := beqF (by omega)
  have e3 : (x.k == 3) = false := beqF (by omega)
  have e4 : (x.k == 4) = false := beqF (by omega)
  obtain ⟨l0, l1, l4, ln⟩ := el_ok hx
  have hE : elN x = 1 := ln (by omega)
  have h0 : rgtB x = true := decide_eq_true hx
  have hd8 : -8 ≤ x.d ∧ x.d ≤ 8 := by have h := hx.2.2.2.2.2.2; unfold StpP at h; omega
  obtain ⟨x0, x1, x2⟩ := hx.1
  clear hx hk l4 ln
  go_enter Tryd.func23, Tryd.ntmps23
  go_wp2_with fail
  with_reducible refine (rRight_v _ _ h0).mono ?_
  rintro e w1 ⟨rfl, g1⟩
  have P := O.grew g1
  have G : Grew w w1 := ((Grew.refl w).alloc _).trans g1
  obtain ⟨p0, p1, p2, p3, p4, p5⟩ := P.six
  clear g1 O h0
  go_wp2
  clear p0 p1 p2 p3 p4 p5
  go_loopw [5, 6] (fun v kv wr => ∃ (K m : Nat) (r : Value), r = v ∧ kv = .int .i64 ((K : Int) + 1) ∧ K ≤ 256 ∧ m ≤ n.toNat ∧ (m < n.toNat → m = K * elN x) ∧ (prL x m).length = m ∧ RowE 3 1 enc1 wr (w.heap.size + 1) r (prL x m) ∧ Own wr w.heap.size 29 (csS x) ∧ Grew w wr) (fun _ kv _ => 300 - (intOf kv).toNat)
  case atStart => exact ⟨0, 0, _, rfl, rfl, by omega, by omega, fun _ => by rw [Nat.zero_mul], rfl, RowE.nil _ _, P, G⟩
  case round =>
    clear P G w1
    obtain ⟨K, m, r, rfl, rfl, hK, hmn, hmK, hl, R, P, G⟩ := hrel
    obtain ⟨wo, rfl⟩ : ∃ wo : World, wo = wr := ⟨_, rfl⟩
    obtain ⟨ar, cr, rfl⟩ := R.len
    rw [hl] at R ⊢
    have HR := Lib.hid R
    have HL := Lib.hid hl
    clear R hl
    by_cases hlt : (m : Int) < n
    · have hm2 := hmK (by omega)
      have hK2 : K < 256 := by
        by_cases e : K = 256
        · subst e
          exact absurd (prL_full HX.out (by have := HK.out; omega) (by rw [← hm2]; exact HL.out)) (by simp)
        · omega
      have HM := Lib.hid hm2
      clear hm2 hmK
      obtain ⟨D, hD⟩ : ∃ D : Int, ((K : Int) + 1) * x.d = D := ⟨_, rfl⟩
      have hDb := mul_bd K x.d (by omega) (by omega) hd8.1 hd8.2
      rw [hD] at hDb
      obtain ⟨F, hF⟩ : ∃ F, frF x K = F := ⟨_, rfl⟩
      have hF2 : F = x.b + K := by rw [← hF, frF, if_pos HK.out]
      have HFr := Lib.hid hF
      obtain ⟨kk, hkk⟩ : ∃ kk : Int, (K : Int) + 1 = kk := ⟨_, rfl⟩
      rw [hkk] at hD ⊢
      have dk : decide (kk ≤ 256) = true := decide_eq_true (by omega)
      have s1 : IntKind.i64.wrap (x.b + kk) = x.b + kk := IntWalk.i64_in _ (by omega)
      have s2 : IntKind.i64.wrap (x.b + kk - 1) = x.b + kk - 1 := IntWalk.i64_in _ (by omega)
      have s3 : IntKind.i64.wrap (x.a - kk) = x.a - kk := IntWalk.i64_in _ (by omega)
      have s4 : IntKind.i64.wrap (x.a - kk + 1) = x.a - kk + 1 := IntWalk.i64_in _ (by omega)
      have s5 : IntKind.i64.wrap (kk * x.d) = D := by rw [hD]; exact IntWalk.i64_in _ (by omega)
      have s6 : IntKind.i64.wrap (x.a + D) = x.a + D := IntWalk.i64_in _ (by omega)
      have s7 : IntKind.i64.wrap (x.b + D) = x.b + D := IntWalk.i64_in _ (by omega)
      have HD := Lib.hid hD
      clear hD hF
      obtain ⟨p0, p1, p2, p3, p4, p5⟩ := P.six
      go_upto_region 7 with fail
      go_quiet (fail)
      revert nq; intro nq1
      have P2 := P.drewN nq1
      have R2 : Hid (RowE 3 1 enc1 (wo.drewN nq1) (w.heap.size + 1) (.slice ar m cr) (prL x m)) := Lib.hid HR.out
      have G2 := G.drewN nq1
      clear p0 p1 p2 p3 p4 p5 P HR G
      generalize World.drewN wo nq1 = w2 at *
      obtain ⟨p0, p1, p2, p3, p4, p5⟩ := P2.six
      have P3 := P2
      have R3 := R2
      have G3 := G2
      clear P2 R2 G2
      obtain ⟨w3, rfl⟩ : ∃ w3 : World, w3 = w2 := ⟨_, rfl⟩
      go_wp2_with fail
      clear s1 s2 s3 s4 s5 s6 s7
      clear p0 p1 p2 p3 p4 p5
      go_loopw [5, 9] (fun v pv wr => ∃ (j mj : Nat) (r : Value), r = v ∧ pv = .int .i64 (F + j) ∧ j ≤ elN x ∧ mj = m + j ∧ mj ≤ n.toNat ∧ (prL x mj).length = mj ∧ RowE 3 1 enc1 wr (w.heap.size + 1) r (prL x mj) ∧ Own wr w.heap.size 29 (csS x) ∧ Grew w wr) (fun _ pv _ => (F + 300 - intOf pv).toNat)
      case atStart => exact ⟨0, m, _, rfl, by rw [show x.b + kk - 1 = F + ((0 : Nat) : Int) from by omega], by omega, rfl, hmn, HL.out, R3.out, P3, G3⟩
      case round =>
        clear P3 R3 G3 w3
        obtain ⟨j, mj, r, rfl, rfl, hj, hmj, hmn3, hl3, R, P, G⟩ := hrel
        obtain ⟨wi, rfl⟩ : ∃ wi : World, wi = wr := ⟨_, rfl⟩
        obtain ⟨ai, ci, rfl⟩ := R.len
        rw [hl3] at R ⊢
        have HR3 := Lib.hid R
        have HL3 := Lib.hid hl3
        have HMJ := Lib.hid hmj
        have hjm : j ≤ mj := by omega
        clear R hl3 hmj
        by_cases hc : j < elN x ∧ (mj : Int) < n
        · obtain ⟨c1, c2⟩ := hc
          have hpg : pgF x mj = F + j := by rw [HMJ.out, HM.out, pg_at HX.out (by have := HK.out; omega) K j c1, HFr.out]
          have HPG := Lib.hid hpg
          cases hin : inB (F + j)
          · have hin2 : ¬(0 ≤ F + j ∧ F + j ≤ 255) := of_decide_eq_false hin
            have HS := Lib.hid (prL_stop HL3.out (by rw [hpg]; exact hin) n.toNat hmn3)
            clear hpg hin
            go_wp2
            all_goals go_ret
            all_goals exact ⟨_, rfl, by rw [HF.out, HS.out]; exact HR3.out.wider (by omega), G⟩
          · obtain ⟨b0, b1⟩ : 0 ≤ F + j ∧ F + j ≤ 255 := of_decide_eq_true hin
            have HN := Lib.hid (prL_next HL3.out (by rw [hpg]; exact hin))
            rw [hpg] at HN
            obtain ⟨pg, hpg2⟩ : ∃ pg, F + (j : Int) = pg := ⟨_, rfl⟩
            rw [hpg2] at HN ⊢
            have hB := G.size
            have HA := Lib.hid HR3.out.above
            have hlen : (prL x mj).length < 1000000 := by rw [HL3.out]; have := prL_bound HX.out (by have := HK.out; omega) mj HL3.out; omega
            have HLN := Lib.hid hlen
            have HPA := Lib.hid (show w.heap.size < wi.heap.size from P.lt)
            clear hlen hpg hin
            go_wp2_with (at_builtin; go_loud (refine wpList_append_row _ rfl (.tmp 85) (.tmp 87) 22 rfl (w.heap.size + 1) info_I und_I (by decide) (by decide) enc1_len (.slice ai mj ci) (prL x mj) rfl (HR3.out.alloc _) _ _ pg rfl (Own.new _ _ _) enc1_one HLN.out (by decide) (by have := HPA.out; simp; omega) ?_; intro g3 cap w3 R3 G3 o3))
            exact ⟨⟨j + 1, mj + 1, _, rfl, by rw [← hpg2, show F + (j : Int) + 1 = F + ((j + 1 : Nat) : Int) from by omega], by omega, by have := HMJ.out; omega, by omega, HN.out.2, by rw [HN.out.1]; exact R3, Own.keptA (B := w.heap.size + 1) (P.alloc _) G3 (fun y e => HA.out y e) (by omega), Grew.keptA (B := w.heap.size + 1) (G.alloc _) G3 (fun y e => HA.out y e) (by omega)⟩, by simp [intOf]; omega⟩
        · have hmK3 : mj < n.toNat → mj = (K + 1) * elN x := fun h => by
            have : j = elN x := by omega
            rw [HMJ.out, HM.out, Nat.succ_mul, this]
          have HMK := Lib.hid hmK3
          clear hmK3
          by_cases c1 : j < elN x
          · have c2 : ¬(mj : Int) < n := fun h => hc ⟨c1, h⟩
            clear hc
            go_wp2
            exact ⟨⟨K + 1, mj, _, rfl, by rw [← hkk, show (K : Int) + 1 + 1 = ((K + 1 : Nat) : Int) + 1 from by omega], by omega, hmn3, HMK.out, HL3.out, HR3.out, P, G⟩, by simp [intOf]; omega⟩
          · clear hc
            go_wp2
            exact ⟨⟨K + 1, mj, _, rfl, by rw [← hkk, show (K : Int) + 1 + 1 = ((K + 1 : Nat) : Int) + 1 from by omega], by omega, hmn3, HMK.out, HL3.out, HR3.out, P, G⟩, by simp [intOf]; omega⟩
    · have hmn2 : m = n.toNat := by omega
      go_wp2
      go_ret
      exact ⟨_, rfl, by rw [HF.out, ← hmn2]; exact HR.out.wider (by omega), G⟩
set_option maxRecDepth 100000 in
set_option maxHeartbeats 4000000 in
theorem rpredict_3 (x : Str) (n : Int) (w : World) (hx : RgtP x) (hk : x.k = 3) : Calls Tryd.prog 23 #[strV x, .int .i64 n] w (RetI1 (prF x n) w) := by
  have HF := Lib.hid (show prF x n = prL x n.toNat from by rw [prF, if_pos ⟨hx, by omega⟩])
  have HX := Lib.hid hx
  have HK := Lib.hid hk
  have O := Own.new w 29 (csS x)
  have e1 : (x.k == 1) = false := beqF (by omega)
  have e3 : (x.k == 3) = true := beqT (by omega)
  have e4 : (x.k == 4) = false := beqF (by omega)
  obtain ⟨l0, l1, l4, ln⟩ := el_ok hx
  have hE : elN x = 1 := ln (by omega)
  have h0 : rgtB x = true := decide_eq_true hx
  have hd8 : -8 ≤ x.d ∧ x.d ≤ 8 := by have h := hx.2.2.2.2.2.2; unfold StpP at h; omega
  obtain ⟨x0, x1, x2⟩ := hx.1
  clear hx hk l4 ln
  go_enter Tryd.func23, Tryd.ntmps23
  go_wp2_with fail
  with_reducible refine (rRight_v _ _ h0).mono ?_
  rintro e w1 ⟨rfl, g1⟩
  have P := O.grew g1
  have G : Grew w w1 := ((Grew.refl w).alloc _).trans g1
  obtain ⟨p0, p1, p2, p3, p4, p5⟩ := P.six
  clear g1 O h0
  go_wp2
  clear p0 p1 p2 p3 p4 p5
  go_loopw [5, 6] (fun v kv wr => ∃ (K m : Nat) (r : Value), r = v ∧ kv = .int .i64 ((K : Int) + 1) ∧ K ≤ 256 ∧ m ≤ n.toNat ∧ (m < n.toNat → m = K * elN x) ∧ (prL x m).length = m ∧ RowE 3 1 enc1 wr (w.heap.size + 1) r (prL x m) ∧ Own wr w.heap.size 29 (csS x) ∧ Grew w wr) (fun _ kv _ => 300 - (intOf kv).toNat)
  case atStart => exact ⟨0, 0, _, rfl, rfl, by omega, by omega, fun _ => by rw [Nat.zero_mul], rfl, RowE.nil _ _, P, G⟩
  case round =>
    clear P G w1
    obtain ⟨K, m, r, rfl, rfl, hK, hmn, hmK, hl, R, P, G⟩ := hrel
    obtain ⟨wo, rfl⟩ : ∃ wo : World, wo = wr := ⟨_, rfl⟩
    obtain ⟨ar, cr, rfl⟩ := R.len
    rw [hl] at R ⊢
    have HR := Lib.hid R
    have HL := Lib.hid hl
    clear R hl
    by_cases hlt : (m : Int) < n
    · have hm2 := hmK (by omega)
      have hK2 : K < 256 := by
        by_cases e : K = 256
        · subst e
          exact absurd (prL_full HX.out (by have := HK.out; omega) (by rw [← hm2]; exact HL.out)) (by simp)
        · omega
      have HM := Lib.hid hm2
      clear hm2 hmK
      obtain ⟨D, hD⟩ : ∃ D : Int, ((K : Int) + 1) * x.d = D := ⟨_, rfl⟩
      have hDb := mul_bd K x.d (by omega) (by omega) hd8.1 hd8.2
      rw [hD] at hDb
      obtain ⟨F, hF⟩ : ∃ F, frF x K = F := ⟨_, rfl⟩
      have hF2 : F = x.a - 1 - K := by rw [← hF, frF, if_neg (by have := HK.out; omega), if_pos HK.out]
      have HFr := Lib.hid hF
      obtain ⟨kk, hkk⟩ : ∃ kk : Int, (K : Int) + 1 = kk := ⟨_, rfl⟩
      rw [hkk] at hD ⊢
      have dk : decide (kk ≤ 256) = true := decide_eq_true (by omega)
      have s1 : IntKind.i64.wrap (x.b + kk) = x.b + kk := IntWalk.i64_in _ (by omega)
      have s2 : IntKind.i64.wrap (x.b + kk - 1) = x.b + kk - 1 := IntWalk.i64_in _ (by omega)
      have s3 : IntKind.i64.wrap (x.a - kk) = x.a - kk := IntWalk.i64_in _ (by omega)
      have s4 : IntKind.i64.wrap (x.a - kk + 1) = x.a - kk + 1 := IntWalk.i64_in _ (by omega)
      have s5 : IntKind.i64.wrap (kk * x.d) = D := by rw [hD]; exact IntWalk.i64_in _ (by omega)
      have s6 : IntKind.i64.wrap (x.a + D) = x.a + D := IntWalk.i64_in _ (by omega)
      have s7 : IntKind.i64.wrap (x.b + D) = x.b + D := IntWalk.i64_in _ (by omega)
      have HD := Lib.hid hD
      clear hD hF
      obtain ⟨p0, p1, p2, p3, p4, p5⟩ := P.six
      go_upto_region 7 with fail
      go_quiet (fail)
      revert nq; intro nq1
      have P2 := P.drewN nq1
      have R2 : Hid (RowE 3 1 enc1 (wo.drewN nq1) (w.heap.size + 1) (.slice ar m cr) (prL x m)) := Lib.hid HR.out
      have G2 := G.drewN nq1
      clear p0 p1 p2 p3 p4 p5 P HR G
      generalize World.drewN wo nq1 = w2 at *
      obtain ⟨p0, p1, p2, p3, p4, p5⟩ := P2.six
      go_upto_region 10 with fail
      go_quiet (fail)
      revert nq; intro nq2
      have P3 := P2.drewN nq2
      have R3 : Hid (RowE 3 1 enc1 (w2.drewN nq2) (w.heap.size + 1) (.slice ar m cr) (prL x m)) := Lib.hid R2.out
      have G3 := G2.drewN nq2
      clear p0 p1 p2 p3 p4 p5 P2 R2 G2
      generalize World.drewN w2 nq2 = w3 at *
      go_wp2_with fail
      clear s1 s2 s3 s4 s5 s6 s7
      skip
      go_loopw [5, 9] (fun v pv wr => ∃ (j mj : Nat) (r : Value), r = v ∧ pv = .int .i64 (F + j) ∧ j ≤ elN x ∧ mj = m + j ∧ mj ≤ n.toNat ∧ (prL x mj).length = mj ∧ RowE 3 1 enc1 wr (w.heap.size + 1) r (prL x mj) ∧ Own wr w.heap.size 29 (csS x) ∧ Grew w wr) (fun _ pv _ => (F + 300 - intOf pv).toNat)
      case atStart => exact ⟨0, m, _, rfl, by rw [show x.a - kk = F + ((0 : Nat) : Int) from by omega], by omega, rfl, hmn, HL.out, R3.out, P3, G3⟩
      case round =>
        clear P3 R3 G3 w3
        obtain ⟨j, mj, r, rfl, rfl, hj, hmj, hmn3, hl3, R, P, G⟩ := hrel
        obtain ⟨wi, rfl⟩ : ∃ wi : World, wi = wr := ⟨_, rfl⟩
        obtain ⟨ai, ci, rfl⟩ := R.len
        rw [hl3] at R ⊢
        have HR3 := Lib.hid R
        have HL3 := Lib.hid hl3
        have HMJ := Lib.hid hmj
        have hjm : j ≤ mj := by omega
        clear R hl3 hmj
        by_cases hc : j < elN x ∧ (mj : Int) < n
        · obtain ⟨c1, c2⟩ := hc
          have hpg : pgF x mj = F + j := by rw [HMJ.out, HM.out, pg_at HX.out (by have := HK.out; omega) K j c1, HFr.out]
          have HPG := Lib.hid hpg
          cases hin : inB (F + j)
          · have hin2 : ¬(0 ≤ F + j ∧ F + j ≤ 255) := of_decide_eq_false hin
            have HS := Lib.hid (prL_stop HL3.out (by rw [hpg]; exact hin) n.toNat hmn3)
            clear hpg hin
            go_wp2
            all_goals go_ret
            all_goals exact ⟨_, rfl, by rw [HF.out, HS.out]; exact HR3.out.wider (by omega), G⟩
          · obtain ⟨b0, b1⟩ : 0 ≤ F + j ∧ F + j ≤ 255 := of_decide_eq_true hin
            have HN := Lib.hid (prL_next HL3.out (by rw [hpg]; exact hin))
            rw [hpg] at HN
            obtain ⟨pg, hpg2⟩ : ∃ pg, F + (j : Int) = pg := ⟨_, rfl⟩
            rw [hpg2] at HN ⊢
            have hB := G.size
            have HA := Lib.hid HR3.out.above
            have hlen : (prL x mj).length < 1000000 := by rw [HL3.out]; have := prL_bound HX.out (by have := HK.out; omega) mj HL3.out; omega
            have HLN := Lib.hid hlen
            have HPA := Lib.hid (show w.heap.size < wi.heap.size from P.lt)
            clear hlen hpg hin
            go_wp2_with (at_builtin; go_loud (refine wpList_append_row _ rfl (.tmp 85) (.tmp 87) 22 rfl (w.heap.size + 1) info_I und_I (by decide) (by decide) enc1_len (.slice ai mj ci) (prL x mj) rfl (HR3.out.alloc _) _ _ pg rfl (Own.new _ _ _) enc1_one HLN.out (by decide) (by have := HPA.out; simp; omega) ?_; intro g3 cap w3 R3 G3 o3))
            exact ⟨⟨j + 1, mj + 1, _, rfl, by rw [← hpg2, show F + (j : Int) + 1 = F + ((j + 1 : Nat) : Int) from by omega], by omega, by have := HMJ.out; omega, by omega, HN.out.2, by rw [HN.out.1]; exact R3, Own.keptA (B := w.heap.size + 1) (P.alloc _) G3 (fun y e => HA.out y e) (by omega), Grew.keptA (B := w.heap.size + 1) (G.alloc _) G3 (fun y e => HA.out y e) (by omega)⟩, by simp [intOf]; omega⟩
        · have hmK3 : mj < n.toNat → mj = (K + 1) * elN x := fun h => by
            have : j = elN x := by omega
            rw [HMJ.out, HM.out, Nat.succ_mul, this]
          have HMK := Lib.hid hmK3
          clear hmK3
          by_cases c1 : j < elN x
          · have c2 : ¬(mj : Int) < n := fun h => hc ⟨c1, h⟩
            clear hc
            go_wp2
            exact ⟨⟨K + 1, mj, _, rfl, by rw [← hkk, show (K : Int) + 1 + 1 = ((K + 1 : Nat) : Int) + 1 from by omega], by omega, hmn3, HMK.out, HL3.out, HR3.out, P, G⟩, by simp [intOf]; omega⟩
          · clear hc
            go_wp2
            exact ⟨⟨K + 1, mj, _, rfl, by rw [← hkk, show (K : Int) + 1 + 1 = ((K + 1 : Nat) : Int) + 1 from by omega], by omega, hmn3, HMK.out, HL3.out, HR3.out, P, G⟩, by simp [intOf]; omega⟩
    · have hmn2 : m = n.toNat := by omega
      go_wp2
      go_ret
      exact ⟨_, rfl, by rw [HF.out, ← hmn2]; exact HR.out.wider (by omega), G⟩
set_option maxRecDepth 100000 in
set_option maxHeartbeats 4000000 in
theorem rpredict_4 (x : Str) (n : Int) (w : World) (hx : RgtP x) (hk : x.k = 4) : Calls Tryd.prog 23 #[strV x, .int .i64 n] w (RetI1 (prF x n) w) := by
  have HF := Lib.hid (show prF x n = prL x n.toNat from by rw [prF, if_pos ⟨hx, by omega⟩])
  have HX := Lib.hid hx
  have HK := Lib.hid hk
  have O := Own.new w 29 (csS x)
  have e1 : (x.k == 1) = false := beqF (by omega)
  have e3 : (x.k == 3) = false := beqF (by omega)
  have e4 : (x.k == 4) = true := beqT (by omega)
  obtain ⟨l0, l1, l4, ln⟩ := el_ok hx
  have hE : (elN x : Int) = x.b - x.a := l4 hk
  have h0 : rgtB x = true := decide_eq_true hx
  have hd8 : -8 ≤ x.d ∧ x.d ≤ 8 := by have h := hx.2.2.2.2.2.2; unfold StpP at h; omega
  obtain ⟨x0, x1, x2⟩ := hx.1
  clear hx hk l4 ln
  go_enter Tryd.func23, Tryd.ntmps23
  go_wp2_with fail
  with_reducible refine (rRight_v _ _ h0).mono ?_
  rintro e w1 ⟨rfl, g1⟩
  have P := O.grew g1
  have G : Grew w w1 := ((Grew.refl w).alloc _).trans g1
  obtain ⟨p0, p1, p2, p3, p4, p5⟩ := P.six
  clear g1 O h0
  go_wp2
  clear p0 p1 p2 p3 p4 p5
  go_loopw [5, 6] (fun v kv wr => ∃ (K m : Nat) (r : Value), r = v ∧ kv = .int .i64 ((K : Int) + 1) ∧ K ≤ 256 ∧ m ≤ n.toNat ∧ (m < n.toNat → m = K * elN x) ∧ (prL x m).length = m ∧ RowE 3 1 enc1 wr (w.heap.size + 1) r (prL x m) ∧ Own wr w.heap.size 29 (csS x) ∧ Grew w wr) (fun _ kv _ => 300 - (intOf kv).toNat)
  case atStart => exact ⟨0, 0, _, rfl, rfl, by omega, by omega, fun _ => by rw [Nat.zero_mul], rfl, RowE.nil _ _, P, G⟩
  case round =>
    clear P G w1
    obtain ⟨K, m, r, rfl, rfl, hK, hmn, hmK, hl, R, P, G⟩ := hrel
    obtain ⟨wo, rfl⟩ : ∃ wo : World, wo = wr := ⟨_, rfl⟩
    obtain ⟨ar, cr, rfl⟩ := R.len
    rw [hl] at R ⊢
    have HR := Lib.hid R
    have HL := Lib.hid hl
    clear R hl
    by_cases hlt : (m : Int) < n
    · have hm2 := hmK (by omega)
      have hK2 : K < 256 := by
        by_cases e : K = 256
        · subst e
          exact absurd (prL_full HX.out (by have := HK.out; omega) (by rw [← hm2]; exact HL.out)) (by simp)
        · omega
      have HM := Lib.hid hm2
      clear hm2 hmK
      obtain ⟨D, hD⟩ : ∃ D : Int, ((K : Int) + 1) * x.d = D := ⟨_, rfl⟩
      have hDb := mul_bd K x.d (by omega) (by omega) hd8.1 hd8.2
      rw [hD] at hDb
      obtain ⟨F, hF⟩ : ∃ F, frF x K = F := ⟨_, rfl⟩
      have hF2 : F = x.a + D := by rw [← hF, frF, if_neg (by have := HK.out; omega), if_neg (by have := HK.out; omega), hD]
      have HFr := Lib.hid hF
      obtain ⟨kk, hkk⟩ : ∃ kk : Int, (K : Int) + 1 = kk := ⟨_, rfl⟩
      rw [hkk] at hD ⊢
      have dk : decide (kk ≤ 256) = true := decide_eq_true (by omega)
      have s1 : IntKind.i64.wrap (x.b + kk) = x.b + kk := IntWalk.i64_in _ (by omega)
      have s2 : IntKind.i64.wrap (x.b + kk - 1) = x.b + kk - 1 := IntWalk.i64_in _ (by omega)
      have s3 : IntKind.i64.wrap (x.a - kk) = x.a - kk := IntWalk.i64_in _ (by omega)
      have s4 : IntKind.i64.wrap (x.a - kk + 1) = x.a - kk + 1 := IntWalk.i64_in _ (by omega)
      have s5 : IntKind.i64.wrap (kk * x.d) = D := by rw [hD]; exact IntWalk.i64_in _ (by omega)
      have s6 : IntKind.i64.wrap (x.a + D) = x.a + D := IntWalk.i64_in _ (by omega)
      have s7 : IntKind.i64.wrap (x.b + D) = x.b + D := IntWalk.i64_in _ (by omega)
      have HD := Lib.hid hD
      clear hD hF
      obtain ⟨p0, p1, p2, p3, p4, p5⟩ := P.six
      go_upto_region 7 with fail
      go_quiet (fail)
      revert nq; intro nq1
      have P2 := P.drewN nq1
      have R2 : Hid (RowE 3 1 enc1 (wo.drewN nq1) (w.heap.size + 1) (.slice ar m cr) (prL x m)) := Lib.hid HR.out
      have G2 := G.drewN nq1
      clear p0 p1 p2 p3 p4 p5 P HR G
      generalize World.drewN wo nq1 = w2 at *
      obtain ⟨p0, p1, p2, p3, p4, p5⟩ := P2.six
      go_upto_region 12 with fail
      go_quiet (fail)
      revert nq; intro nq2
      have P3 := P2.drewN nq2
      have R3 : Hid (RowE 3 1 enc1 (w2.drewN nq2) (w.heap.size + 1) (.slice ar m cr) (prL x m)) := Lib.hid R2.out
      have G3 := G2.drewN nq2
      clear p0 p1 p2 p3 p4 p5 P2 R2 G2
      generalize World.drewN w2 nq2 = w3 at *
      go_wp2_with fail
      clear s1 s2 s3 s4 s5 s6 s7
      skip
      go_loopw [5, 9] (fun v pv wr => ∃ (j mj : Nat) (r : Value), r = v ∧ pv = .int .i64 (F + j) ∧ j ≤ elN x ∧ mj = m + j ∧ mj ≤ n.toNat ∧ (prL x mj).length = mj ∧ RowE 3 1 enc1 wr (w.heap.size + 1) r (prL x mj) ∧ Own wr w.heap.size 29 (csS x) ∧ Grew w wr) (fun _ pv _ => (F + 300 - intOf pv).toNat)
      case atStart => exact ⟨0, m, _, rfl, by rw [show x.a + D = F + ((0 : Nat) : Int) from by omega], by omega, rfl, hmn, HL.out, R3.out, P3, G3⟩
      case round =>
        clear P3 R3 G3 w3
        obtain ⟨j, mj, r, rfl, rfl, hj, hmj, hmn3, hl3, R, P, G⟩ := hrel
        obtain ⟨wi, rfl⟩ : ∃ wi : World, wi = wr := ⟨_, rfl⟩
        obtain ⟨ai, ci, rfl⟩ := R.len
        rw [hl3] at R ⊢
        have HR3 := Lib.hid R
        have HL3 := Lib.hid hl3
        have HMJ := Lib.hid hmj
        have hjm : j ≤ mj := by omega
        clear R hl3 hmj
        by_cases hc : j < elN x ∧ (mj : Int) < n
        · obtain ⟨c1, c2⟩ := hc
          have hpg : pgF x mj = F + j := by rw [HMJ.out, HM.out, pg_at HX.out (by have := HK.out; omega) K j c1, HFr.out]
          have HPG := Lib.hid hpg
          cases hin : inB (F + j)
          · have hin2 : ¬(0 ≤ F + j ∧ F + j ≤ 255) := of_decide_eq_false hin
            have HS := Lib.hid (prL_stop HL3.out (by rw [hpg]; exact hin) n.toNat hmn3)
            clear hpg hin
            go_wp2
            all_goals go_ret
            all_goals exact ⟨_, rfl, by rw [HF.out, HS.out]; exact HR3.out.wider (by omega), G⟩
          · obtain ⟨b0, b1⟩ : 0 ≤ F + j ∧ F + j ≤ 255 := of_decide_eq_true hin
            have HN := Lib.hid (prL_next HL3.out (by rw [hpg]; exact hin))
            rw [hpg] at HN
            obtain ⟨pg, hpg2⟩ : ∃ pg, F + (j : Int) = pg := ⟨_, rfl⟩
            rw [hpg2] at HN ⊢
            have hB := G.size
            have HA := Lib.hid HR3.out.above
            have hlen : (prL x mj).length < 1000000 := by rw [HL3.out]; have := prL_bound HX.out (by have := HK.out; omega) mj HL3.out; omega
            have HLN := Lib.hid hlen
            have HPA := Lib.hid (show w.heap.size < wi.heap.size from P.lt)
            clear hlen hpg hin
            go_wp2_with (at_builtin; go_loud (refine wpList_append_row _ rfl (.tmp 85) (.tmp 87) 22 rfl (w.heap.size + 1) info_I und_I (by decide) (by decide) enc1_len (.slice ai mj ci) (prL x mj) rfl (HR3.out.alloc _) _ _ pg rfl (Own.new _ _ _) enc1_one HLN.out (by decide) (by have := HPA.out; simp; omega) ?_; intro g3 cap w3 R3 G3 o3))
            exact ⟨⟨j + 1, mj + 1, _, rfl, by rw [← hpg2, show F + (j : Int) + 1 = F + ((j + 1 : Nat) : Int) from by omega], by omega, by have := HMJ.out; omega, by omega, HN.out.2, by rw [HN.out.1]; exact R3, Own.keptA (B := w.heap.size + 1) (P.alloc _) G3 (fun y e => HA.out y e) (by omega), Grew.keptA (B := w.heap.size + 1) (G.alloc _) G3 (fun y e => HA.out y e) (by omega)⟩, by simp [intOf]; omega⟩
        · have hmK3 : mj < n.toNat → mj = (K + 1) * elN x := fun h => by
            have : j = elN x := by omega
            rw [HMJ.out, HM.out, Nat.succ_mul, this]
          have HMK := Lib.hid hmK3
          clear hmK3
          by_cases c1 : j < elN x
          · have c2 : ¬(mj : Int) < n := fun h => hc ⟨c1, h⟩
            clear hc
            go_wp2
            exact ⟨⟨K + 1, mj, _, rfl, by rw [← hkk, show (K : Int) + 1 + 1 = ((K + 1 : Nat) : Int) + 1 from by omega], by omega, hmn3, HMK.out, HL3.out, HR3.out, P, G⟩, by simp [intOf]; omega⟩
          · clear hc
            go_wp2
            exact ⟨⟨K + 1, mj, _, rfl, by rw [← hkk, show (K : Int) + 1 + 1 = ((K + 1 : Nat) : Int) + 1 from by omega], by omega, hmn3, HMK.out, HL3.out, HR3.out, P, G⟩, by simp [intOf]; omega⟩
    · have hmn2 : m = n.toNat := by omega
      go_wp2
      go_ret
      exact ⟨_, rfl, by rw [HF.out, ← hmn2]; exact HR.out.wider (by omega), G⟩
theorem rpredict_any (x : Str) (n : Int) (w : World) : Calls Tryd.prog 23 #[strV x, .int .i64 n] w (RetI1 (prF x n) w) := by
  cases h0 : rgtB x
  · exact rpredict_no x n w (.inl h0)
  · have hx : RgtP x := of_decide_eq_true h0
    by_cases k1 : x.k = 1
    · exact rpredict_no x n w (.inr k1)
    · have hc : x.k = 2 ∨ x.k = 3 ∨ x.k = 4 := by have h := hx.2.2.2.2.2.2; omega
      rcases hc with h | h | h
      · exact rpredict_2 x n w hx h
      · exact rpredict_3 x n w hx h
      · exact rpredict_4 x n w hx h
end Go.Proofs.YtfljohgcbihhbaaDoor
