/- ThrottlePays holds: in a pause as many pages are written as were dirtied, and not in one tick less. -/
import Derived.Test.YtgeicbkhhmlceaaTh2
namespace Go.Proofs.Ytgeicbkhhmlceaa
open Go.ChangeShapes Go.WideShapes Go.ChangeAt Go.RowKit Go.Mine

set_option maxRecDepth 100000 in
set_option maxHeartbeats 4000000 in
theorem pays_core (d l r k : Int) (w : World) (_ : (Lit.int .i64 d).wf = true) (_ : (Lit.int .i64 l).wf = true) (_ : (Lit.int .i64 r).wf = true) (_ : (Lit.int .i64 k).wf = true) :
    Calls Try.prog 5 #[.int .i64 d, .int .i64 l, .int .i64 r, .int .i64 k] w (RetG (.bool true) w) := by
  obtain ⟨n0, n1⟩ := cut_lt l 65 (by omega)
  obtain ⟨a0, a1⟩ := cut_lt d 65 (by omega)
  obtain ⟨r0, r1⟩ := cut_lt r 3000 (by omega)
  obtain ⟨k0, k1⟩ := cut_lt k 5 (by omega)
  obtain ⟨n, hn⟩ : ∃ x, cut l 65 = x := ⟨_, rfl⟩
  obtain ⟨a, ha⟩ : ∃ x, cut d 65 = x := ⟨_, rfl⟩
  obtain ⟨s, hs⟩ : ∃ x, cut r 3000 = x := ⟨_, rfl⟩
  obtain ⟨m, hm⟩ : ∃ x, cut k 5 = x := ⟨_, rfl⟩
  rw [hn] at n0 n1
  rw [ha] at a0 a1
  rw [hs] at r0 r1
  rw [hm] at k0 k1
  have HN := Lib.hid hn
  have HA := Lib.hid ha
  have HS := Lib.hid hs
  have HM := Lib.hid hm
  obtain ⟨R, hR⟩ : ∃ x, 1 + s = x := ⟨_, rfl⟩
  obtain ⟨K, hK⟩ : ∃ x, 1 + m = x := ⟨_, rfl⟩
  have nR : wrap64 (1 + s) = R := (IntWalk.wrap64_in _ (by omega)).trans hR
  have nK : wrap64 (1 + m) = K := (IntWalk.wrap64_in _ (by omega)).trans hK
  have niR : IntKind.i64.wrap (1 + s) = R := (IntWalk.i64_in _ (by omega)).trans hR
  have niK : IntKind.i64.wrap (1 + m) = K := (IntWalk.i64_in _ (by omega)).trans hK
  have R0 : 1 ≤ R := by omega
  have R1 : R ≤ 3000 := by omega
  have K0 : 1 ≤ K := by omega
  have K1 : K ≤ 5 := by omega
  obtain ⟨p, hp⟩ : ∃ x, uT a n R K = x := ⟨_, rfl⟩
  obtain ⟨x, hx⟩ : ∃ x, pT a n = x := ⟨_, rfl⟩
  have hb := uT_b a n R K
  have hxb := pT_b a n
  have hpay := uT_pays (a := a) (n := n) (r := R) (k := K)
  rw [hp] at hb hpay
  rw [hx] at hxb hpay
  obtain ⟨p0, p1⟩ := hb
  obtain ⟨x0, x1⟩ := hxb
  have HP := Lib.hid hp
  have HX := Lib.hid hx
  have HPAY := Lib.hid hpay
  clear hn ha hs hm hp hx hpay n0 n1 a0 a1
  go_enter Try.func5, Try.ntmps5
  go_wp2_with fail
  with_reducible refine (cut_any _ _ _ (by omega) (by omega)).mono ?_
  rintro e w1 ⟨rfl, rfl⟩
  rw [HN.out]
  go_wp2_with fail
  with_reducible refine (cut_any _ _ _ (by omega) (by omega)).mono ?_
  rintro e w1 ⟨rfl, rfl⟩
  rw [HA.out]
  go_wp2_with fail
  with_reducible refine (cut_any _ _ _ (by omega) (by omega)).mono ?_
  rintro e w1 ⟨rfl, rfl⟩
  rw [HS.out]
  go_wp2_with fail
  with_reducible refine (cut_any _ _ _ (by omega) (by omega)).mono ?_
  rintro e w1 ⟨rfl, rfl⟩
  rw [HM.out]
  go_wp2_with fail
  try rw [hR]
  try rw [hK]
  with_reducible refine (pause_p HP.out).mono ?_
  rintro e w1 ⟨rfl, rfl⟩
  go_wp2_with fail
  with_reducible refine (pos_p HX.out).mono ?_
  rintro e w1 ⟨rfl, rfl⟩
  clear nR nK niR niK hR hK r0 r1 k0 k1
  by_cases e0 : p = 0
  · subst e0
    go_wp2_with fail
    with_reducible refine (awake_any _).mono ?_
    rintro e w2 ⟨rfl, g2⟩
    go_wp2
    go_ret
    exact ⟨rfl, g2⟩
  · by_cases e1 : 64 ≤ p
    · have t0 : (p == 0) = false := by simpa using e0
      go_wp2_with fail
      with_reducible refine (awake_any _).mono ?_
      rintro e w2 ⟨rfl, g2⟩
      go_wp2
      go_ret
      exact ⟨rfl, g2⟩
    · have e2 : p < 64 := by omega
      obtain ⟨h1, h2, -⟩ := HPAY.out e0 e2 R1
      have t0 : (p == 0) = false := by simpa using e0
      have t1 : decide (p ≥ 64) = false := decide_eq_false (by omega)
      have t1' : decide (64 ≤ p) = false := decide_eq_false (by omega)
      obtain ⟨b0, b1, b2, b3⟩ := pays_num (p := p) (r := R) (x := x) p0 p1 (by omega) R1 x0 x1
      obtain ⟨c0, c1, c2, c3⟩ := pays_num (p := p - 1) (r := R) (x := x) (by omega) (by omega) (by omega) R1 x0 x1
      obtain ⟨y, hy⟩ : ∃ y, p * R = y := ⟨_, rfl⟩
      obtain ⟨z, hz⟩ : ∃ z, (p - 1) * R = z := ⟨_, rfl⟩
      rw [hy] at b0 b1 b2 b3 h1
      rw [hz] at c0 c1 c2 c3 h2
      obtain ⟨yx, hyx⟩ : ∃ v, y * x = v := ⟨_, rfl⟩
      obtain ⟨zx, hzx⟩ : ∃ v, z * x = v := ⟨_, rfl⟩
      rw [hyx] at b2 b3 h1
      rw [hzx] at c2 c3 h2
      have u1 : wrap64 (p * R) = y := by rw [hy]; exact IntWalk.wrap64_in _ (by omega)
      have u2 : wrap64 (y * x) = yx := by rw [hyx]; exact IntWalk.wrap64_in _ (by omega)
      have u3 : wrap64 ((p - 1) * R) = z := by rw [hz]; exact IntWalk.wrap64_in _ (by omega)
      have u4 : wrap64 (z * x) = zx := by rw [hzx]; exact IntWalk.wrap64_in _ (by omega)
      clear hy hz hyx hzx
      have t2 : decide (yx ≥ K * 65536) = true := decide_eq_true h1
      have t2' : decide (K * 65536 ≤ yx) = true := decide_eq_true h1
      have t3 : decide (zx < K * 65536) = true := decide_eq_true h2
      clear b0 b1 b2 b3 c0 c1 c2 c3 HPAY
      go_wp2_with fail
      with_reducible refine (awake_any _).mono ?_
      rintro e w2 ⟨rfl, g2⟩
      go_wp2
      go_ret
      exact ⟨rfl, g2⟩

theorem Try.own : ownKnob Try.prog.godebug = none := by kernel_rfl
theorem Try.laidOut : laidOutB Try.prog = true := by kernel_rfl

theorem throttlePays_contract (W : World) (base : Nat) (args : Array Value) (H : Type) (enc : TypeId × Value → H) (ds : List (DataW H)) (p : List MemPlace)
    (hval : ∀ (j : Nat) t v, Try.f5.params[j]? = some t → args[j]? = some v → Value.okWide Try.prog W .any base t v)
    (hA : DataW.TrodAll enc Try.prog W 0 (fun _ => true) true Try.f5.params.toList args.toList ds p) :
    (∃ d0 d1 d2 d3, ds = [d0, d1, d2, d3]) ∧ Calls Try.prog 5 args W fun e W' => e = .returned (.bool true) ∧ Below W.heap.size W W' := by
  rw [Try.params5] at hval hA
  obtain ⟨v0, v1, v2, v3, d0, d1, d2, d3, p0, p1, p2, p3, ha, hd, hp, h0, h1, h2, h3⟩ := args_4 hA
  subst ha hd
  obtain ⟨n0, rfl, -, -, hw0⟩ := open_int Try.underlying3 (hval 0 _ _ rfl rfl) h0
  obtain ⟨n1, rfl, -, -, hw1⟩ := open_int Try.underlying3 (hval 1 _ _ rfl rfl) h1
  obtain ⟨n2, rfl, -, -, hw2⟩ := open_int Try.underlying3 (hval 2 _ _ rfl rfl) h2
  obtain ⟨n3, rfl, -, -, hw3⟩ := open_int Try.underlying3 (hval 3 _ _ rfl rfl) h3
  exact ⟨⟨_, _, _, _, rfl⟩, (pays_core n0 n1 n2 n3 W hw0 hw1 hw2 hw3).mono fun _ _ h => h⟩

set_option maxRecDepth 100000 in
theorem throttlePays_lifted (os : Os) (started : os.Started) (H : Type) (enc : TypeId × Value → H) :
    ReturnsInHanded {} Try.checked os 5 .any (Rows.throttlePaysSpec.pre6 enc Try.prog Try.f5 Rows.throttlePaysRow.domain false) (Rows.throttlePaysSpec.post enc Try.prog Try.f5 false true false false) := by
  refine returnsInHanded_of_change (C := Try.checked) Try.own started (by kernel_rfl) Try.func5
    (ChangeSpec.witness6 (enc := enc) (C := Try.checked) false ⟨#[], #[.int .i64 0, .int .i64 0, .int .i64 0, .int .i64 0], []⟩ 8 (by kernel_rfl) (by kernel_rfl) (by kernel_rfl) (by kernel_rfl)) ?_
  intro W base args ds gs before hval hW _ _
  obtain ⟨p, q, hA, hV, hrest⟩ := id hW
  obtain ⟨⟨d0, d1, d2, d3, rfl⟩, hc⟩ := throttlePays_contract W base args H enc ds p hval hA
  obtain ⟨rfl, -⟩ := trodVars_none hV
  refine hc.mono fun e W' ⟨he, hb⟩ => ⟨_, he, ?_⟩
  exact law_close (tb := 4) Try.laidOut (by rw [Try.params5]; decide +kernel) Try.underlying4 rfl rfl hW rfl rfl rfl hb

theorem throttlePays_holds : Rows.ThrottlePaysSaid :=
  OpenClaim.holds_of_wide 5 Try.f5 rfl rfl rfl rfl rfl rfl rfl ⟨rfl, rfl, rfl, rfl, rfl⟩ rfl rfl rfl rfl rfl (by kernel_rfl) Try.func5 (by kernel_rfl)
    (of_decide_eq_true (by kernel_rfl)) (by unfold Func.isWrapper; first | (rw [if_pos (by decide +kernel)]; kernel_rfl) | (rw [if_neg (by decide +kernel)]; exact ⟨rfl, rfl⟩))
    (fun os started H enc _ => throttlePays_lifted os started H enc)
end Go.Proofs.Ytgeicbkhhmlceaa
