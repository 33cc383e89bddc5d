/- ThrottleGrows holds: a pause is not shorter with more dirty pages, more pages or a lower rate; what it is at both ends. -/
import Derived.Test.YtgeicbkhhmlceaaTh2
namespace Go.Proofs.Ytgeicbkhhmlceaa
open Go.ChangeShapes Go.WideShapes Go.ChangeAt Go.RowKit Go.Mine

set_option maxRecDepth 100000 in
set_option maxHeartbeats 4000000 in
theorem grows_core (d o l r k : Int) (w : World) (_ : (Lit.int .i64 d).wf = true) (_ : (Lit.int .i64 o).wf = true) (_ : (Lit.int .i64 l).wf = true) (_ : (Lit.int .i64 r).wf = true) (_ : (Lit.int .i64 k).wf = true) :
    Calls Try.prog 4 #[.int .i64 d, .int .i64 o, .int .i64 l, .int .i64 r, .int .i64 k] w (RetG (.bool true) w) := by
  obtain ⟨n0, n1⟩ := cut_lt l 65 (by omega)
  obtain ⟨a0, a1⟩ := cut_lt d 65 (by omega)
  obtain ⟨r0, r1⟩ := cut_lt r 3000 (by omega)
  obtain ⟨k0, k1⟩ := cut_lt k 6 (by omega)
  obtain ⟨n, hn⟩ : ∃ x, cut l 65 = x := ⟨_, rfl⟩
  obtain ⟨a, ha⟩ : ∃ x, cut d 65 = x := ⟨_, rfl⟩
  obtain ⟨s, hs⟩ : ∃ x, cut r 3000 = x := ⟨_, rfl⟩
  obtain ⟨m, hm⟩ : ∃ x, cut k 6 = x := ⟨_, rfl⟩
  rw [hn] at n0 n1
  rw [ha] at a0 a1
  rw [hs] at r0 r1
  rw [hm] at k0 k1
  obtain ⟨q0, q1⟩ := cut_lt o (65 - a) (by omega)
  obtain ⟨q, hq⟩ : ∃ x, cut o (65 - a) = x := ⟨_, rfl⟩
  rw [hq] at q0 q1
  have HN := Lib.hid hn
  have HA := Lib.hid ha
  have HS := Lib.hid hs
  have HM := Lib.hid hm
  have HQ := Lib.hid hq
  obtain ⟨b, hB⟩ : ∃ x, a + q = x := ⟨_, rfl⟩
  obtain ⟨R, hR⟩ : ∃ x, 1 + s = x := ⟨_, rfl⟩
  have nA : wrap64 (65 - a) = 65 - a := IntWalk.wrap64_in _ (by omega)
  have nB : wrap64 (a + q) = b := (IntWalk.wrap64_in _ (by omega)).trans hB
  have niB : IntKind.i64.wrap (a + q) = b := (IntWalk.i64_in _ (by omega)).trans hB
  have nR : wrap64 (1 + s) = R := (IntWalk.wrap64_in _ (by omega)).trans hR
  have niR : IntKind.i64.wrap (1 + s) = R := (IntWalk.i64_in _ (by omega)).trans hR
  have nR2 : wrap64 (R + 1) = R + 1 := IntWalk.wrap64_in _ (by omega)
  have nm2 : wrap64 (m + 1) = m + 1 := IntWalk.wrap64_in _ (by omega)
  obtain ⟨p, hp⟩ : ∃ x, uT a n R m = x := ⟨_, rfl⟩
  obtain ⟨y1, hy1⟩ : ∃ x, uT b n R m = x := ⟨_, rfl⟩
  obtain ⟨y2, hy2⟩ : ∃ x, uT a n R (m + 1) = x := ⟨_, rfl⟩
  obtain ⟨y3, hy3⟩ : ∃ x, uT a n (R + 1) m = x := ⟨_, rfl⟩
  have hb := uT_b a n R m
  have l1 : uT a n R m ≤ uT b n R m := uT_mono a0 (by omega) n0 (by omega) k0 (by omega) (by omega) (by omega) (by omega) (by omega)
  have l2 : uT a n R m ≤ uT a n R (m + 1) := uT_mono a0 (by omega) n0 (by omega) k0 (by omega) (by omega) (by omega) (by omega) (by omega)
  have l3 : uT a n (R + 1) m ≤ uT a n R m := uT_mono a0 (by omega) n0 (by omega) k0 (by omega) (by omega) (by omega) (by omega) (by omega)
  have hen : 0 < m → (2 * a ≤ n ↔ uT a n R m = 0) ∧ (¬2 * a ≤ n → n ≤ a → uT a n R m = 64) := fun h => uT_ends a0 (by omega) n0 (by omega) (by omega) (by omega) (by omega)
  rw [hp] at hb l1 l2 l3 hen
  rw [hy1] at l1
  rw [hy2] at l2
  rw [hy3] at l3
  obtain ⟨p0, p1⟩ := hb
  have HEN := Lib.hid hen
  have HP := Lib.hid hp
  have H1 := Lib.hid hy1
  have H2 := Lib.hid hy2
  have H3 := Lib.hid hy3
  have t1 : decide (p > y1) = false := decide_eq_false (by omega)
  have t1' : decide (y1 < p) = false := decide_eq_false (by omega)
  have t2 : decide (p > y2) = false := decide_eq_false (by omega)
  have t2' : decide (y2 < p) = false := decide_eq_false (by omega)
  have t3 : decide (p < y3) = false := decide_eq_false (by omega)
  have t4 : decide (p < 0) = false := decide_eq_false (by omega)
  have t5 : decide (p > 64) = false := decide_eq_false (by omega)
  have t5' : decide (64 < p) = false := decide_eq_false (by omega)
  have n2 : wrap64 (2 * a) = 2 * a := IntWalk.wrap64_in _ (by omega)
  have n2i : IntKind.i64.wrap (2 * a) = 2 * a := IntWalk.i64_in _ (by omega)
  have hqa : 1 ≤ 65 - a := by omega
  have hqb : 65 - a ≤ 1000000 := by omega
  clear hn ha hs hm hq hB hR hp hy1 hy2 hy3 l1 l2 l3 hen q0 q1
  go_enter Try.func4, Try.ntmps4
  go_wp2_with fail
  with_reducible refine (cut_any _ _ _ (by omega) (by omega)).mono ?_
  rintro e w1 ⟨rfl, rfl⟩
  rw [HN.out]
  go_wp2_with fail
  with_reducible refine (cut_any _ _ _ (by omega) (by omega)).mono ?_
  rintro e w1 ⟨rfl, rfl⟩
  rw [HA.out]
  go_wp2_with fail
  with_reducible refine (cut_any _ _ _ hqa hqb).mono ?_
  rintro e w1 ⟨rfl, rfl⟩
  rw [HQ.out]
  go_wp2_with fail
  with_reducible refine (cut_any _ _ _ (by omega) (by omega)).mono ?_
  rintro e w1 ⟨rfl, rfl⟩
  rw [HS.out]
  go_wp2_with fail
  with_reducible refine (cut_any _ _ _ (by omega) (by omega)).mono ?_
  rintro e w1 ⟨rfl, rfl⟩
  rw [HM.out]
  go_wp2_with fail
  with_reducible refine (pause_p HP.out).mono ?_
  rintro e w1 ⟨rfl, rfl⟩
  go_wp2_with fail
  with_reducible refine (pause_p H1.out).mono ?_
  rintro e w1 ⟨rfl, rfl⟩
  go_wp2_with fail
  with_reducible refine (pause_p H2.out).mono ?_
  rintro e w1 ⟨rfl, rfl⟩
  go_wp2_with fail
  with_reducible refine (pause_p H3.out).mono ?_
  rintro e w1 ⟨rfl, rfl⟩
  clear nA nB niB nR niR nR2 nm2 hqa hqb H1 H2 H3 HP
  by_cases hm0 : 0 < m
  · obtain ⟨h1, h2⟩ := HEN.out hm0
    clear HEN
    by_cases hc : 2 * a ≤ n
    · obtain rfl : p = 0 := h1.1 hc
      clear h1 h2
      go_wp2_with fail
      with_reducible refine (awake_any _).mono ?_
      rintro e w2 ⟨rfl, g2⟩
      go_wp2
      go_ret
      exact ⟨rfl, g2⟩
    · have hp0 : (p == 0) = false := by
        have : ¬p = 0 := fun h => hc (h1.2 h)
        simpa using this
      by_cases hc2 : n ≤ a
      · obtain rfl : p = 64 := h2 (by omega) hc2
        clear h1 h2
        go_wp2_with fail
        with_reducible refine (awake_any _).mono ?_
        rintro e w2 ⟨rfl, g2⟩
        go_wp2
        go_ret
        exact ⟨rfl, g2⟩
      · clear h1 h2
        go_wp2_with fail
        with_reducible refine (awake_any _).mono ?_
        rintro e w2 ⟨rfl, g2⟩
        go_wp2
        go_ret
        exact ⟨rfl, g2⟩
  · obtain rfl : m = 0 := by omega
    clear HEN
    go_wp2_with fail
    with_reducible refine (awake_any _).mono ?_
    rintro e w2 ⟨rfl, g2⟩
    go_wp2
    go_ret
    exact ⟨rfl, g2⟩

theorem Try.own : ownKnob Try.prog.godebug = none := by kernel_rfl
theorem Try.laidOut : laidOutB Try.prog = true := by kernel_rfl

theorem throttleGrows_contract (W : World) (base : Nat) (args : Array Value) (H : Type) (enc : TypeId × Value → H) (ds : List (DataW H)) (p : List MemPlace)
    (hval : ∀ (j : Nat) t v, Try.f4.params[j]? = some t → args[j]? = some v → Value.okWide Try.prog W .any base t v)
    (hA : DataW.TrodAll enc Try.prog W 0 (fun _ => true) true Try.f4.params.toList args.toList ds p) :
    (∃ d0 d1 d2 d3 d4, ds = [d0, d1, d2, d3, d4]) ∧ Calls Try.prog 4 args W fun e W' => e = .returned (.bool true) ∧ Below W.heap.size W W' := by
  rw [Try.params4] at hval hA
  obtain ⟨v0, v1, v2, v3, v4, d0, d1, d2, d3, d4, p0, p1, p2, p3, p4, ha, hd, hp, h0, h1, h2, h3, h4⟩ := args_5 hA
  subst ha hd
  obtain ⟨n0, rfl, -, -, hw0⟩ := open_int Try.underlying3 (hval 0 _ _ rfl rfl) h0
  obtain ⟨n1, rfl, -, -, hw1⟩ := open_int Try.underlying3 (hval 1 _ _ rfl rfl) h1
  obtain ⟨n2, rfl, -, -, hw2⟩ := open_int Try.underlying3 (hval 2 _ _ rfl rfl) h2
  obtain ⟨n3, rfl, -, -, hw3⟩ := open_int Try.underlying3 (hval 3 _ _ rfl rfl) h3
  obtain ⟨n4, rfl, -, -, hw4⟩ := open_int Try.underlying3 (hval 4 _ _ rfl rfl) h4
  exact ⟨⟨_, _, _, _, _, rfl⟩, (grows_core n0 n1 n2 n3 n4 W hw0 hw1 hw2 hw3 hw4).mono fun _ _ h => h⟩

set_option maxRecDepth 100000 in
theorem throttleGrows_lifted (os : Os) (started : os.Started) (H : Type) (enc : TypeId × Value → H) :
    ReturnsInHanded {} Try.checked os 4 .any (Rows.throttleGrowsSpec.pre6 enc Try.prog Try.f4 Rows.throttleGrowsRow.domain false) (Rows.throttleGrowsSpec.post enc Try.prog Try.f4 false true false false) := by
  refine returnsInHanded_of_change (C := Try.checked) Try.own started (by kernel_rfl) Try.func4
    (ChangeSpec.witness6 (enc := enc) (C := Try.checked) false ⟨#[], #[.int .i64 0, .int .i64 0, .int .i64 0, .int .i64 0, .int .i64 0], []⟩ 8 (by kernel_rfl) (by kernel_rfl) (by kernel_rfl) (by kernel_rfl)) ?_
  intro W base args ds gs before hval hW _ _
  obtain ⟨p, q, hA, hV, hrest⟩ := id hW
  obtain ⟨⟨d0, d1, d2, d3, d4, rfl⟩, hc⟩ := throttleGrows_contract W base args H enc ds p hval hA
  obtain ⟨rfl, -⟩ := trodVars_none hV
  refine hc.mono fun e W' ⟨he, hb⟩ => ⟨_, he, ?_⟩
  exact law_close (tb := 4) Try.laidOut (by rw [Try.params4]; decide +kernel) Try.underlying4 rfl rfl hW rfl rfl rfl hb

theorem throttleGrows_holds : Rows.ThrottleGrowsSaid :=
  OpenClaim.holds_of_wide 4 Try.f4 rfl rfl rfl rfl rfl rfl rfl ⟨rfl, rfl, rfl, rfl, rfl⟩ rfl rfl rfl rfl rfl (by kernel_rfl) Try.func4 (by kernel_rfl)
    (of_decide_eq_true (by kernel_rfl)) (by unfold Func.isWrapper; first | (rw [if_pos (by decide +kernel)]; kernel_rfl) | (rw [if_neg (by decide +kernel)]; exact ⟨rfl, rfl⟩))
    (fun os started H enc _ => throttleGrows_lifted os started H enc)
end Go.Proofs.Ytgeicbkhhmlceaa
