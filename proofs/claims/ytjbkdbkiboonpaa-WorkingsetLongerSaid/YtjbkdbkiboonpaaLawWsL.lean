/- WorkingsetLonger holds: while new pages come in one after the other, the distance of an evicted page is by how much longer the list would have had to be. -/
import Derived.Test.YtjbkdbkiboonpaaWs3
import Derived.Test.YtjbkdbkiboonpaaTape
namespace Go.Proofs.Ytjbkdbkiboonpaa
open Go.ChangeShapes Go.WideShapes Go.ChangeAt Go.RowKit Go.Mine

set_option maxRecDepth 100000 in
set_option maxHeartbeats 4000000 in
theorem longer_core (a b c : Int) (w : World) (ha : (Lit.int .i64 a).wf = true) (hb : (Lit.int .i64 b).wf = true) (hc : (Lit.int .i64 c).wf = true) :
    Calls Try.prog 4 #[.int .i64 a, .int .i64 b, .int .i64 c] w (RetG (.bool true) w) := by
  clear ha hb hc
  obtain ⟨a0, a1⟩ := cut_lt a 12 (by omega)
  obtain ⟨b0, b1⟩ := cut_lt b 20 (by omega)
  obtain ⟨c0, c1⟩ := cut_lt c 24 (by omega)
  obtain ⟨x, hx⟩ : ∃ x, cut a 12 = x := ⟨_, rfl⟩
  obtain ⟨y, hy⟩ : ∃ y, cut b 20 = y := ⟨_, rfl⟩
  obtain ⟨z, hz⟩ : ∃ z, cut c 24 = z := ⟨_, rfl⟩
  rw [hx] at a0 a1
  rw [hy] at b0 b1
  rw [hz] at c0 c1
  have HX := Lib.hid hx
  have HY := Lib.hid hy
  have HZ := Lib.hid hz
  clear hx hy hz
  obtain ⟨x, rfl⟩ := Int.eq_ofNat_of_zero_le a0
  obtain ⟨y, rfl⟩ := Int.eq_ofNat_of_zero_le b0
  go_enter Try.func4, Try.ntmps4
  go_wp2_with fail
  with_reducible refine (cut_any _ _ _ (by omega) (by omega)).mono ?_
  rintro e w1 ⟨rfl, rfl⟩
  rw [HX.out]
  go_wp2_with fail
  with_reducible refine (cut_any _ _ _ (by omega) (by omega)).mono ?_
  rintro e w1 ⟨rfl, rfl⟩
  rw [HY.out]
  have s0 : shN 0 = -1 := by decide
  have s0e : shE 0 = 0 := by decide
  go_wp2_with fail
  with_reducible refine (shadow_any _ _ (by decide)).mono ?_
  rintro e w1 ⟨rfl, rfl⟩
  rw [s0, s0e]
  go_wp2_with fail
  go_loopw [11, 12] (fun cv pv wr => ∃ j : Nat, cv = .int .i64 j ∧ pv = .int .i64 (1 + x + j) ∧ j ≤ y + 1 ∧ Grew w wr) (fun cv _ _ => y + 1 - (intOf cv).toNat)
  case atStart => exact ⟨0, rfl, by simp, by omega, Grew.refl _⟩
  case round =>
    obtain ⟨j, rfl, rfl, hj, G⟩ := hrel
    obtain ⟨wo, rfl⟩ : ∃ wo : World, wo = wr := ⟨_, rfl⟩
    by_cases hlt : j < y + 1
    · have ht : decide ((1 + x + j : Int) < 1 + x + (1 + y)) = true := decide_eq_true (by omega)
      go_wp2_with fail
      go_roundw
      case rel => exact ⟨j + 1, by go_num, by go_num, by omega, G⟩
      case measure => simp [intOf]; omega
    · have ht : decide ((1 + x + j : Int) < 1 + x + (1 + y)) = false := decide_eq_false (by omega)
      have HJ := Lib.hid (show (j : Int) = y + 1 by omega)
      have HC : Hid ((0 : Int) ≤ 1 + (y : Int) ∧ 1 + (y : Int) ≤ 1000000) := Lib.hid (by omega)
      have HP : Hid (-1000001 ≤ (-1 : Int) ∧ (-1 : Int) ≤ -1 ∧ -((-1 : Int) + 1) < 1 + (y : Int)) := Lib.hid (by omega)
      have e1 : Hid (diE (1 + (y : Int)) (-1) = 0) := Lib.hid (by rw [diE, if_pos HC.out, if_pos HP.out])
      have e2 : Hid (diN (1 + (y : Int)) (-1) = 1 + (y : Int)) := Lib.hid (by rw [diN, if_pos HC.out, if_pos HP.out]; omega)
      have e3 : Hid (acB (1 + (y : Int)) (-1) z = decide (1 + (y : Int) ≤ z)) := Lib.hid (decide_eq_decide.2 ⟨fun h => by omega, fun h => ⟨HC.out, HP.out, by omega⟩⟩)
      rw [show (j : Int) = 1 + (y : Int) by have := HJ.out; omega] at ht ⊢
      clear hj hlt HJ
      go_wp2_with fail
      with_reducible refine (distance_any _ _ _ (by decide)).mono ?_
      rintro e w1 ⟨rfl, g1⟩
      rw [e1.out, e2.out]
      go_wp2_with fail
      with_reducible refine (cut_any _ _ _ (by omega) (by omega)).mono ?_
      rintro e w2 ⟨rfl, rfl⟩
      rw [HZ.out]
      go_wp2_with fail
      with_reducible refine (activate_any _ _ _ _ (by decide)).mono ?_
      rintro e w3 ⟨rfl, g3⟩
      rw [e3.out]
      go_wp2_with fail
      with_reducible refine (awake_any _).mono ?_
      rintro e w4 ⟨rfl, g4⟩
      go_wp2
      go_ret
      exact ⟨rfl, ((G.trans g1).trans g3).trans g4⟩

theorem Try.own : ownKnob Try.prog.godebug = none := by kernel_rfl
theorem Try.laidOut : laidOutB Try.prog = true := by kernel_rfl

theorem workingsetLonger_contract (W : World) (base : Nat) (args : Array Value) (H : Type) (enc : TypeId × Value → H) (ds : List (DataW H)) (p : List MemPlace)
    (hval : ∀ (j : Nat) t v, Try.f4.params[j]? = some t → args[j]? = some v → Value.okWide Try.prog W .any base t v)
    (hA : DataW.TrodAll enc Try.prog W 0 (fun _ => true) true Try.f4.params.toList args.toList ds p) :
    (∃ d0 d1 d2, ds = [d0, d1, d2]) ∧ Calls Try.prog 4 args W fun e W' => e = .returned (.bool true) ∧ Below W.heap.size W W' := by
  rw [Try.params4] at hval hA
  obtain ⟨v0, v1, v2, d0, d1, d2, p0, p1, p2, ha, hd, hp, h0, h1, h2⟩ := args_3 hA
  subst ha hd
  obtain ⟨n0, rfl, -, -, hw0⟩ := open_int Try.underlying3 (hval 0 _ _ rfl rfl) h0
  obtain ⟨n1, rfl, -, -, hw1⟩ := open_int Try.underlying3 (hval 1 _ _ rfl rfl) h1
  obtain ⟨n2, rfl, -, -, hw2⟩ := open_int Try.underlying3 (hval 2 _ _ rfl rfl) h2
  exact ⟨⟨_, _, _, rfl⟩, (longer_core n0 n1 n2 W hw0 hw1 hw2).mono fun _ _ h => h⟩

set_option maxRecDepth 100000 in
theorem workingsetLonger_lifted (os : Os) (started : os.Started) (H : Type) (enc : TypeId × Value → H) :
    ReturnsInHanded {} Try.checked os 4 .any (Rows.workingsetLongerSpec.pre6 enc Try.prog Try.f4 Rows.workingsetLongerRow.domain false) (Rows.workingsetLongerSpec.post enc Try.prog Try.f4 false true false false) := by
  refine returnsInHanded_of_change (C := Try.checked) Try.own started (by kernel_rfl) Try.func4
    (ChangeSpec.witness6 (enc := enc) (C := Try.checked) false ⟨#[], #[.int .i64 0, .int .i64 0, .int .i64 0], []⟩ 8 (by kernel_rfl) (by kernel_rfl) (by kernel_rfl) (by kernel_rfl)) ?_
  intro W base args ds gs before hval hW _ _
  obtain ⟨p, q, hA, hV, hrest⟩ := id hW
  obtain ⟨⟨d0, d1, d2, rfl⟩, hc⟩ := workingsetLonger_contract W base args H enc ds p hval hA
  obtain ⟨rfl, -⟩ := trodVars_none hV
  refine hc.mono fun e W' ⟨he, hb⟩ => ⟨_, he, ?_⟩
  exact law_close (tb := 4) Try.laidOut (by rw [Try.params4]; decide +kernel) Try.underlying4 rfl rfl hW rfl rfl rfl hb

theorem workingsetLonger_holds : Rows.WorkingsetLongerSaid :=
  OpenClaim.holds_of_wide 4 Try.f4 rfl rfl rfl rfl rfl rfl rfl ⟨rfl, rfl, rfl, rfl, rfl⟩ rfl rfl rfl rfl rfl (by kernel_rfl) Try.func4 (by kernel_rfl)
    (of_decide_eq_true (by kernel_rfl)) (by unfold Func.isWrapper; first | (rw [if_pos (by decide +kernel)]; kernel_rfl) | (rw [if_neg (by decide +kernel)]; exact ⟨rfl, rfl⟩))
    (fun os started H enc _ => workingsetLonger_lifted os started H enc)
end Go.Proofs.Ytjbkdbkiboonpaa
