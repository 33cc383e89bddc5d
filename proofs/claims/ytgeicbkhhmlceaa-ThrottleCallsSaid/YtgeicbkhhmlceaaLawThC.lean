/- ThrottleCalls holds: positions and pauses are those of the document's answer. -/
import Derived.Test.YtgeicbkhhmlceaaTh2
import Derived.Deep.DeepCutAuto
import Derived.Deep.CutBlock
namespace Go.Mine
open Go Go.RowKit
/-- Four numbers; nothing that was there has turned. -/
def ThCut (w : World) (v4 v5 v6 v7 : Value) (wx : World) : Prop := ∃ d n r p : Int, v4 = .int .i64 d ∧ v5 = .int .i64 n ∧ v6 = .int .i64 r ∧ v7 = .int .i64 p ∧ Grew w wx
end Go.Mine
namespace Go.Proofs.Ytgeicbkhhmlceaa
open Go.ChangeShapes Go.WideShapes Go.ChangeAt Go.RowKit Go.Mine

set_option maxRecDepth 100000 in
set_option maxHeartbeats 8000000 in
theorem thcalls_core (A : Option Addr) (c : Nat) (xs : List Int) (w : World) (hr : IntRow w A xs) (hm : xs.length ≤ maxLen) :
    Calls Try.prog 3 #[.slice A xs.length c] w (RetG (.bool true) w) := by
  have tp := Tp.made hr hm c 25
  have gA := (Grew.refl w).alloc (.cells #[.slice A xs.length c, .int .i64 0] 25)
  have hbw : w.heap.size + 1 ≤ (w.alloc (.cells #[.slice A xs.length c, .int .i64 0] 25)).heap.size := by simp
  have hB0 : w.heap.size < w.heap.size + 1 := Nat.lt_succ_self _
  clear hr hm
  generalize hX : xs.length = X at *
  clear hX
  go_enter Try.func3, Try.ntmps3
  go_wp2_with fail
  with_reducible refine (next_x _ _ _ _ (by omega) (by omega) tp).mono ?_
  rintro e w1 ⟨d, d0, d1, rfl, T1, g1⟩
  have HG1 := Lib.hid (gA.past g1 (Nat.le_refl _))
  have hb1 := Nat.le_trans hbw g1.size
  clear gA tp g1 hbw
  go_wp2_with fail
  with_reducible refine (next_x _ _ _ _ (by omega) (by omega) T1).mono ?_
  rintro e w2 ⟨n, n0, n1, rfl, T2, g2⟩
  have HG2 := Lib.hid (HG1.out.past g2 (Nat.le_refl _))
  have hb2 := Nat.le_trans hb1 g2.size
  clear HG1 T1 g2 hb1
  go_wp2_with fail
  with_reducible refine (next_x _ _ _ _ (by omega) (by omega) T2).mono ?_
  rintro e w3 ⟨r, r0, r1, rfl, T3, g3⟩
  have HG3 := Lib.hid (HG2.out.past g3 (Nat.le_refl _))
  have hb3 := Nat.le_trans hb2 g3.size
  clear HG2 T2 g3 hb2
  go_wp2_with fail
  with_reducible refine (next_x _ _ _ _ (by omega) (by omega) T3).mono ?_
  rintro e w4 ⟨p, p0, p1, rfl, T4, g4⟩
  have HG4 := Lib.hid (HG3.out.past g4 (Nat.le_refl _))
  have hb4 := Nat.le_trans hb3 g4.size
  clear HG3 T3 g4 hb3
  go_wp2_with fail
  with_reducible refine (next_x _ _ _ _ (by omega) (by omega) T4).mono ?_
  rintro e w5 ⟨q, q0, q1, rfl, T5, g5⟩
  have HG5 := Lib.hid (HG4.out.past g5 (Nat.le_refl _))
  have hb5 := Nat.le_trans hb4 g5.size
  clear HG4 T4 g5 hb4
  go_upto_block 0 with fail
  go_cut [4, 5, 6, 7] from 25 to 36 (ThCut w)
  case first =>
    by_cases h0 : q = 0
    · subst h0
      go_wp2_with fail
      with_reducible refine (odd_x _ _ _ T5 (by omega)).mono ?_
      rintro e w6 ⟨z, rfl, T6, g6⟩
      have HG6 := Lib.hid (HG5.out.past g6 (Nat.le_refl _))
      have hb6 := Nat.le_trans hb5 g6.size
      clear g6 T5 HG5 hb5
      go_wp2_with fail
      with_reducible refine (odd_x _ _ _ T6 (by omega)).mono ?_
      rintro e w7 ⟨y, rfl, T7, g7⟩
      have HG7 := Lib.hid (HG6.out.past g7 (Nat.le_refl _))
      clear g7 T6 HG6 hb6
      go_wp2_with fail
      go_meet
      exact ⟨_, _, _, _, rfl, rfl, rfl, rfl, HG7.out⟩
    · have e0 : (q == 0) = false := by simpa using h0
      by_cases h1 : q = 1
      · subst h1
        go_wp2_with fail
        with_reducible refine (odd_x _ _ _ T5 (by omega)).mono ?_
        rintro e w6 ⟨z, rfl, T6, g6⟩
        have HG6 := Lib.hid (HG5.out.past g6 (Nat.le_refl _))
        have hb6 := Nat.le_trans hb5 g6.size
        clear g6 T5 HG5 hb5
        go_wp2_with fail
        with_reducible refine (odd_x _ _ _ T6 (by omega)).mono ?_
        rintro e w7 ⟨y, rfl, T7, g7⟩
        have HG7 := Lib.hid (HG6.out.past g7 (Nat.le_refl _))
        clear g7 T6 HG6 hb6
        go_wp2_with fail
        go_meet
        exact ⟨_, _, _, _, rfl, rfl, rfl, rfl, HG7.out⟩
      · have e1 : (q == 1) = false := by simpa using h1
        clear h0 h1
        go_wp2_with fail
        go_meet
        exact ⟨_, _, _, _, rfl, rfl, rfl, rfl, HG5.out⟩
  case rest =>
    clear T5 HG5 hb5
    obtain ⟨D, N, R, P, rfl, rfl, rfl, rfl, G⟩ := hcut
    go_wp2_with fail
    with_reducible refine (free_p rfl).mono ?_
    rintro e w1 ⟨rfl, rfl⟩
    go_wp2_with fail
    with_reducible refine (free_q rfl).mono ?_
    rintro e w1 ⟨rfl, rfl⟩
    go_wp2_with fail
    with_reducible refine (pos_p rfl).mono ?_
    rintro e w1 ⟨rfl, rfl⟩
    go_wp2_with fail
    with_reducible refine (pos_q rfl).mono ?_
    rintro e w1 ⟨rfl, rfl⟩
    go_wp2_with fail
    with_reducible refine (pause_p rfl).mono ?_
    rintro e w1 ⟨rfl, rfl⟩
    go_wp2_with fail
    with_reducible refine (pause_q rfl).mono ?_
    rintro e w1 ⟨rfl, rfl⟩
    go_wp2_with fail
    with_reducible refine (awake_any _).mono ?_
    rintro e w2 ⟨rfl, g2⟩
    go_wp2
    go_ret
    exact ⟨by simp, G.trans g2⟩

theorem Try.own : ownKnob Try.prog.godebug = none := by kernel_rfl
theorem Try.laidOut : laidOutB Try.prog = true := by kernel_rfl

theorem throttleCalls_contract (W : World) (base : Nat) (args : Array Value) (H : Type) (enc : TypeId × Value → H) (ds : List (DataW H)) (p : List MemPlace)
    (hval : ∀ (j : Nat) t v, Try.f3.params[j]? = some t → args[j]? = some v → Value.okWide Try.prog W .any base t v)
    (hA : DataW.TrodAll enc Try.prog W 0 (fun _ => true) true Try.f3.params.toList args.toList ds p) :
    (∃ d0, ds = [d0]) ∧ Calls Try.prog 3 args W fun e W' => e = .returned (.bool true) ∧ Below W.heap.size W W' := by
  rw [Try.params3] at hval hA
  obtain ⟨v0, d0, p0, ha, hd, hp, h0⟩ := args_1 hA
  subst ha hd
  obtain ⟨A0, c0, xs0, rfl, hr0, hm0⟩ := open_introw Try.underlying22 Try.underlying3 (by kernel_rfl) (hval 0 _ _ rfl rfl) h0
  exact ⟨⟨_, rfl⟩, (thcalls_core A0 c0 xs0 W hr0 hm0).mono fun _ _ h => h⟩

set_option maxRecDepth 100000 in
theorem throttleCalls_lifted (os : Os) (started : os.Started) (H : Type) (enc : TypeId × Value → H) :
    ReturnsInHanded {} Try.checked os 3 .any (Rows.throttleCallsSpec.pre6 enc Try.prog Try.f3 Rows.throttleCallsRow.domain false) (Rows.throttleCallsSpec.post enc Try.prog Try.f3 false true false false) := by
  refine returnsInHanded_of_change (C := Try.checked) Try.own started (by kernel_rfl) Try.func3
    (ChangeSpec.witness6 (enc := enc) (C := Try.checked) false ⟨#[], #[.slice none 0 0], []⟩ 8 (by kernel_rfl) (by kernel_rfl) (by kernel_rfl) (by kernel_rfl)) ?_
  intro W base args ds gs before hval hW _ _
  obtain ⟨p, q, hA, hV, hrest⟩ := id hW
  obtain ⟨⟨d0, rfl⟩, hc⟩ := throttleCalls_contract W base args H enc ds p hval hA
  obtain ⟨rfl, -⟩ := trodVars_none hV
  refine hc.mono fun e W' ⟨he, hb⟩ => ⟨_, he, ?_⟩
  exact law_close (tb := 4) Try.laidOut (by rw [Try.params3]; decide +kernel) Try.underlying4 rfl rfl hW rfl rfl rfl hb

theorem throttleCalls_holds : Rows.ThrottleCallsSaid :=
  OpenClaim.holds_of_wide 3 Try.f3 rfl rfl rfl rfl rfl rfl rfl ⟨rfl, rfl, rfl, rfl, rfl⟩ rfl rfl rfl rfl rfl (by kernel_rfl) Try.func3 (by kernel_rfl)
    (of_decide_eq_true (by kernel_rfl)) (by unfold Func.isWrapper; first | (rw [if_pos (by decide +kernel)]; kernel_rfl) | (rw [if_neg (by decide +kernel)]; exact ⟨rfl, rfl⟩))
    (fun os started H enc _ => throttleCalls_lifted os started H enc)
end Go.Proofs.Ytgeicbkhhmlceaa
