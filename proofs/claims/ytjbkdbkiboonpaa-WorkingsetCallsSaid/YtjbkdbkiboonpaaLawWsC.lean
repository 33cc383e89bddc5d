/- WorkingsetCalls holds: shadows, their stamps, distances, and which pages become active at once are the reference's. -/
import Derived.Test.YtjbkdbkiboonpaaWs3
import Derived.Test.YtjbkdbkiboonpaaOdd
import Derived.Deep.DeepCutAuto
import Derived.Deep.CutBlock
namespace Go.Proofs.Ytjbkdbkiboonpaa
open Go.ChangeShapes Go.WideShapes Go.ChangeAt Go.RowKit Go.Mine

/-- Behind the choice of the numbers. -/
def WsCut (w wo : World) (v5 v6 : Value) (wx : World) : Prop := ∃ n s : Int, v5 = .int .i64 n ∧ v6 = .int .i64 s ∧ (Lit.int .i64 n).wf = true ∧ (Lit.int .i64 s).wf = true ∧ Tp (w.heap.size + 1) wx w.heap.size ∧ Grew w wx
set_option maxRecDepth 100000 in
set_option maxHeartbeats 8000000 in
theorem wscalls_core (A : Option Addr) (c : Nat) (xs : List Int) (w : World) (hr : IntRow w A xs) (hm : xs.length ≤ maxLen) :
    Calls Try.prog 3 #[.slice A xs.length c] w (RetG (.bool true) w) := by
  have tp := Tp.made hr hm c 25
  have gA := (Grew.refl w).alloc (.cells #[.slice A xs.length c, .int .i64 0] 25)
  clear hr
  generalize hX : xs.length = X at *
  clear hX
  have HTP := Lib.hid tp
  have HGA := Lib.hid gA
  clear tp gA
  go_enter Try.func3, Try.ntmps3
  go_wp2_with fail
  go_loopw [4] (fun i wr => ∃ n : Nat, i = .int .i64 n ∧ n ≤ 6 ∧ Tp (w.heap.size + 1) wr w.heap.size ∧ Grew w wr) (fun i _ => 6 - (intOf i).toNat)
  case atStart => exact ⟨0, rfl, by omega, HTP.out, HGA.out⟩
  case round =>
    clear HTP HGA
    obtain ⟨n, rfl, hn, tp, gA⟩ := hrel
    obtain ⟨wo, rfl⟩ : ∃ wo : World, wo = wr := ⟨_, rfl⟩
    have hbA : w.heap.size ≤ w.heap.size := Nat.le_refl _
    by_cases hlt : n < 6
    · have hz0 : w.heap.size + 1 ≤ wo.heap.size := tp.lt
      have hlt2 : decide ((n : Int) < 6) = true := decide_eq_true (by omega)
      go_wp2_with fail
      with_reducible refine (next_x _ _ _ _ (by omega) (by omega) tp).mono ?_
      rintro e w1 ⟨q1, q10, q11, rfl, t_w1, g_w1⟩
      have s_w1 : wo.grownBy w1 (some (w.heap.size)) := by first | exact g_w1 | exact grown_trans (grown_alloc (grown_refl _ _) _) g_w1 | exact grown_trans (grown_alloc (grown_alloc (grown_refl _ _) _) _) g_w1 | exact grown_trans (grown_drew (grown_refl _ _)) g_w1 | exact grown_trans (grown_drew (grown_alloc (grown_refl _ _) _)) g_w1
      have z_w1 := s_w1.size
      replace gA := gA.past s_w1 hbA
      clear tp
      have tp := t_w1
      have l_tp_w1 := tp.lt
      clear g_w1 s_w1 t_w1
      go_wp2_with fail
      with_reducible refine (next_x _ _ _ _ (by omega) (by omega) tp).mono ?_
      rintro e w2 ⟨q2, q20, q21, rfl, t_w2, g_w2⟩
      have s_w2 : w1.grownBy w2 (some (w.heap.size)) := by first | exact g_w2 | exact grown_trans (grown_alloc (grown_refl _ _) _) g_w2 | exact grown_trans (grown_alloc (grown_alloc (grown_refl _ _) _) _) g_w2 | exact grown_trans (grown_drew (grown_refl _ _)) g_w2 | exact grown_trans (grown_drew (grown_alloc (grown_refl _ _) _)) g_w2
      have z_w2 := s_w2.size
      replace gA := gA.past s_w2 hbA
      clear tp
      have tp := t_w2
      have l_tp_w2 := tp.lt
      clear g_w2 s_w2 t_w2
      go_wp2_with fail
      with_reducible refine (next_x _ _ _ _ (by omega) (by omega) tp).mono ?_
      rintro e w3 ⟨q3, q30, q31, rfl, t_w3, g_w3⟩
      have s_w3 : w2.grownBy w3 (some (w.heap.size)) := by first | exact g_w3 | exact grown_trans (grown_alloc (grown_refl _ _) _) g_w3 | exact grown_trans (grown_alloc (grown_alloc (grown_refl _ _) _) _) g_w3 | exact grown_trans (grown_drew (grown_refl _ _)) g_w3 | exact grown_trans (grown_drew (grown_alloc (grown_refl _ _) _)) g_w3
      have z_w3 := s_w3.size
      replace gA := gA.past s_w3 hbA
      clear tp
      have tp := t_w3
      have l_tp_w3 := tp.lt
      clear g_w3 s_w3 t_w3
      go_wp2_with fail
      with_reducible refine (next_x _ _ _ _ (by omega) (by omega) tp).mono ?_
      rintro e w4 ⟨q4, q40, q41, rfl, t_w4, g_w4⟩
      have s_w4 : w3.grownBy w4 (some (w.heap.size)) := by first | exact g_w4 | exact grown_trans (grown_alloc (grown_refl _ _) _) g_w4 | exact grown_trans (grown_alloc (grown_alloc (grown_refl _ _) _) _) g_w4 | exact grown_trans (grown_drew (grown_refl _ _)) g_w4 | exact grown_trans (grown_drew (grown_alloc (grown_refl _ _) _)) g_w4
      have z_w4 := s_w4.size
      replace gA := gA.past s_w4 hbA
      clear tp
      have tp := t_w4
      have l_tp_w4 := tp.lt
      clear g_w4 s_w4 t_w4
      have wf1 : (Lit.int .i64 q1).wf = true := WalkArith.wf_i64 (by omega)
      have wf2 : (Lit.int .i64 (-1 - q2)).wf = true := WalkArith.wf_i64 (by omega)
      have W1 := Lib.hid wf1
      have W2 := Lib.hid wf2
      clear wf1 wf2
      by_cases k0 : q4 = 0
      · subst k0
        go_wp2_with fail
        with_reducible refine (odd_w _ _ _ tp (by omega)).mono ?_
        rintro e w5 ⟨z, zw, rfl, t_w5, g_w5⟩
        have s_w5 : w4.grownBy w5 (some (w.heap.size)) := by first | exact g_w5 | exact grown_trans (grown_alloc (grown_refl _ _) _) g_w5 | exact grown_trans (grown_alloc (grown_alloc (grown_refl _ _) _) _) g_w5 | exact grown_trans (grown_drew (grown_refl _ _)) g_w5 | exact grown_trans (grown_drew (grown_alloc (grown_refl _ _) _)) g_w5
        have z_w5 := s_w5.size
        replace gA := gA.past s_w5 hbA
        clear tp
        have tp := t_w5
        have l_tp_w5 := tp.lt
        clear g_w5 s_w5 t_w5
        have WC := Lib.hid zw
        have WS := W2
        clear zw
        have hz5 := gA.size
        have HTP := Lib.hid tp
        have HGA := Lib.hid gA
        clear tp gA
        go_wp2_with fail
        with_reducible refine (shadow_any _ _ WC.out).mono ?_
        rintro e w6 ⟨rfl, rfl⟩
        go_wp2_with fail
        with_reducible refine (qshadow_any _ _).mono ?_
        rintro e w6 ⟨rfl, g6⟩
        go_wp2_with fail
        with_reducible refine (stamp_any _ _ WS.out).mono ?_
        rintro e w7 ⟨rfl, rfl⟩
        go_wp2_with fail
        with_reducible refine (qstamp_any _ _).mono ?_
        rintro e w7 ⟨rfl, g7⟩
        go_wp2_with fail
        with_reducible refine (distance_any _ _ _ WS.out).mono ?_
        rintro e w8 ⟨rfl, g8⟩
        go_wp2_with fail
        with_reducible refine (qdistance_any _ _ _).mono ?_
        rintro e w9 ⟨rfl, g9⟩
        have g69 := g6.trans (g7.trans (g8.trans g9))
        clear g6 g7 g8 g9
        go_wp2_with fail
        with_reducible refine (activate_any _ _ _ _ WS.out).mono ?_
        rintro e wa ⟨rfl, ga⟩
        go_wp2_with fail
        with_reducible refine (qactivate_any _ _ _ _ WS.out).mono ?_
        rintro e wb ⟨rfl, gb⟩
        have gz := g69.trans (ga.trans gb)
        clear g69 ga gb
        go_wp2_with fail
        go_roundw
        case rel => exact ⟨n + 1, by go_num, by omega, HTP.out.grew gz, HGA.out.trans gz⟩
        case measure => simp [intOf]; omega
      · have k0b : (q4 == 0) = false := by simpa using k0
        by_cases k1 : q4 = 1
        · subst k1
          go_wp2_with fail
          with_reducible refine (odd_w _ _ _ tp (by omega)).mono ?_
          rintro e w5 ⟨z, zw, rfl, t_w5, g_w5⟩
          have s_w5 : w4.grownBy w5 (some (w.heap.size)) := by first | exact g_w5 | exact grown_trans (grown_alloc (grown_refl _ _) _) g_w5 | exact grown_trans (grown_alloc (grown_alloc (grown_refl _ _) _) _) g_w5 | exact grown_trans (grown_drew (grown_refl _ _)) g_w5 | exact grown_trans (grown_drew (grown_alloc (grown_refl _ _) _)) g_w5
          have z_w5 := s_w5.size
          replace gA := gA.past s_w5 hbA
          clear tp
          have tp := t_w5
          have l_tp_w5 := tp.lt
          clear g_w5 s_w5 t_w5
          have WC := W1
          have WS := Lib.hid zw
          clear zw
          have hz5 := gA.size
          have HTP := Lib.hid tp
          have HGA := Lib.hid gA
          clear tp gA
          go_wp2_with fail
          with_reducible refine (shadow_any _ _ WC.out).mono ?_
          rintro e w6 ⟨rfl, rfl⟩
          go_wp2_with fail
          with_reducible refine (qshadow_any _ _).mono ?_
          rintro e w6 ⟨rfl, g6⟩
          go_wp2_with fail
          with_reducible refine (stamp_any _ _ WS.out).mono ?_
          rintro e w7 ⟨rfl, rfl⟩
          go_wp2_with fail
          with_reducible refine (qstamp_any _ _).mono ?_
          rintro e w7 ⟨rfl, g7⟩
          go_wp2_with fail
          with_reducible refine (distance_any _ _ _ WS.out).mono ?_
          rintro e w8 ⟨rfl, g8⟩
          go_wp2_with fail
          with_reducible refine (qdistance_any _ _ _).mono ?_
          rintro e w9 ⟨rfl, g9⟩
          have g69 := g6.trans (g7.trans (g8.trans g9))
          clear g6 g7 g8 g9
          go_wp2_with fail
          with_reducible refine (activate_any _ _ _ _ WS.out).mono ?_
          rintro e wa ⟨rfl, ga⟩
          go_wp2_with fail
          with_reducible refine (qactivate_any _ _ _ _ WS.out).mono ?_
          rintro e wb ⟨rfl, gb⟩
          have gz := g69.trans (ga.trans gb)
          clear g69 ga gb
          go_wp2_with fail
          go_roundw
          case rel => exact ⟨n + 1, by go_num, by omega, HTP.out.grew gz, HGA.out.trans gz⟩
          case measure => simp [intOf]; omega
        · have k1b : (q4 == 1) = false := by simpa using k1
          by_cases k2 : q4 = 2
          · subst k2
            go_wp2_with fail
            with_reducible refine (next_x _ _ _ _ (by omega) (by omega) tp).mono ?_
            rintro e w5 ⟨q5, q50, q51, rfl, t_w5, g_w5⟩
            have s_w5 : w4.grownBy w5 (some (w.heap.size)) := by first | exact g_w5 | exact grown_trans (grown_alloc (grown_refl _ _) _) g_w5 | exact grown_trans (grown_alloc (grown_alloc (grown_refl _ _) _) _) g_w5 | exact grown_trans (grown_drew (grown_refl _ _)) g_w5 | exact grown_trans (grown_drew (grown_alloc (grown_refl _ _) _)) g_w5
            have z_w5 := s_w5.size
            replace gA := gA.past s_w5 hbA
            clear tp
            have tp := t_w5
            have l_tp_w5 := tp.lt
            clear g_w5 s_w5 t_w5
            have WC := W1
            have wf3 : (Lit.int .i64 (-1000000 - q5)).wf = true := WalkArith.wf_i64 (by omega)
            have WS := Lib.hid wf3
            clear wf3
            have hz5 := gA.size
            have HTP := Lib.hid tp
            have HGA := Lib.hid gA
            clear tp gA
            go_wp2_with fail
            with_reducible refine (shadow_any _ _ WC.out).mono ?_
            rintro e w6 ⟨rfl, rfl⟩
            go_wp2_with fail
            with_reducible refine (qshadow_any _ _).mono ?_
            rintro e w6 ⟨rfl, g6⟩
            go_wp2_with fail
            with_reducible refine (stamp_any _ _ WS.out).mono ?_
            rintro e w7 ⟨rfl, rfl⟩
            go_wp2_with fail
            with_reducible refine (qstamp_any _ _).mono ?_
            rintro e w7 ⟨rfl, g7⟩
            go_wp2_with fail
            with_reducible refine (distance_any _ _ _ WS.out).mono ?_
            rintro e w8 ⟨rfl, g8⟩
            go_wp2_with fail
            with_reducible refine (qdistance_any _ _ _).mono ?_
            rintro e w9 ⟨rfl, g9⟩
            have g69 := g6.trans (g7.trans (g8.trans g9))
            clear g6 g7 g8 g9
            go_wp2_with fail
            with_reducible refine (activate_any _ _ _ _ WS.out).mono ?_
            rintro e wa ⟨rfl, ga⟩
            go_wp2_with fail
            with_reducible refine (qactivate_any _ _ _ _ WS.out).mono ?_
            rintro e wb ⟨rfl, gb⟩
            have gz := g69.trans (ga.trans gb)
            clear g69 ga gb
            go_wp2_with fail
            go_roundw
            case rel => exact ⟨n + 1, by go_num, by omega, HTP.out.grew gz, HGA.out.trans gz⟩
            case measure => simp [intOf]; omega
          · have k2b : (q4 == 2) = false := by simpa using k2
            clear k0 k1 k2
            have WC := W1
            have WS := W2
            have hz5 := gA.size
            have HTP := Lib.hid tp
            have HGA := Lib.hid gA
            clear tp gA
            go_wp2_with fail
            with_reducible refine (shadow_any _ _ WC.out).mono ?_
            rintro e w6 ⟨rfl, rfl⟩
            go_wp2_with fail
            with_reducible refine (qshadow_any _ _).mono ?_
            rintro e w6 ⟨rfl, g6⟩
            go_wp2_with fail
            with_reducible refine (stamp_any _ _ WS.out).mono ?_
            rintro e w7 ⟨rfl, rfl⟩
            go_wp2_with fail
            with_reducible refine (qstamp_any _ _).mono ?_
            rintro e w7 ⟨rfl, g7⟩
            go_wp2_with fail
            with_reducible refine (distance_any _ _ _ WS.out).mono ?_
            rintro e w8 ⟨rfl, g8⟩
            go_wp2_with fail
            with_reducible refine (qdistance_any _ _ _).mono ?_
            rintro e w9 ⟨rfl, g9⟩
            have g69 := g6.trans (g7.trans (g8.trans g9))
            clear g6 g7 g8 g9
            go_wp2_with fail
            with_reducible refine (activate_any _ _ _ _ WS.out).mono ?_
            rintro e wa ⟨rfl, ga⟩
            go_wp2_with fail
            with_reducible refine (qactivate_any _ _ _ _ WS.out).mono ?_
            rintro e wb ⟨rfl, gb⟩
            have gz := g69.trans (ga.trans gb)
            clear g69 ga gb
            go_wp2_with fail
            go_roundw
            case rel => exact ⟨n + 1, by go_num, by omega, HTP.out.grew gz, HGA.out.trans gz⟩
            case measure => simp [intOf]; omega
    · have hlt2 : decide ((n : Int) < 6) = false := decide_eq_false (by omega)
      go_wp2_with fail
      with_reducible refine (awake_any _).mono ?_
      rintro e w9 ⟨rfl, g9⟩
      go_wp2
      go_ret
      exact ⟨rfl, gA.trans g9⟩

theorem Try.own : ownKnob Try.prog.godebug = none := by kernel_rfl
theorem Try.laidOut : laidOutB Try.prog = true := by kernel_rfl

theorem workingsetCalls_contract (W : World) (base : Nat) (args : Array Value) (H : Type) (enc : TypeId × Value → H) (ds : List (DataW H)) (p : List MemPlace)
    (hval : ∀ (j : Nat) t v, Try.f3.params[j]? = some t → args[j]? = some v → Value.okWide Try.prog W .any base t v)
    (hA : DataW.TrodAll enc Try.prog W 0 (fun _ => true) true Try.f3.params.toList args.toList ds p) :
    (∃ d0, ds = [d0]) ∧ Calls Try.prog 3 args W fun e W' => e = .returned (.bool true) ∧ Below W.heap.size W W' := by
  rw [Try.params3] at hval hA
  obtain ⟨v0, d0, p0, ha, hd, hp, h0⟩ := args_1 hA
  subst ha hd
  obtain ⟨A0, c0, xs0, rfl, hr0, hm0⟩ := open_introw Try.underlying22 Try.underlying3 (by kernel_rfl) (hval 0 _ _ rfl rfl) h0
  exact ⟨⟨_, rfl⟩, (wscalls_core A0 c0 xs0 W hr0 hm0).mono fun _ _ h => h⟩

set_option maxRecDepth 100000 in
theorem workingsetCalls_lifted (os : Os) (started : os.Started) (H : Type) (enc : TypeId × Value → H) :
    ReturnsInHanded {} Try.checked os 3 .any (Rows.workingsetCallsSpec.pre6 enc Try.prog Try.f3 Rows.workingsetCallsRow.domain false) (Rows.workingsetCallsSpec.post enc Try.prog Try.f3 false true false false) := by
  refine returnsInHanded_of_change (C := Try.checked) Try.own started (by kernel_rfl) Try.func3
    (ChangeSpec.witness6 (enc := enc) (C := Try.checked) false ⟨#[], #[.slice none 0 0], []⟩ 8 (by kernel_rfl) (by kernel_rfl) (by kernel_rfl) (by kernel_rfl)) ?_
  intro W base args ds gs before hval hW _ _
  obtain ⟨p, q, hA, hV, hrest⟩ := id hW
  obtain ⟨⟨d0, rfl⟩, hc⟩ := workingsetCalls_contract W base args H enc ds p hval hA
  obtain ⟨rfl, -⟩ := trodVars_none hV
  refine hc.mono fun e W' ⟨he, hb⟩ => ⟨_, he, ?_⟩
  exact law_close (tb := 4) Try.laidOut (by rw [Try.params3]; decide +kernel) Try.underlying4 rfl rfl hW rfl rfl rfl hb

theorem workingsetCalls_holds : Rows.WorkingsetCallsSaid :=
  OpenClaim.holds_of_wide 3 Try.f3 rfl rfl rfl rfl rfl rfl rfl ⟨rfl, rfl, rfl, rfl, rfl⟩ rfl rfl rfl rfl rfl (by kernel_rfl) Try.func3 (by kernel_rfl)
    (of_decide_eq_true (by kernel_rfl)) (by unfold Func.isWrapper; first | (rw [if_pos (by decide +kernel)]; kernel_rfl) | (rw [if_neg (by decide +kernel)]; exact ⟨rfl, rfl⟩))
    (fun os started H enc _ => workingsetCalls_lifted os started H enc)
end Go.Proofs.Ytjbkdbkiboonpaa
