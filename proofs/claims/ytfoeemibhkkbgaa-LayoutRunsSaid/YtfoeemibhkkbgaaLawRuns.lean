/- LayoutRuns holds: to which spans pages are joined, and how spans are divided. -/
import Derived.Test.YtfoeemibhkkbgaaRefRuns
import Derived.Test.YtfoeemibhkkbgaaRefSplit
import Derived.Test.YtfoeemibhkkbgaaAwake4
import Derived.Test.YtfoeemibhkkbgaaMadeInts
import Derived.Test.YtfoeemibhkkbgaaOdd
import Derived.Deep.DeepCutAuto
namespace Go.Proofs.Ytfoeemibhkkbgaa
open Go.ChangeShapes Go.WideShapes Go.ChangeAt Go.RowKit Go.Mine

/-- What stands behind the choice of the greatest length. -/
def RunsCut (w : World) (v7 : Value) (wx : World) : Prop := ∃ m : Int, (Lit.int .i64 m).wf = true ∧ v7 = .int .i64 m ∧ Tp (w.heap.size + 1) wx w.heap.size ∧ Grew w wx
/-- What stands behind the choice of a span, in block X: the other things that the loop keeps. -/
def SpanCut (w : World) (b X : Nat) (pv sv : Value) (P : List Int) (L : List Sp) (v10 : Value) (wx : World) : Prop :=
  ∃ s c : Int, (Lit.int .i64 s).wf = true ∧ (Lit.int .i64 c).wf = true ∧ v10 = sv ∧ Own wx X 36 #[.int .i64 s, .int .i64 c] ∧ RowE 3 1 enc1 wx w.heap.size pv P ∧ RowE 36 2 enc2 wx (b + 1) sv L ∧ Tp (b + 1) wx b ∧ Grew w wx
theorem runsL_len (s m : Int) (xs : List Int) : (runsL s m xs).length ≤ 2000 := by
  unfold runsL
  split
  · have h1 := join_len s xs 8
    have h2 := split_len (m / 2 * 2) (by omega) (joinL s xs 8)
    omega
  · simp

set_option maxRecDepth 100000 in
set_option maxHeartbeats 8000000 in
theorem runs_core (A : Option Addr) (c : Nat) (xs : List Int) (A2 : Option Addr) (c2 : Nat) (xs2 : List Int) (w : World) (hr : IntRow w A xs) (hm : xs.length ≤ maxLen) (hr2 : IntRow w A2 xs2) (hm2 : xs2.length ≤ maxLen) :
    Calls Try.prog 4 #[.slice A xs.length c, .slice A2 xs2.length c2] w (RetG (.bool true) w) := by
  have tp := Tp.made hr hm c 25
  have gA := Grew.refl w
  have HR2 := Lib.hid hr2
  have HM2 := Lib.hid hm2
  clear hr hr2 hm2
  generalize hX : xs.length = X at *
  generalize hX2 : xs2.length = X2 at *
  have HX2 := Lib.hid hX2
  clear hX hX2
  have hbA : w.heap.size ≤ w.heap.size := Nat.le_refl _
  go_enter Try.func4, Try.ntmps4
  go_wp2_with fail
  with_reducible refine (next_x _ _ _ _ (by omega) (by omega) tp).mono ?_
  rintro e w1 ⟨q1, q10, q11, rfl, t_w1, g_w1⟩
  have s_w1 : w.grownBy w1 (some (w.heap.size)) := by first | exact g_w1 | exact grown_trans (grown_alloc (grown_refl _ _) _) g_w1 | exact grown_trans (grown_alloc (grown_alloc (grown_refl _ _) _) _) g_w1 | exact grown_trans (grown_drew (grown_refl _ _)) g_w1 | exact grown_trans (grown_drew (grown_alloc (grown_refl _ _) _)) g_w1
  have z_w1 := s_w1.size
  replace gA := gA.past s_w1 hbA
  clear tp
  have tp := t_w1
  have l_tp_w1 := tp.lt
  clear g_w1 s_w1 t_w1
  go_wp2_with fail
  with_reducible refine (next_x _ _ _ _ (by omega) (by omega) tp).mono ?_
  rintro e w2 ⟨q2, q20, q21, rfl, t_w2, g_w2⟩
  have s_w2 : w1.grownBy w2 (some (w.heap.size)) := by first | exact g_w2 | exact grown_trans (grown_alloc (grown_refl _ _) _) g_w2 | exact grown_trans (grown_alloc (grown_alloc (grown_refl _ _) _) _) g_w2 | exact grown_trans (grown_drew (grown_refl _ _)) g_w2 | exact grown_trans (grown_drew (grown_alloc (grown_refl _ _) _)) g_w2
  have z_w2 := s_w2.size
  replace gA := gA.past s_w2 hbA
  clear tp
  have tp := t_w2
  have l_tp_w2 := tp.lt
  clear g_w2 s_w2 t_w2
  go_wp2_with fail
  with_reducible refine (next_x _ _ _ _ (by omega) (by omega) tp).mono ?_
  rintro e w3 ⟨q3, q30, q31, rfl, t_w3, g_w3⟩
  have s_w3 : w2.grownBy w3 (some (w.heap.size)) := by first | exact g_w3 | exact grown_trans (grown_alloc (grown_refl _ _) _) g_w3 | exact grown_trans (grown_alloc (grown_alloc (grown_refl _ _) _) _) g_w3 | exact grown_trans (grown_drew (grown_refl _ _)) g_w3 | exact grown_trans (grown_drew (grown_alloc (grown_refl _ _) _)) g_w3
  have z_w3 := s_w3.size
  replace gA := gA.past s_w3 hbA
  clear tp
  have tp := t_w3
  have l_tp_w3 := tp.lt
  clear g_w3 s_w3 t_w3
  go_upto_if 24 with fail
  go_cut [7] (RunsCut w)
  case first =>
    by_cases e4 : q3 = 0
    · subst e4
      go_wp2_with fail
      with_reducible refine (odd_w _ _ _ tp (by omega)).mono ?_
      rintro e w4 ⟨z, zw, rfl, t_w4, g_w4⟩
      have s_w4 : w3.grownBy w4 (some (w.heap.size)) := by first | exact g_w4 | exact grown_trans (grown_alloc (grown_refl _ _) _) g_w4 | exact grown_trans (grown_alloc (grown_alloc (grown_refl _ _) _) _) g_w4 | exact grown_trans (grown_drew (grown_refl _ _)) g_w4 | exact grown_trans (grown_drew (grown_alloc (grown_refl _ _) _)) g_w4
      have z_w4 := s_w4.size
      replace gA := gA.past s_w4 hbA
      clear tp
      have tp := t_w4
      have l_tp_w4 := tp.lt
      clear g_w4 s_w4 t_w4
      go_wp2_with fail
      go_meet
      exact ⟨z, zw, rfl, tp, gA⟩
    · have e5 : (q3 == 0) = false := by simpa using e4
      clear e4
      go_wp2_with fail
      go_meet
      exact ⟨_, WalkArith.wf_i64 (by omega), rfl, tp, gA⟩
  case rest =>
    clear gA tp
    obtain ⟨m, hmw, rfl, tp, gA⟩ := hcut
    have hmb := wf_le hmw
    have HMW := Lib.hid hmw
    clear hmw
    have hz := gA.size
    go_wp2_with fail
    with_reducible refine (ints_x _ _ _ _ _ _ (by omega) (by omega) (by omega) (by omega) (by omega) (by omega) tp (by have := tp.lt; omega)).mono ?_
    rintro e w5 ⟨pv, P, rfl, hP, -, RP, tp5, g5⟩
    replace gA := gA.past g5 hbA
    replace RP := RP.wider hz
    have hz5 := gA.size
    have HPk := Lib.hid (fun k e => RP.lt k e)
    have tp6 := Tp.made (HR2.out.grew gA) (by rw [HX2.out]; exact HM2.out) c2 25
    rw [HX2.out] at tp6
    replace RP := RP.alloc (.cells #[.slice A2 X2 c2, .int .i64 0] 25)
    replace gA := gA.alloc (.cells #[.slice A2 X2 c2, .int .i64 0] 25)
    clear tp tp5 g5 hz HR2
    have hPl : P.length ≤ 1000000 := by omega
    clear hP
    go_wp2_with fail
    generalize w5.alloc (.cells #[.slice A2 X2 c2, .int .i64 0] 25) = w6 at *
    obtain ⟨b, hb⟩ : ∃ b, w5.heap.size = b := ⟨_, rfl⟩
    rw [hb] at tp6 HPk hz5 ⊢
    clear hb
    have hl6 := tp6.lt
    with_reducible refine (next_x _ _ _ _ (by omega) (by omega) tp6).mono ?_
    rintro e w7 ⟨q, q0, q1, rfl, tp7, g7⟩
    obtain ⟨m0, rfl⟩ := Int.eq_ofNat_of_zero_le q0
    have RP7 := RP.farT HPk.out g7
    have gA7 := gA.past g7 hz5
    clear RP gA tp6 g7 hl6
    go_wp2_with fail
    go_loopw [10, 11] (fun v i wr => ∃ (N : Nat) (L : List Sp) (sv : Value), sv = v ∧ i = .int .i64 N ∧ N + L.length ≤ 4 ∧ Fits L ∧ RowE 3 1 enc1 wr w.heap.size pv P ∧ RowE 36 2 enc2 wr (b + 1) sv L ∧ Tp (b + 1) wr b ∧ Grew w wr) (fun _ i _ => (intOf i).toNat)
    case atStart => exact ⟨m0, [], _, rfl, rfl, by simp; omega, fun x hx => by simp at hx, RP7, RowE.nil _ _, tp7, gA7⟩
    case round =>
      clear RP7 tp7 gA7
      obtain ⟨N, L, sv, rfl, rfl, hN, hF, RP, RS, tp, gA⟩ := hrel
      have HF := Lib.hid hF
      clear hF
      have hlb := tp.lt
      by_cases hp : 0 < N
      · go_wp2_with fail
        with_reducible refine (next_x _ _ _ _ (by omega) (by omega) tp).mono ?_
        rintro e y1 ⟨z1, z10, z11, rfl, tp1, g1⟩
        replace RP := RP.farT HPk.out g1
        replace RS := RS.past g1 (Nat.lt_succ_self _)
        replace gA := gA.past g1 hz5
        clear tp g1 hlb
        have hlb := tp1.lt
        go_wp2_with fail
        with_reducible refine (next_x _ _ _ _ (by omega) (by omega) tp1).mono ?_
        rintro e y2 ⟨z2, z20, z21, rfl, tp2, g2⟩
        replace RP := RP.farT HPk.out g2
        replace RS := RS.past g2 (Nat.lt_succ_self _)
        replace gA := gA.past g2 hz5
        clear tp1 g2 hlb
        have HXs := Lib.hid (fun k e => RS.lt k e)
        have X := Own.new y2 36 #[.int .i64 (z1 - 2), .int .i64 (z2 - 1)]
        replace RP := RP.alloc (.cells #[.int .i64 (z1 - 2), .int .i64 (z2 - 1)] 36)
        replace RS := RS.alloc (.cells #[.int .i64 (z1 - 2), .int .i64 (z2 - 1)] 36)
        replace gA := gA.alloc (.cells #[.int .i64 (z1 - 2), .int .i64 (z2 - 1)] 36)
        have hXb := tp2.lt
        replace tp2 := tp2.alloc (.cells #[.int .i64 (z1 - 2), .int .i64 (z2 - 1)] 36)
        go_wp2_with fail
        generalize y2.alloc (.cells #[.int .i64 (z1 - 2), .int .i64 (z2 - 1)] 36) = y3 at *
        obtain ⟨x, hx⟩ : ∃ x, y2.heap.size = x := ⟨_, rfl⟩
        rw [hx] at X HXs hXb ⊢
        clear hx
        have hl3 := X.lt
        with_reducible refine (next_x _ _ _ _ (by omega) (by omega) tp2).mono ?_
        rintro e y4 ⟨z3, z30, z31, rfl, tp4, g4⟩
        replace RP := RP.farT HPk.out g4
        replace RS := RS.past g4 (Nat.lt_succ_self _)
        replace gA := gA.past g4 hz5
        replace X := X.past g4 (by omega)
        clear tp2 g4 hl3
        have hl4 := X.lt
        have hs1 : (Lit.int .i64 (z1 - 2)).wf = true := WalkArith.wf_i64 (by omega)
        have hs2 : (Lit.int .i64 (z2 - 1)).wf = true := WalkArith.wf_i64 (by omega)
        have hxw : w.heap.size ≤ x := by omega
        have hpx : pv.ownBlock ≠ some x := fun e => by have := HPk.out x e; omega
        have hsx : sv.ownBlock ≠ some x := fun e => absurd (HXs.out x e) (Nat.lt_irrefl _)
        go_upto_if 47 with fail
        go_cut [10] (SpanCut w b x pv sv P L)
        case first =>
          by_cases e4 : z3 = 0
          · subst e4
            go_wp2_with fail
            with_reducible refine (odd_w _ _ _ tp4 (by omega)).mono ?_
            rintro e y5 ⟨o1, ow1, rfl, tp5, g5⟩
            replace RP := RP.farT HPk.out g5
            replace RS := RS.past g5 (Nat.lt_succ_self _)
            replace gA := gA.past g5 hz5
            replace X := X.past g5 (by omega)
            clear tp4 g5 hl4
            have hl5 := X.lt
            go_wp2_with fail
            with_reducible refine (odd_w _ _ _ tp5 (by omega)).mono ?_
            rintro e y6 ⟨o2, ow2, rfl, tp6, g6⟩
            replace RP := RP.farT HPk.out g6
            replace RS := RS.past g6 (Nat.lt_succ_self _)
            replace gA := gA.past g6 hz5
            replace X := X.past g6 (by omega)
            clear tp5 g6 hl5
            have OW1 := Lib.hid ow1
            have OW2 := Lib.hid ow2
            clear ow1 ow2
            obtain ⟨X0, X1, X2, X3⟩ := X.two
            go_wp2_with fail
            go_meet
            exact ⟨o1, o2, OW1.out, OW2.out, rfl, (X.set 0 (.int .i64 o1)).set 1 (.int .i64 o2), (RP.set (p := ⟨x, 0, none⟩) hpx _).set (p := ⟨x, 1, none⟩) hpx _, (RS.set (p := ⟨x, 0, none⟩) hsx _).set (p := ⟨x, 1, none⟩) hsx _,
              (tp6.set (p := ⟨x, 0, none⟩) (by show b + 1 ≤ x; omega) _).set (p := ⟨x, 1, none⟩) (by show b + 1 ≤ x; omega) _, (gA.set (p := ⟨x, 0, none⟩) hxw _).set (p := ⟨x, 1, none⟩) hxw _⟩
          · have e5 : (z3 == 0) = false := by simpa using e4
            clear e4
            go_wp2_with fail
            go_meet
            exact ⟨_, _, hs1, hs2, rfl, X, RP, RS, tp4, gA⟩
        case rest =>
          clear gA tp4 RP RS X hs1 hs2 hl4
          obtain ⟨s, d, sw, dw, rfl, X, RP, RS, tp, gA⟩ := hcut
          have SW := Lib.hid sw
          have DW := Lib.hid dw
          clear sw dw
          obtain ⟨X0, X1, X2, X3⟩ := X.two
          have hl5 := X.lt
          have hL6 : L.length < 1000000 := by omega
          have hB6 : ∀ o, b + 1 ≤ (wc.alloc o).heap.size := fun o => by simp; omega
          go_wp2_with (at_builtin; go_loud (refine wpList_append_row _ rfl (.tmp 53) (.tmp 55) 34 rfl (b + 1) info_span Try.underlying34 (by decide) (by decide) enc2_len _ L rfl (RS.alloc _) _ _ (s, d) rfl (Own.new _ _ _) enc2_one hL6 (by decide) (hB6 _) ?_; intro g cap w9 RS9 g9 o9))
          have hr9 : ∀ k, Value.ownBlock _ = some k → b + 1 ≤ k := fun k e => RS.above k e
          go_roundw
          case rel =>
            refine ⟨N - 1, L ++ [(s, d)], _, rfl, by go_num, by simp; omega, ?_, (RP.alloc _).farR HPk.out g9 (fun k e => Nat.le_of_succ_le (hr9 k e)), RS9, Tp.keptA (tp.alloc _) g9 hr9 (Nat.le_refl _), Grew.keptA (gA.alloc _) g9 hr9 (by omega)⟩
            intro y hy
            rcases List.mem_append.1 hy with hy | hy
            · exact HF.out y hy
            · simp at hy; subst hy; exact ⟨SW.out, DW.out⟩
          case measure => simp [intOf]; omega
      · have hN0 : N = 0 := by omega
        subst hN0
        go_wp2_with fail
        with_reducible refine (runs_any _ _ _ _ _ _ hPl HMW.out RP).mono ?_
        rintro e y1 ⟨v1, rfl, R1, g1⟩
        replace RP := RP.grew g1
        replace RS := RS.grew g1
        replace gA := gA.trans g1
        clear tp g1
        go_wp2_with fail
        with_reducible refine (rruns_any _ _ _ _ _ _ hPl HMW.out RP).mono ?_
        rintro e y2 ⟨v2, rfl, R2, g2⟩
        replace R1 := R1.grew g2
        replace RS := RS.grew g2
        replace gA := gA.trans g2
        clear g2 RP
        go_wp2_with fail
        with_reducible refine (same_eq _ _ _ _ _ _ (Nat.le_trans (runsL_len _ _ _) (by omega)) R1 R2).mono ?_
        rintro e y3 ⟨rfl, g3⟩
        replace RS := RS.grew g3
        replace gA := gA.trans g3
        clear g3 R1 R2
        go_wp2_with fail
        with_reducible refine (split_any _ _ _ _ _ (by omega) HF.out HMW.out RS).mono ?_
        rintro e y4 ⟨v4, rfl, R4, g4⟩
        replace RS := RS.grew g4
        replace gA := gA.trans g4
        clear g4
        go_wp2_with fail
        with_reducible refine (rsplit_any _ _ _ _ _ (by omega) HF.out HMW.out RS).mono ?_
        rintro e y5 ⟨v5, rfl, R5, g5⟩
        replace R4 := R4.grew g5
        replace gA := gA.trans g5
        clear g5 RS
        have hl9 : (if m < 1 then [] else splitL L m).length ≤ 1000000 := by
          split
          · simp
          · have := split_len m (by omega) L
            omega
        have HL9 := Lib.hid hl9
        clear hl9
        go_wp2_with fail
        with_reducible refine (same_eq _ _ _ _ _ _ HL9.out R4 R5).mono ?_
        rintro e y6 ⟨rfl, g6⟩
        replace gA := gA.trans g6
        clear g6 R4 R5
        go_wp2_with fail
        with_reducible refine (awake_any _).mono ?_
        rintro e y7 ⟨rfl, g7⟩
        go_wp2_with fail
        go_ret
        exact ⟨rfl, gA.trans g7⟩

theorem Try.own : ownKnob Try.prog.godebug = none := by kernel_rfl
theorem Try.laidOut : laidOutB Try.prog = true := by kernel_rfl

theorem layoutRuns_contract (W : World) (base : Nat) (args : Array Value) (H : Type) (enc : TypeId × Value → H) (ds : List (DataW H)) (p : List MemPlace)
    (hval : ∀ (j : Nat) t v, Try.f4.params[j]? = some t → args[j]? = some v → Value.okWide Try.prog W .any base t v)
    (hA : DataW.TrodAll enc Try.prog W 0 (fun _ => true) true Try.f4.params.toList args.toList ds p) :
    (∃ d0 d1, ds = [d0, d1]) ∧ Calls Try.prog 4 args W fun e W' => e = .returned (.bool true) ∧ Below W.heap.size W W' := by
  rw [Try.params4] at hval hA
  obtain ⟨v0, v1, d0, d1, p0, p1, ha, hd, hp, h0, h1⟩ := args_2 hA
  subst ha hd
  obtain ⟨A0, c0, xs0, rfl, hr0, hm0⟩ := open_introw Try.underlying22 Try.underlying3 (by kernel_rfl) (hval 0 _ _ rfl rfl) h0
  obtain ⟨A1, c1, xs1, rfl, hr1, hm1⟩ := open_introw Try.underlying22 Try.underlying3 (by kernel_rfl) (hval 1 _ _ rfl rfl) h1
  exact ⟨⟨_, _, rfl⟩, (runs_core A0 c0 xs0 A1 c1 xs1 W hr0 hm0 hr1 hm1).mono fun _ _ h => h⟩

set_option maxRecDepth 100000 in
theorem layoutRuns_lifted (os : Os) (started : os.Started) (H : Type) (enc : TypeId × Value → H) :
    ReturnsInHanded {} Try.checked os 4 .any (Rows.layoutRunsSpec.pre6 enc Try.prog Try.f4 Rows.layoutRunsRow.domain false) (Rows.layoutRunsSpec.post enc Try.prog Try.f4 false true false false) := by
  refine returnsInHanded_of_change (C := Try.checked) Try.own started (by kernel_rfl) Try.func4
    (ChangeSpec.witness6 (enc := enc) (C := Try.checked) false ⟨#[], #[.slice none 0 0, .slice none 0 0], []⟩ 8 (by kernel_rfl) (by kernel_rfl) (by kernel_rfl) (by kernel_rfl)) ?_
  intro W base args ds gs before hval hW _ _
  obtain ⟨p, q, hA, hV, hrest⟩ := id hW
  obtain ⟨⟨d0, d1, rfl⟩, hc⟩ := layoutRuns_contract W base args H enc ds p hval hA
  obtain ⟨rfl, -⟩ := trodVars_none hV
  refine hc.mono fun e W' ⟨he, hb⟩ => ⟨_, he, ?_⟩
  exact law_close (tb := 4) Try.laidOut (by rw [Try.params4]; decide +kernel) Try.underlying4 rfl rfl hW rfl rfl rfl hb

theorem layoutRuns_holds : Rows.LayoutRunsSaid :=
  OpenClaim.holds_of_wide 4 Try.f4 rfl rfl rfl rfl rfl rfl rfl ⟨rfl, rfl, rfl, rfl, rfl⟩ rfl rfl rfl rfl rfl (by kernel_rfl) Try.func4 (by kernel_rfl)
    (of_decide_eq_true (by kernel_rfl)) (by unfold Func.isWrapper; first | (rw [if_pos (by decide +kernel)]; kernel_rfl) | (rw [if_neg (by decide +kernel)]; exact ⟨rfl, rfl⟩))
    (fun os started H enc _ => layoutRuns_lifted os started H enc)
end Go.Proofs.Ytfoeemibhkkbgaa
