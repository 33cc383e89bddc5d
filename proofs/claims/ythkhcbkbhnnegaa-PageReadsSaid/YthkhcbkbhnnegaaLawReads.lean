/- PageReads holds: which pages are right, what has to be filled, and what is read, is what the document says. -/
import Derived.Test.YthkhcbkbhnnegaaRef5
import Derived.Test.YthkhcbkbhnnegaaOdd
import Derived.Test.YthkhcbkbhnnegaaMadePage
import Derived.Test.YthkhcbkbhnnegaaAwake2
import Derived.Test.YthkhcbkbhnnegaaExch
import Derived.Deep.DeepCutAuto
import Derived.Deep.RegionHeld3
import Derived.Deep.DrawnRows
namespace Go.Proofs.Ythkhcbkbhnnegaa
attribute [local go_sem ↓] Go.wp_at_zero Go.wp_at_succ
open Go.ChangeShapes Go.WideShapes Go.ChangeAt Go.RowKit Go.Mine

/-- What stands behind the choice of the place. -/
def ReadsCut (w : World) (b4 : Nat) (d : ByteArray) (v t : Int) (v7 v8 : Value) (wx : World) : Prop :=
  ∃ z y : Int, v7 = .int .i64 z ∧ v8 = .int .i64 y ∧ Own wx b4 27 #[.string d, .int .i64 v, .int .i64 t] ∧ Grew w wx

set_option maxRecDepth 100000 in
set_option maxHeartbeats 4000000 in
theorem reads_core (A : Option Addr) (c : Nat) (xs : List Int) (wr : Bool) (w : World) (hr : IntRow w A xs) (hm : xs.length ≤ maxLen) :
    Calls Try.prog 3 #[.slice A xs.length c, .bool wr] w (RetG (.bool true) w) := by
  have tp := Tp.made hr hm c 25
  have gA := Grew.refl w
  have HR := Lib.hid hr
  clear hr
  generalize hX : xs.length = X at *
  clear hX
  have hbA : w.heap.size ≤ w.heap.size := Nat.le_refl _
  go_enter Try.func3, Try.ntmps3
  go_wp2_with fail
  with_reducible refine (madePage_x _ _ _ tp (by simp)).mono ?_
  rintro e w1 ⟨d, v, t, rfl, t_w1, g_w1⟩
  have s_w1 : w.grownBy w1 (some (w.heap.size)) := by first | exact g_w1 | exact grown_trans (grown_alloc (grown_refl _ _) _) g_w1 | exact grown_trans (grown_alloc (grown_alloc (grown_refl _ _) _) _) g_w1 | exact grown_trans (grown_drew (grown_refl _ _)) g_w1 | exact grown_trans (grown_drew (grown_alloc (grown_refl _ _) _)) g_w1
  have z_w1 := s_w1.size
  replace gA := gA.past s_w1 hbA
  clear tp
  have tp := t_w1
  have l_tp_w1 := tp.lt
  clear g_w1 s_w1 t_w1
  go_wp2_with fail
  with_reducible refine (next_x _ _ _ _ (by omega) (by omega) (tp.alloc _)).mono ?_
  rintro e w2 ⟨q2, q20, q21, rfl, t_w2, g_w2⟩
  have s_w2 : w1.grownBy w2 (some (w.heap.size)) := by first | exact g_w2 | exact grown_trans (grown_alloc (grown_refl _ _) _) g_w2 | exact grown_trans (grown_alloc (grown_alloc (grown_refl _ _) _) _) g_w2 | exact grown_trans (grown_drew (grown_refl _ _)) g_w2 | exact grown_trans (grown_drew (grown_alloc (grown_refl _ _) _)) g_w2
  have z_w2 := s_w2.size
  have P := (Own.new w1 _ _).past g_w2 (by omega)
  have l_P_w2 := P.lt
  obtain ⟨P0, P1, P2, P3, P4, P5⟩ := P.three
  replace gA := gA.past s_w2 hbA
  clear tp
  have tp := t_w2
  have l_tp_w2 := tp.lt
  clear g_w2 s_w2 t_w2
  go_wp2_with fail
  with_reducible refine (next_x _ _ _ _ (by omega) (by omega) tp).mono ?_
  rintro e w3 ⟨q3, q30, q31, rfl, t_w3, g_w3⟩
  have s_w3 : w2.grownBy w3 (some (w.heap.size)) := by first | exact g_w3 | exact grown_trans (grown_alloc (grown_refl _ _) _) g_w3 | exact grown_trans (grown_alloc (grown_alloc (grown_refl _ _) _) _) g_w3 | exact grown_trans (grown_drew (grown_refl _ _)) g_w3 | exact grown_trans (grown_drew (grown_alloc (grown_refl _ _) _)) g_w3
  have z_w3 := s_w3.size
  replace P := P.past s_w3 (by omega)
  clear P0 P1 P2 P3 P4 P5
  have l_P_w3 := P.lt
  obtain ⟨P0, P1, P2, P3, P4, P5⟩ := P.three
  replace gA := gA.past s_w3 hbA
  clear tp
  have tp := t_w3
  have l_tp_w3 := tp.lt
  clear g_w3 s_w3 t_w3
  go_wp2_with fail
  with_reducible refine (next_x _ _ _ _ (by omega) (by omega) tp).mono ?_
  rintro e w4 ⟨q4, q40, q41, rfl, t_w4, g_w4⟩
  have s_w4 : w3.grownBy w4 (some (w.heap.size)) := by first | exact g_w4 | exact grown_trans (grown_alloc (grown_refl _ _) _) g_w4 | exact grown_trans (grown_alloc (grown_alloc (grown_refl _ _) _) _) g_w4 | exact grown_trans (grown_drew (grown_refl _ _)) g_w4 | exact grown_trans (grown_drew (grown_alloc (grown_refl _ _) _)) g_w4
  have z_w4 := s_w4.size
  replace P := P.past s_w4 (by omega)
  clear P0 P1 P2 P3 P4 P5
  have l_P_w4 := P.lt
  obtain ⟨P0, P1, P2, P3, P4, P5⟩ := P.three
  replace gA := gA.past s_w4 hbA
  clear tp
  have tp := t_w4
  have l_tp_w4 := tp.lt
  clear g_w4 s_w4 t_w4
  go_upto_if 30 with fail
  go_cut [7, 8] (ReadsCut w w1.heap.size d v t)
  case first =>
    by_cases e4 : q4 = 0
    · subst e4
      go_wp2_with fail
      with_reducible refine (odd_x _ _ _ tp (by omega)).mono ?_
      rintro e w5 ⟨z, rfl, t_w5, g_w5⟩
      have s_w5 : w4.grownBy w5 (some (w.heap.size)) := by first | exact g_w5 | exact grown_trans (grown_alloc (grown_refl _ _) _) g_w5 | exact grown_trans (grown_alloc (grown_alloc (grown_refl _ _) _) _) g_w5 | exact grown_trans (grown_drew (grown_refl _ _)) g_w5 | exact grown_trans (grown_drew (grown_alloc (grown_refl _ _) _)) g_w5
      have z_w5 := s_w5.size
      replace P := P.past s_w5 (by omega)
      clear P0 P1 P2 P3 P4 P5
      have l_P_w5 := P.lt
      obtain ⟨P0, P1, P2, P3, P4, P5⟩ := P.three
      replace gA := gA.past s_w5 hbA
      clear tp
      have tp := t_w5
      have l_tp_w5 := tp.lt
      clear g_w5 s_w5 t_w5
      go_wp2_with fail
      with_reducible refine (odd_x _ _ _ tp (by omega)).mono ?_
      rintro e w6 ⟨y, rfl, t_w6, g_w6⟩
      have s_w6 : w5.grownBy w6 (some (w.heap.size)) := by first | exact g_w6 | exact grown_trans (grown_alloc (grown_refl _ _) _) g_w6 | exact grown_trans (grown_alloc (grown_alloc (grown_refl _ _) _) _) g_w6 | exact grown_trans (grown_drew (grown_refl _ _)) g_w6 | exact grown_trans (grown_drew (grown_alloc (grown_refl _ _) _)) g_w6
      have z_w6 := s_w6.size
      replace P := P.past s_w6 (by omega)
      clear P0 P1 P2 P3 P4 P5
      have l_P_w6 := P.lt
      obtain ⟨P0, P1, P2, P3, P4, P5⟩ := P.three
      replace gA := gA.past s_w6 hbA
      clear tp
      have tp := t_w6
      have l_tp_w6 := tp.lt
      clear g_w6 s_w6 t_w6
      go_wp2_with fail
      go_meet
      exact ⟨z, y, rfl, rfl, P, gA⟩
    · have e5 : (q4 == 0) = false := by simpa using e4
      clear e4
      go_wp2_with fail
      go_meet
      exact ⟨_, _, rfl, rfl, P, gA⟩
  case rest =>
    clear gA tp P P0 P1 P2 P3 P4 P5
    obtain ⟨z, y, rfl, rfl, P, gA⟩ := hcut
    have l_P_wc := P.lt
    obtain ⟨P0, P1, P2, P3, P4, P5⟩ := P.three
    go_wp2_with fail
    with_reducible refine (needs_all _ _ _ _ _ _ _).mono ?_
    rintro e w6 ⟨rfl, g_w6⟩
    have s_w6 : Grew wc w6 := by first | exact g_w6 | exact ((Grew.refl _).alloc _).trans g_w6 | exact (((Grew.refl _).alloc _).alloc _).trans g_w6 | exact (Grew.refl _).drew.trans g_w6 | exact ((Grew.refl _).alloc _).drew.trans g_w6 | exact ((Grew.refl _).drewN _).trans g_w6
    have z_w6 := s_w6.size
    replace P := P.grew s_w6
    clear P0 P1 P2 P3 P4 P5
    have l_P_w6 := P.lt
    obtain ⟨P0, P1, P2, P3, P4, P5⟩ := P.three
    replace gA := gA.trans s_w6
    clear g_w6 s_w6
    go_wp2_with fail
    with_reducible refine (rNeeds_all _ _ _ _ _ _ _).mono ?_
    rintro e w7 ⟨rfl, g_w7⟩
    have s_w7 : Grew w6 w7 := by first | exact g_w7 | exact ((Grew.refl _).alloc _).trans g_w7 | exact (((Grew.refl _).alloc _).alloc _).trans g_w7 | exact (Grew.refl _).drew.trans g_w7 | exact ((Grew.refl _).alloc _).drew.trans g_w7 | exact ((Grew.refl _).drewN _).trans g_w7
    have z_w7 := s_w7.size
    replace P := P.grew s_w7
    clear P0 P1 P2 P3 P4 P5
    have l_P_w7 := P.lt
    obtain ⟨P0, P1, P2, P3, P4, P5⟩ := P.three
    replace gA := gA.trans s_w7
    clear g_w7 s_w7
    go_wp2_with fail
    with_reducible refine (read_all _ _ _ _ _ _).mono ?_
    rintro e w8 ⟨rfl, g_w8⟩
    have s_w8 : Grew w7 w8 := by first | exact g_w8 | exact ((Grew.refl _).alloc _).trans g_w8 | exact (((Grew.refl _).alloc _).alloc _).trans g_w8 | exact (Grew.refl _).drew.trans g_w8 | exact ((Grew.refl _).alloc _).drew.trans g_w8 | exact ((Grew.refl _).drewN _).trans g_w8
    have z_w8 := s_w8.size
    replace P := P.grew s_w8
    clear P0 P1 P2 P3 P4 P5
    have l_P_w8 := P.lt
    obtain ⟨P0, P1, P2, P3, P4, P5⟩ := P.three
    replace gA := gA.trans s_w8
    clear g_w8 s_w8
    go_wp2_with fail
    with_reducible refine (rRead_all _ _ _ _ _ _).mono ?_
    rintro e w9 ⟨rfl, g_w9⟩
    have s_w9 : Grew w8 w9 := by first | exact g_w9 | exact ((Grew.refl _).alloc _).trans g_w9 | exact (((Grew.refl _).alloc _).alloc _).trans g_w9 | exact (Grew.refl _).drew.trans g_w9 | exact ((Grew.refl _).alloc _).drew.trans g_w9 | exact ((Grew.refl _).drewN _).trans g_w9
    have z_w9 := s_w9.size
    replace P := P.grew s_w9
    clear P0 P1 P2 P3 P4 P5
    have l_P_w9 := P.lt
    obtain ⟨P0, P1, P2, P3, P4, P5⟩ := P.three
    replace gA := gA.trans s_w9
    clear g_w9 s_w9
    go_wp2_with fail
    replace P := P.drew
    replace gA := gA.drew
    go_region_held3 (fun w' => w'.cell? ⟨w1.heap.size, 0, none⟩ = some (.string d) ∧ w'.cell? ⟨w1.heap.size, 1, none⟩ = some (.int .i64 v) ∧ w'.cell? ⟨w1.heap.size, 2, none⟩ = some (.int .i64 t))
      (refine ⟨?_, ?_, ?_⟩ <;> assumption)
      (first
      | (go_at_call 16; (with_reducible refine (check_g _ _ _ _).mono ?_); rintro e wz ⟨rfl, gz⟩; replace P := P.grew gz; replace gA := gA.trans gz; clear P0 P1 P2 P3 P4 P5; obtain ⟨P0, P1, P2, P3, P4, P5⟩ := P.three)
      | (go_at_call 17; (with_reducible refine (rCheck_g _ _ _ _).mono ?_); rintro e wz ⟨rfl, gz⟩; replace P := P.grew gz; replace gA := gA.trans gz; clear P0 P1 P2 P3 P4 P5; obtain ⟨P0, P1, P2, P3, P4, P5⟩ := P.three)
      | (go_at_call 18; (with_reducible refine (new_any _).mono ?_); rintro e wz ⟨rfl, gz⟩; replace P := P.grew gz; replace gA := gA.trans gz; clear P0 P1 P2 P3 P4 P5; obtain ⟨P0, P1, P2, P3, P4, P5⟩ := P.three)
      | (go_at_call 19; (with_reducible refine (rNew_any _).mono ?_); rintro e wz ⟨rfl, gz⟩; replace P := P.grew gz; replace gA := gA.trans gz; clear P0 P1 P2 P3 P4 P5; obtain ⟨P0, P1, P2, P3, P4, P5⟩ := P.three)
      | (go_at_call 20; (with_reducible refine (hole_any _).mono ?_); rintro e wz ⟨rfl, gz⟩; replace P := P.grew gz; replace gA := gA.trans gz; clear P0 P1 P2 P3 P4 P5; obtain ⟨P0, P1, P2, P3, P4, P5⟩ := P.three)
      | (go_at_call 21; (with_reducible refine (rHole_any _).mono ?_); rintro e wz ⟨rfl, gz⟩; replace P := P.grew gz; replace gA := gA.trans gz; clear P0 P1 P2 P3 P4 P5; obtain ⟨P0, P1, P2, P3, P4, P5⟩ := P.three)
      | (go_at_call 22; (with_reducible refine (awake_any _).mono ?_); rintro e wz ⟨rfl, gz⟩; replace P := P.grew gz; replace gA := gA.trans gz; clear P0 P1 P2 P3 P4 P5; obtain ⟨P0, P1, P2, P3, P4, P5⟩ := P.three))
    all_goals go_wp2
    all_goals go_ret
    all_goals exact ⟨rfl, gA⟩

theorem Try.own : ownKnob Try.prog.godebug = none := by kernel_rfl
theorem Try.laidOut : laidOutB Try.prog = true := by kernel_rfl

theorem pageReads_contract (W : World) (base : Nat) (args : Array Value) (H : Type) (enc : TypeId × Value → H) (ds : List (DataW H)) (p : List MemPlace)
    (hval : ∀ (j : Nat) t v, Try.f3.params[j]? = some t → args[j]? = some v → Value.okWide Try.prog W .any base t v)
    (hA : DataW.TrodAll enc Try.prog W 0 (fun _ => true) true Try.f3.params.toList args.toList ds p) :
    (∃ d0 d1, ds = [d0, d1]) ∧ Calls Try.prog 3 args W fun e W' => e = .returned (.bool true) ∧ Below W.heap.size W W' := by
  rw [Try.params3] at hval hA
  obtain ⟨v0, v1, d0, d1, p0, p1, ha, hd, hp, h0, h1⟩ := args_2 hA
  subst ha hd
  obtain ⟨A0, c0, xs0, rfl, hr0, hm0⟩ := open_introw Try.underlying22 Try.underlying3 (by kernel_rfl) (hval 0 _ _ rfl rfl) h0
  obtain ⟨v1, rfl, -, -⟩ := open_bool Try.underlying4 (hval 1 _ _ rfl rfl) h1
  exact ⟨⟨_, _, rfl⟩, (reads_core A0 c0 xs0 v1 W hr0 hm0).mono fun _ _ h => h⟩

set_option maxRecDepth 100000 in
theorem pageReads_lifted (os : Os) (started : os.Started) (H : Type) (enc : TypeId × Value → H) :
    ReturnsInHanded {} Try.checked os 3 .any (Rows.pageReadsSpec.pre6 enc Try.prog Try.f3 Rows.pageReadsRow.domain false) (Rows.pageReadsSpec.post enc Try.prog Try.f3 false true false false) := by
  refine returnsInHanded_of_change (C := Try.checked) Try.own started (by kernel_rfl) Try.func3
    (ChangeSpec.witness6 (enc := enc) (C := Try.checked) false ⟨#[], #[.slice none 0 0, .bool false], []⟩ 8 (by kernel_rfl) (by kernel_rfl) (by kernel_rfl) (by kernel_rfl)) ?_
  intro W base args ds gs before hval hW _ _
  obtain ⟨p, q, hA, hV, hrest⟩ := id hW
  obtain ⟨⟨d0, d1, rfl⟩, hc⟩ := pageReads_contract W base args H enc ds p hval hA
  obtain ⟨rfl, -⟩ := trodVars_none hV
  refine hc.mono fun e W' ⟨he, hb⟩ => ⟨_, he, ?_⟩
  exact law_close (tb := 4) Try.laidOut (by rw [Try.params3]; decide +kernel) Try.underlying4 rfl rfl hW rfl rfl rfl hb

theorem pageReads_holds : Rows.PageReadsSaid :=
  OpenClaim.holds_of_wide 3 Try.f3 rfl rfl rfl rfl rfl rfl rfl ⟨rfl, rfl, rfl, rfl, rfl⟩ rfl rfl rfl rfl rfl (by kernel_rfl) Try.func3 (by kernel_rfl)
    (of_decide_eq_true (by kernel_rfl)) (by unfold Func.isWrapper; first | (rw [if_pos (by decide +kernel)]; kernel_rfl) | (rw [if_neg (by decide +kernel)]; exact ⟨rfl, rfl⟩))
    (fun os started H enc _ => pageReads_lifted os started H enc)
end Go.Proofs.Ythkhcbkbhnnegaa
