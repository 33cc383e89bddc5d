/- LayoutPlaces holds: where inode sectors and pages are, and whose a sector is. -/
import Derived.Test.YtfoeemibhkkbgaaLayOwn
import Derived.Test.YtfoeemibhkkbgaaAwake4
import Derived.Test.YtfoeemibhkkbgaaOdd
import Derived.Deep.DeepCutAuto
namespace Go.Proofs.Ytfoeemibhkkbgaa
open Go.ChangeShapes Go.WideShapes Go.ChangeAt Go.RowKit Go.Mine

/-- What stands behind the choice of the numbers. -/
def PlacesCut (w : World) (v4 v5 v7 : Value) (wx : World) : Prop := ∃ n s p : Int, v4 = .int .i64 n ∧ v5 = .int .i64 s ∧ v7 = .int .i64 p ∧ Grew w wx
set_option maxRecDepth 100000 in
set_option maxHeartbeats 4000000 in
theorem places_core (A : Option Addr) (c : Nat) (xs : List Int) (w : World) (hr : IntRow w A xs) (hm : xs.length ≤ maxLen) :
    Calls Try.prog 3 #[.slice A xs.length c] w (RetG (.bool true) w) := by
  have tp := Tp.made hr hm c 25
  have gA := Grew.refl w
  have HR := Lib.hid hr
  clear hr
  generalize hX : xs.length = X at *
  clear hX
  have hbA : w.heap.size ≤ w.heap.size := Nat.le_refl _
  go_enter Try.func3, Try.ntmps3
  go_wp2_with fail
  with_reducible refine (next_x _ _ _ _ (by omega) (by omega) tp).mono ?_
  rintro e w1 ⟨q1, q10, q11, rfl, t_w1, g_w1⟩
  have s_w1 : w.grownBy w1 (some (w.heap.size)) := by first | exact g_w1 | exact grown_trans (grown_alloc (grown_refl _ _) _) g_w1 | exact grown_trans (grown_alloc (grown_alloc (grown_refl _ _) _) _) g_w1 | exact grown_trans (grown_drew (grown_refl _ _)) g_w1 | exact grown_trans (grown_drew (grown_alloc (grown_refl _ _) _)) g_w1
  have z_w1 := s_w1.size
  replace gA := gA.past s_w1 hbA
  clear tp
  have tp := t_w1
  have l_tp_w1 := tp.lt
  clear g_w1 s_w1 t_w1
  go_wp2_with fail
  with_reducible refine (next_x _ _ _ _ (by omega) (by omega) tp).mono ?_
  rintro e w2 ⟨q2, q20, q21, rfl, t_w2, g_w2⟩
  have s_w2 : w1.grownBy w2 (some (w.heap.size)) := by first | exact g_w2 | exact grown_trans (grown_alloc (grown_refl _ _) _) g_w2 | exact grown_trans (grown_alloc (grown_alloc (grown_refl _ _) _) _) g_w2 | exact grown_trans (grown_drew (grown_refl _ _)) g_w2 | exact grown_trans (grown_drew (grown_alloc (grown_refl _ _) _)) g_w2
  have z_w2 := s_w2.size
  replace gA := gA.past s_w2 hbA
  clear tp
  have tp := t_w2
  have l_tp_w2 := tp.lt
  clear g_w2 s_w2 t_w2
  go_wp2_with fail
  with_reducible refine (next_x _ _ _ _ (by omega) (by omega) tp).mono ?_
  rintro e w3 ⟨q3, q30, q31, rfl, t_w3, g_w3⟩
  have s_w3 : w2.grownBy w3 (some (w.heap.size)) := by first | exact g_w3 | exact grown_trans (grown_alloc (grown_refl _ _) _) g_w3 | exact grown_trans (grown_alloc (grown_alloc (grown_refl _ _) _) _) g_w3 | exact grown_trans (grown_drew (grown_refl _ _)) g_w3 | exact grown_trans (grown_drew (grown_alloc (grown_refl _ _) _)) g_w3
  have z_w3 := s_w3.size
  replace gA := gA.past s_w3 hbA
  clear tp
  have tp := t_w3
  have l_tp_w3 := tp.lt
  clear g_w3 s_w3 t_w3
  go_wp2_with fail
  with_reducible refine (next_x _ _ _ _ (by omega) (by omega) tp).mono ?_
  rintro e w4 ⟨q4, q40, q41, rfl, t_w4, g_w4⟩
  have s_w4 : w3.grownBy w4 (some (w.heap.size)) := by first | exact g_w4 | exact grown_trans (grown_alloc (grown_refl _ _) _) g_w4 | exact grown_trans (grown_alloc (grown_alloc (grown_refl _ _) _) _) g_w4 | exact grown_trans (grown_drew (grown_refl _ _)) g_w4 | exact grown_trans (grown_drew (grown_alloc (grown_refl _ _) _)) g_w4
  have z_w4 := s_w4.size
  replace gA := gA.past s_w4 hbA
  clear tp
  have tp := t_w4
  have l_tp_w4 := tp.lt
  clear g_w4 s_w4 t_w4
  go_wp2_with fail
  with_reducible refine (next_x _ _ _ _ (by omega) (by omega) tp).mono ?_
  rintro e w5 ⟨q5, q50, q51, rfl, t_w5, g_w5⟩
  have s_w5 : w4.grownBy w5 (some (w.heap.size)) := by first | exact g_w5 | exact grown_trans (grown_alloc (grown_refl _ _) _) g_w5 | exact grown_trans (grown_alloc (grown_alloc (grown_refl _ _) _) _) g_w5 | exact grown_trans (grown_drew (grown_refl _ _)) g_w5 | exact grown_trans (grown_drew (grown_alloc (grown_refl _ _) _)) g_w5
  have z_w5 := s_w5.size
  replace gA := gA.past s_w5 hbA
  clear tp
  have tp := t_w5
  have l_tp_w5 := tp.lt
  clear g_w5 s_w5 t_w5
  go_upto_if 29 with fail
  go_cut [4, 5, 7] (PlacesCut w)
  case first =>
    by_cases e4 : q5 = 0
    · subst e4
      go_wp2_with fail
      with_reducible refine (odd_x _ _ _ tp (by omega)).mono ?_
      rintro e w6 ⟨z, rfl, t_w6, g_w6⟩
      have s_w6 : w5.grownBy w6 (some (w.heap.size)) := by first | exact g_w6 | exact grown_trans (grown_alloc (grown_refl _ _) _) g_w6 | exact grown_trans (grown_alloc (grown_alloc (grown_refl _ _) _) _) g_w6 | exact grown_trans (grown_drew (grown_refl _ _)) g_w6 | exact grown_trans (grown_drew (grown_alloc (grown_refl _ _) _)) g_w6
      have z_w6 := s_w6.size
      replace gA := gA.past s_w6 hbA
      clear tp
      have tp := t_w6
      have l_tp_w6 := tp.lt
      clear g_w6 s_w6 t_w6
      go_wp2_with fail
      with_reducible refine (odd_x _ _ _ tp (by omega)).mono ?_
      rintro e w7 ⟨y, rfl, t_w7, g_w7⟩
      have s_w7 : w6.grownBy w7 (some (w.heap.size)) := by first | exact g_w7 | exact grown_trans (grown_alloc (grown_refl _ _) _) g_w7 | exact grown_trans (grown_alloc (grown_alloc (grown_refl _ _) _) _) g_w7 | exact grown_trans (grown_drew (grown_refl _ _)) g_w7 | exact grown_trans (grown_drew (grown_alloc (grown_refl _ _) _)) g_w7
      have z_w7 := s_w7.size
      replace gA := gA.past s_w7 hbA
      clear tp
      have tp := t_w7
      have l_tp_w7 := tp.lt
      clear g_w7 s_w7 t_w7
      go_wp2_with fail
      with_reducible refine (odd_x _ _ _ tp (by omega)).mono ?_
      rintro e w8 ⟨x, rfl, t_w8, g_w8⟩
      have s_w8 : w7.grownBy w8 (some (w.heap.size)) := by first | exact g_w8 | exact grown_trans (grown_alloc (grown_refl _ _) _) g_w8 | exact grown_trans (grown_alloc (grown_alloc (grown_refl _ _) _) _) g_w8 | exact grown_trans (grown_drew (grown_refl _ _)) g_w8 | exact grown_trans (grown_drew (grown_alloc (grown_refl _ _) _)) g_w8
      have z_w8 := s_w8.size
      replace gA := gA.past s_w8 hbA
      clear tp
      have tp := t_w8
      have l_tp_w8 := tp.lt
      clear g_w8 s_w8 t_w8
      go_wp2_with fail
      go_meet
      exact ⟨z, y, x, rfl, rfl, rfl, gA⟩
    · have e5 : (q5 == 0) = false := by simpa using e4
      clear e4
      go_wp2_with fail
      go_meet
      exact ⟨_, _, _, rfl, rfl, rfl, gA⟩
  case rest =>
    clear gA tp
    obtain ⟨n, s, p, rfl, rfl, rfl, gA⟩ := hcut
    go_wp2_with (first | (go_at_call 9; (with_reducible refine (owner_any _ _).mono ?_); rintro e w1 ⟨rfl, rfl⟩) | (go_at_call 10; (with_reducible refine (rowner_any _ _).mono ?_); rintro e w1 ⟨rfl, rfl⟩) | (go_at_call 11; (with_reducible refine (slots_any _ _).mono ?_); rintro e w1 ⟨rfl, rfl⟩) | (go_at_call 13; (with_reducible refine (inode_any _ _ _).mono ?_); rintro e w1 ⟨rfl, rfl⟩) | (go_at_call 15; (with_reducible refine (page_any _ _ _).mono ?_); rintro e w1 ⟨rfl, rfl⟩) | (go_at_call 12; (with_reducible refine (rslots_any _ _).mono ?_); rintro e w1 ⟨rfl, rfl⟩) | (go_at_call 14; (with_reducible refine (rinode_any _ _ _).mono ?_); rintro e w1 ⟨rfl, rfl⟩) | (go_at_call 16; (with_reducible refine (rpage_any _ _ _).mono ?_); rintro e w1 ⟨rfl, rfl⟩))
    with_reducible refine (awake_any _).mono ?_
    rintro e w9 ⟨rfl, g9⟩
    go_wp2
    go_ret
    exact ⟨rfl, gA.trans g9⟩

theorem Try.own : ownKnob Try.prog.godebug = none := by kernel_rfl
theorem Try.laidOut : laidOutB Try.prog = true := by kernel_rfl

theorem layoutPlaces_contract (W : World) (base : Nat) (args : Array Value) (H : Type) (enc : TypeId × Value → H) (ds : List (DataW H)) (p : List MemPlace)
    (hval : ∀ (j : Nat) t v, Try.f3.params[j]? = some t → args[j]? = some v → Value.okWide Try.prog W .any base t v)
    (hA : DataW.TrodAll enc Try.prog W 0 (fun _ => true) true Try.f3.params.toList args.toList ds p) :
    (∃ d0, ds = [d0]) ∧ Calls Try.prog 3 args W fun e W' => e = .returned (.bool true) ∧ Below W.heap.size W W' := by
  rw [Try.params3] at hval hA
  obtain ⟨v0, d0, p0, ha, hd, hp, h0⟩ := args_1 hA
  subst ha hd
  obtain ⟨A0, c0, xs0, rfl, hr0, hm0⟩ := open_introw Try.underlying22 Try.underlying3 (by kernel_rfl) (hval 0 _ _ rfl rfl) h0
  exact ⟨⟨_, rfl⟩, (places_core A0 c0 xs0 W hr0 hm0).mono fun _ _ h => h⟩

set_option maxRecDepth 100000 in
theorem layoutPlaces_lifted (os : Os) (started : os.Started) (H : Type) (enc : TypeId × Value → H) :
    ReturnsInHanded {} Try.checked os 3 .any (Rows.layoutPlacesSpec.pre6 enc Try.prog Try.f3 Rows.layoutPlacesRow.domain false) (Rows.layoutPlacesSpec.post enc Try.prog Try.f3 false true false false) := by
  refine returnsInHanded_of_change (C := Try.checked) Try.own started (by kernel_rfl) Try.func3
    (ChangeSpec.witness6 (enc := enc) (C := Try.checked) false ⟨#[], #[.slice none 0 0], []⟩ 8 (by kernel_rfl) (by kernel_rfl) (by kernel_rfl) (by kernel_rfl)) ?_
  intro W base args ds gs before hval hW _ _
  obtain ⟨p, q, hA, hV, hrest⟩ := id hW
  obtain ⟨⟨d0, rfl⟩, hc⟩ := layoutPlaces_contract W base args H enc ds p hval hA
  obtain ⟨rfl, -⟩ := trodVars_none hV
  refine hc.mono fun e W' ⟨he, hb⟩ => ⟨_, he, ?_⟩
  exact law_close (tb := 4) Try.laidOut (by rw [Try.params3]; decide +kernel) Try.underlying4 rfl rfl hW rfl rfl rfl hb

theorem layoutPlaces_holds : Rows.LayoutPlacesSaid :=
  OpenClaim.holds_of_wide 3 Try.f3 rfl rfl rfl rfl rfl rfl rfl ⟨rfl, rfl, rfl, rfl, rfl⟩ rfl rfl rfl rfl rfl (by kernel_rfl) Try.func3 (by kernel_rfl)
    (of_decide_eq_true (by kernel_rfl)) (by unfold Func.isWrapper; first | (rw [if_pos (by decide +kernel)]; kernel_rfl) | (rw [if_neg (by decide +kernel)]; exact ⟨rfl, rfl⟩))
    (fun os started H enc _ => layoutPlaces_lifted os started H enc)
end Go.Proofs.Ytfoeemibhkkbgaa
