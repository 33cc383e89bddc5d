/- InodeTears holds: a sector that a crash tore, between the sectors of two inodes of a file, is decoded only if both are the same. -/
import Derived.Test.YtbcakadefineiaaPairLib
import Derived.Test.YtbcakadefineiaaDrawn
import Derived.Test.YtbcakadefineiaaAwake3
import Derived.Deep.DrawnRows
namespace Go.Proofs.Ytbcakadefineiaa
attribute [local go_sem ↓] Go.wp_at_zero Go.wp_at_succ
open Go.ChangeShapes Go.WideShapes Go.ChangeAt Go.RowKit Go.Mine

theorem three_cases (q z b q' z' b' : Int) : (q = q' ∧ z = z' ∧ b = b') ∨ ((q == q') = false) ∨ (q = q' ∧ (z == z') = false) ∨ (q = q' ∧ z = z' ∧ (b == b') = false) := by
  by_cases h1 : q = q'
  · by_cases h2 : z = z'
    · by_cases h3 : b = b'
      · exact .inl ⟨h1, h2, h3⟩
      · exact .inr (.inr (.inr ⟨h1, h2, beq_eq_false_iff_ne.2 h3⟩))
    · exact .inr (.inr (.inl ⟨h1, beq_eq_false_iff_ne.2 h2⟩))
  · exact .inr (.inl (beq_eq_false_iff_ne.2 h1))
theorem dec_own (q z b f : Int) (w : World) (hv : validI q z b = true) (hf : withB f 7 = true) :
    Calls Try.prog 13 #[.string (secS q z b f), .int .i64 f] w (RetG (.tuple #[inoV q z b, .bool true]) w) := by
  obtain ⟨v1, v2, v3⟩ := sec_vals hv hf
  have ok := sec_ok hv hf
  exact (decode_all _ f w).mono fun _ _ k => retG_of (by rw [v1, v2, v3, ok]) k
theorem dec_none (s : ByteArray) (f : Int) (w : World) (h : dOK s f = false) :
    Calls Try.prog 13 #[.string s, .int .i64 f] w (RetG (.tuple #[inoV 0 0 0, .bool false]) w) :=
  (decode_all s f w).mono fun _ _ k => retG_of (by simp [dQ, dZ, dB, h]) k
theorem mix_other {q z b q' z' b' f : Int} (h : validI q z b = true) (h' : validI q' z' b' = true) (hf : withB f 7 = true) (hne : ¬ (q = q' ∧ z = z' ∧ b = b')) : dOK (mixS q z b q' z' b' f) f = false := by
  rw [mix_same h h' hf]
  exact decide_eq_false hne

theorem dec_mix (q z b f : Int) (w : World) (hv : validI q z b = true) (hf : withB f 7 = true) :
    Calls Try.prog 13 #[.string (mixS q z b q z b f), .int .i64 f] w (RetG (.tuple #[inoV q z b, .bool true]) w) := dec_own q z b f w hv hf

set_option maxRecDepth 100000 in
set_option maxHeartbeats 8000000 in
theorem tears_core (A : Option Addr) (c : Nat) (xs : List Int) (wh : Bool) (w : World) (hr : IntRow w A xs) (hm : xs.length ≤ maxLen) :
    Calls Try.prog 4 #[.slice A xs.length c, .bool wh] w (RetG (.bool true) w) := by
  have tp := Tp.made hr hm c 25
  have gA := Grew.refl w
  have HR := Lib.hid hr
  clear hr
  generalize hX : xs.length = X at *
  clear hX
  have hbA : w.heap.size ≤ w.heap.size := Nat.le_refl _
  go_enter Try.func4, Try.ntmps4
  go_wp2_with fail
  with_reducible refine (next_x _ _ _ _ (by omega) (by omega) tp).mono ?_
  rintro e w1 ⟨f, f0, f1, rfl, t_w1, g_w1⟩
  have s_w1 : w.grownBy w1 (some (w.heap.size)) := by first | exact g_w1 | exact grown_trans (grown_alloc (grown_refl _ _) _) g_w1 | exact grown_trans (grown_alloc (grown_alloc (grown_refl _ _) _) _) g_w1 | exact grown_trans (grown_drew (grown_refl _ _)) g_w1 | exact grown_trans (grown_drew (grown_alloc (grown_refl _ _) _)) g_w1
  have z_w1 := s_w1.size
  replace gA := gA.past s_w1 hbA
  clear tp
  have tp := t_w1
  have l_tp_w1 := tp.lt
  clear g_w1 s_w1 t_w1
  go_wp2_with fail
  with_reducible refine (drawn_x _ _ _ tp (by omega)).mono ?_
  rintro e w2 ⟨q, z, b, rfl, t_w2, g_w2⟩
  have s_w2 : w1.grownBy w2 (some (w.heap.size)) := by first | exact g_w2 | exact grown_trans (grown_alloc (grown_refl _ _) _) g_w2 | exact grown_trans (grown_alloc (grown_alloc (grown_refl _ _) _) _) g_w2 | exact grown_trans (grown_drew (grown_refl _ _)) g_w2 | exact grown_trans (grown_drew (grown_alloc (grown_refl _ _) _)) g_w2
  have z_w2 := s_w2.size
  replace gA := gA.past s_w2 hbA
  clear tp
  have tp := t_w2
  have l_tp_w2 := tp.lt
  clear g_w2 s_w2 t_w2
  go_wp2_with fail
  with_reducible refine (drawn_x _ _ _ tp (by omega)).mono ?_
  rintro e w3 ⟨q', z', b', rfl, t_w3, g_w3⟩
  have s_w3 : w2.grownBy w3 (some (w.heap.size)) := by first | exact g_w3 | exact grown_trans (grown_alloc (grown_refl _ _) _) g_w3 | exact grown_trans (grown_alloc (grown_alloc (grown_refl _ _) _) _) g_w3 | exact grown_trans (grown_drew (grown_refl _ _)) g_w3 | exact grown_trans (grown_drew (grown_alloc (grown_refl _ _) _)) g_w3
  have z_w3 := s_w3.size
  replace gA := gA.past s_w3 hbA
  clear tp
  have tp := t_w3
  have l_tp_w3 := tp.lt
  clear g_w3 s_w3 t_w3
  clear tp
  have hf : withB f 7 = true := file_mk (by omega)
  have X := (Own.new w3 28 #[.int .i64 q, .int .i64 z, .int .i64 b]).alloc (.cells #[.int .i64 q', .int .i64 z', .int .i64 b'] 28)
  have Y := Own.new2 w3 (.cells #[.int .i64 q, .int .i64 z, .int .i64 b] 28) 28 #[.int .i64 q', .int .i64 z', .int .i64 b']
  replace gA := (gA.alloc (.cells #[.int .i64 q, .int .i64 z, .int .i64 b] 28)).alloc (.cells #[.int .i64 q', .int .i64 z', .int .i64 b'] 28)
  go_upto_region 4 with fail
  generalize hw4 : World.alloc (World.alloc w3 _) _ = w4 at *
  clear hw4
  have l_X := X.lt
  have l_Y := Y.lt
  obtain ⟨X0, X1, X2, X3, X4, X5⟩ := X.three
  obtain ⟨Y0, Y1, Y2, Y3, Y4, Y5⟩ := Y.three
  cases hv : validI q z b
  · go_wp2_with fail
    with_reducible refine (encode_invalid _ _ _ _ _ hv).mono ?_
    rintro e w6 ⟨rfl, g_w6⟩
    have s_w6 : Grew w4 w6 := by first | exact g_w6 | exact ((Grew.refl _).alloc _).trans g_w6 | exact (((Grew.refl _).alloc _).alloc _).trans g_w6 | exact (Grew.refl _).drew.trans g_w6 | exact ((Grew.refl _).alloc _).drew.trans g_w6 | exact ((Grew.refl _).drewN _).trans g_w6
    have z_w6 := s_w6.size
    replace Y := Y.grew s_w6
    clear Y0 Y1 Y2 Y3 Y4 Y5
    have l_Y_w6 := Y.lt
    obtain ⟨Y0, Y1, Y2, Y3, Y4, Y5⟩ := Y.three
    replace gA := gA.trans s_w6
    clear g_w6 s_w6
    go_wp2_with fail
    with_reducible refine (encode_all _ _ _ _ _).mono ?_
    rintro e w7 ⟨rfl, g_w7⟩
    have s_w7 : Grew w6 w7 := by first | exact g_w7 | exact ((Grew.refl _).alloc _).trans g_w7 | exact (((Grew.refl _).alloc _).alloc _).trans g_w7 | exact (Grew.refl _).drew.trans g_w7 | exact ((Grew.refl _).alloc _).drew.trans g_w7 | exact ((Grew.refl _).drewN _).trans g_w7
    have z_w7 := s_w7.size
    replace gA := gA.trans s_w7
    clear g_w7 s_w7
    go_wp2_with fail
    with_reducible refine (awake_any _).mono ?_
    rintro e w8 ⟨rfl, g_w8⟩
    have s_w8 : Grew w7 w8 := by first | exact g_w8 | exact ((Grew.refl _).alloc _).trans g_w8 | exact (((Grew.refl _).alloc _).alloc _).trans g_w8 | exact (Grew.refl _).drew.trans g_w8 | exact ((Grew.refl _).alloc _).drew.trans g_w8 | exact ((Grew.refl _).drewN _).trans g_w8
    have z_w8 := s_w8.size
    replace gA := gA.trans s_w8
    clear g_w8 s_w8
    go_wp2
    go_ret
    exact ⟨rfl, gA⟩
  · cases hv' : validI q' z' b'
    · go_wp2_with fail
      with_reducible refine (encode_ok _ _ _ _ _ hv hf).mono ?_
      rintro e w6 ⟨rfl, g_w6⟩
      have s_w6 : Grew w4 w6 := by first | exact g_w6 | exact ((Grew.refl _).alloc _).trans g_w6 | exact (((Grew.refl _).alloc _).alloc _).trans g_w6 | exact (Grew.refl _).drew.trans g_w6 | exact ((Grew.refl _).alloc _).drew.trans g_w6 | exact ((Grew.refl _).drewN _).trans g_w6
      have z_w6 := s_w6.size
      replace Y := Y.grew s_w6
      clear Y0 Y1 Y2 Y3 Y4 Y5
      have l_Y_w6 := Y.lt
      obtain ⟨Y0, Y1, Y2, Y3, Y4, Y5⟩ := Y.three
      replace gA := gA.trans s_w6
      clear g_w6 s_w6
      go_wp2_with fail
      with_reducible refine (encode_invalid _ _ _ _ _ hv').mono ?_
      rintro e w7 ⟨rfl, g_w7⟩
      have s_w7 : Grew w6 w7 := by first | exact g_w7 | exact ((Grew.refl _).alloc _).trans g_w7 | exact (((Grew.refl _).alloc _).alloc _).trans g_w7 | exact (Grew.refl _).drew.trans g_w7 | exact ((Grew.refl _).alloc _).drew.trans g_w7 | exact ((Grew.refl _).drewN _).trans g_w7
      have z_w7 := s_w7.size
      replace gA := gA.trans s_w7
      clear g_w7 s_w7
      go_wp2_with fail
      with_reducible refine (awake_any _).mono ?_
      rintro e w8 ⟨rfl, g_w8⟩
      have s_w8 : Grew w7 w8 := by first | exact g_w8 | exact ((Grew.refl _).alloc _).trans g_w8 | exact (((Grew.refl _).alloc _).alloc _).trans g_w8 | exact (Grew.refl _).drew.trans g_w8 | exact ((Grew.refl _).alloc _).drew.trans g_w8 | exact ((Grew.refl _).drewN _).trans g_w8
      have z_w8 := s_w8.size
      replace gA := gA.trans s_w8
      clear g_w8 s_w8
      go_wp2
      go_ret
      exact ⟨rfl, gA⟩
    · go_wp2_with fail
      with_reducible refine (encode_ok _ _ _ _ _ hv hf).mono ?_
      rintro e w6 ⟨rfl, g_w6⟩
      have s_w6 : Grew w4 w6 := by first | exact g_w6 | exact ((Grew.refl _).alloc _).trans g_w6 | exact (((Grew.refl _).alloc _).alloc _).trans g_w6 | exact (Grew.refl _).drew.trans g_w6 | exact ((Grew.refl _).alloc _).drew.trans g_w6 | exact ((Grew.refl _).drewN _).trans g_w6
      have z_w6 := s_w6.size
      replace X := X.grew s_w6
      clear X0 X1 X2 X3 X4 X5
      have l_X_w6 := X.lt
      replace Y := Y.grew s_w6
      clear Y0 Y1 Y2 Y3 Y4 Y5
      have l_Y_w6 := Y.lt
      obtain ⟨X0, X1, X2, X3, X4, X5⟩ := X.three
      obtain ⟨Y0, Y1, Y2, Y3, Y4, Y5⟩ := Y.three
      replace gA := gA.trans s_w6
      clear g_w6 s_w6
      go_wp2_with fail
      with_reducible refine (encode_ok _ _ _ _ _ hv' hf).mono ?_
      rintro e w7 ⟨rfl, g_w7⟩
      have s_w7 : Grew w6 w7 := by first | exact g_w7 | exact ((Grew.refl _).alloc _).trans g_w7 | exact (((Grew.refl _).alloc _).alloc _).trans g_w7 | exact (Grew.refl _).drew.trans g_w7 | exact ((Grew.refl _).alloc _).drew.trans g_w7 | exact ((Grew.refl _).drewN _).trans g_w7
      have z_w7 := s_w7.size
      replace X := X.grew s_w7
      clear X0 X1 X2 X3 X4 X5
      have l_X_w7 := X.lt
      replace Y := Y.grew s_w7
      clear Y0 Y1 Y2 Y3 Y4 Y5
      have l_Y_w7 := Y.lt
      obtain ⟨X0, X1, X2, X3, X4, X5⟩ := X.three
      obtain ⟨Y0, Y1, Y2, Y3, Y4, Y5⟩ := Y.three
      replace gA := gA.trans s_w7
      clear g_w7 s_w7
      have HV := Lib.hid hv
      have HV' := Lib.hid hv'
      have HF := Lib.hid hf
      clear hv hv' hf
      rcases three_cases q z b q' z' b' with ⟨rfl, rfl, rfl⟩ | h | ⟨rfl, h⟩ | ⟨rfl, rfl, h⟩
      · cases wh
        · go_wp2_with fail
          with_reducible refine (torn_c0 _ _ _ _ _ _ _ _).mono ?_
          rintro e w8 ⟨rfl, g_w8⟩
          have s_w8 : Grew w7 w8 := by first | exact g_w8 | exact ((Grew.refl _).alloc _).trans g_w8 | exact (((Grew.refl _).alloc _).alloc _).trans g_w8 | exact (Grew.refl _).drew.trans g_w8 | exact ((Grew.refl _).alloc _).drew.trans g_w8 | exact ((Grew.refl _).drewN _).trans g_w8
          have z_w8 := s_w8.size
          replace X := X.grew s_w8
          clear X0 X1 X2 X3 X4 X5
          have l_X_w8 := X.lt
          replace Y := Y.grew s_w8
          clear Y0 Y1 Y2 Y3 Y4 Y5
          have l_Y_w8 := Y.lt
          obtain ⟨X0, X1, X2, X3, X4, X5⟩ := X.three
          obtain ⟨Y0, Y1, Y2, Y3, Y4, Y5⟩ := Y.three
          replace gA := gA.trans s_w8
          clear g_w8 s_w8
          go_wp2_with fail
          with_reducible refine (dec_mix _ _ _ _ _ HV.out HF.out).mono ?_
          rintro e w9 ⟨rfl, g_w9⟩
          have s_w9 : Grew w8 w9 := by first | exact g_w9 | exact ((Grew.refl _).alloc _).trans g_w9 | exact (((Grew.refl _).alloc _).alloc _).trans g_w9 | exact (Grew.refl _).drew.trans g_w9 | exact ((Grew.refl _).alloc _).drew.trans g_w9 | exact ((Grew.refl _).drewN _).trans g_w9
          have z_w9 := s_w9.size
          replace X := X.grew s_w9
          clear X0 X1 X2 X3 X4 X5
          have l_X_w9 := X.lt
          replace Y := Y.grew s_w9
          clear Y0 Y1 Y2 Y3 Y4 Y5
          have l_Y_w9 := Y.lt
          obtain ⟨X0, X1, X2, X3, X4, X5⟩ := X.three
          obtain ⟨Y0, Y1, Y2, Y3, Y4, Y5⟩ := Y.three
          replace gA := gA.trans s_w9
          clear g_w9 s_w9
          go_wp2_with fail
          with_reducible refine (awake_any _).mono ?_
          rintro e wa ⟨rfl, g_wa⟩
          have s_wa : Grew w9 wa := by first | exact g_wa | exact ((Grew.refl _).alloc _).trans g_wa | exact (((Grew.refl _).alloc _).alloc _).trans g_wa | exact (Grew.refl _).drew.trans g_wa | exact ((Grew.refl _).alloc _).drew.trans g_wa | exact ((Grew.refl _).drewN _).trans g_wa
          have z_wa := s_wa.size
          replace X := X.grew s_wa
          clear X0 X1 X2 X3 X4 X5
          have l_X_wa := X.lt
          replace Y := Y.grew s_wa
          clear Y0 Y1 Y2 Y3 Y4 Y5
          have l_Y_wa := Y.lt
          have Z := (Own.new w9 _ _).grew g_wa
          have l_Z_wa := Z.lt
          obtain ⟨X0, X1, X2, X3, X4, X5⟩ := X.three
          obtain ⟨Y0, Y1, Y2, Y3, Y4, Y5⟩ := Y.three
          obtain ⟨Z0, Z1, Z2, Z3, Z4, Z5⟩ := Z.three
          replace gA := gA.trans s_wa
          clear g_wa s_wa
          go_wp2
          go_ret
          exact ⟨rfl, gA⟩
        · go_wp2_with fail
          with_reducible refine (torn_c1 _ _ _ _ _ _ _ _).mono ?_
          rintro e w8 ⟨rfl, g_w8⟩
          have s_w8 : Grew w7 w8 := by first | exact g_w8 | exact ((Grew.refl _).alloc _).trans g_w8 | exact (((Grew.refl _).alloc _).alloc _).trans g_w8 | exact (Grew.refl _).drew.trans g_w8 | exact ((Grew.refl _).alloc _).drew.trans g_w8 | exact ((Grew.refl _).drewN _).trans g_w8
          have z_w8 := s_w8.size
          replace X := X.grew s_w8
          clear X0 X1 X2 X3 X4 X5
          have l_X_w8 := X.lt
          replace Y := Y.grew s_w8
          clear Y0 Y1 Y2 Y3 Y4 Y5
          have l_Y_w8 := Y.lt
          obtain ⟨X0, X1, X2, X3, X4, X5⟩ := X.three
          obtain ⟨Y0, Y1, Y2, Y3, Y4, Y5⟩ := Y.three
          replace gA := gA.trans s_w8
          clear g_w8 s_w8
          go_wp2_with fail
          with_reducible refine (dec_mix _ _ _ _ _ HV.out HF.out).mono ?_
          rintro e w9 ⟨rfl, g_w9⟩
          have s_w9 : Grew w8 w9 := by first | exact g_w9 | exact ((Grew.refl _).alloc _).trans g_w9 | exact (((Grew.refl _).alloc _).alloc _).trans g_w9 | exact (Grew.refl _).drew.trans g_w9 | exact ((Grew.refl _).alloc _).drew.trans g_w9 | exact ((Grew.refl _).drewN _).trans g_w9
          have z_w9 := s_w9.size
          replace X := X.grew s_w9
          clear X0 X1 X2 X3 X4 X5
          have l_X_w9 := X.lt
          replace Y := Y.grew s_w9
          clear Y0 Y1 Y2 Y3 Y4 Y5
          have l_Y_w9 := Y.lt
          obtain ⟨X0, X1, X2, X3, X4, X5⟩ := X.three
          obtain ⟨Y0, Y1, Y2, Y3, Y4, Y5⟩ := Y.three
          replace gA := gA.trans s_w9
          clear g_w9 s_w9
          go_wp2_with fail
          with_reducible refine (awake_any _).mono ?_
          rintro e wa ⟨rfl, g_wa⟩
          have s_wa : Grew w9 wa := by first | exact g_wa | exact ((Grew.refl _).alloc _).trans g_wa | exact (((Grew.refl _).alloc _).alloc _).trans g_wa | exact (Grew.refl _).drew.trans g_wa | exact ((Grew.refl _).alloc _).drew.trans g_wa | exact ((Grew.refl _).drewN _).trans g_wa
          have z_wa := s_wa.size
          replace X := X.grew s_wa
          clear X0 X1 X2 X3 X4 X5
          have l_X_wa := X.lt
          replace Y := Y.grew s_wa
          clear Y0 Y1 Y2 Y3 Y4 Y5
          have l_Y_wa := Y.lt
          have Z := (Own.new w9 _ _).grew g_wa
          have l_Z_wa := Z.lt
          obtain ⟨X0, X1, X2, X3, X4, X5⟩ := X.three
          obtain ⟨Y0, Y1, Y2, Y3, Y4, Y5⟩ := Y.three
          obtain ⟨Z0, Z1, Z2, Z3, Z4, Z5⟩ := Z.three
          replace gA := gA.trans s_wa
          clear g_wa s_wa
          go_wp2
          go_ret
          exact ⟨rfl, gA⟩
      all_goals
        cases wh
        · have hd := mix_other HV'.out HV.out HF.out (fun e => (beq_eq_false_iff_ne.1 h) (by omega))
          have HD := Lib.hid hd
          clear hd
          go_wp2_with fail
          with_reducible refine (torn_c0 _ _ _ _ _ _ _ _).mono ?_
          rintro e w8 ⟨rfl, g_w8⟩
          have s_w8 : Grew w7 w8 := by first | exact g_w8 | exact ((Grew.refl _).alloc _).trans g_w8 | exact (((Grew.refl _).alloc _).alloc _).trans g_w8 | exact (Grew.refl _).drew.trans g_w8 | exact ((Grew.refl _).alloc _).drew.trans g_w8 | exact ((Grew.refl _).drewN _).trans g_w8
          have z_w8 := s_w8.size
          replace X := X.grew s_w8
          clear X0 X1 X2 X3 X4 X5
          have l_X_w8 := X.lt
          replace Y := Y.grew s_w8
          clear Y0 Y1 Y2 Y3 Y4 Y5
          have l_Y_w8 := Y.lt
          obtain ⟨X0, X1, X2, X3, X4, X5⟩ := X.three
          obtain ⟨Y0, Y1, Y2, Y3, Y4, Y5⟩ := Y.three
          replace gA := gA.trans s_w8
          clear g_w8 s_w8
          go_wp2_with fail
          with_reducible refine (dec_none _ _ _ HD.out).mono ?_
          rintro e w9 ⟨rfl, g_w9⟩
          have s_w9 : Grew w8 w9 := by first | exact g_w9 | exact ((Grew.refl _).alloc _).trans g_w9 | exact (((Grew.refl _).alloc _).alloc _).trans g_w9 | exact (Grew.refl _).drew.trans g_w9 | exact ((Grew.refl _).alloc _).drew.trans g_w9 | exact ((Grew.refl _).drewN _).trans g_w9
          have z_w9 := s_w9.size
          replace X := X.grew s_w9
          clear X0 X1 X2 X3 X4 X5
          have l_X_w9 := X.lt
          replace Y := Y.grew s_w9
          clear Y0 Y1 Y2 Y3 Y4 Y5
          have l_Y_w9 := Y.lt
          obtain ⟨X0, X1, X2, X3, X4, X5⟩ := X.three
          obtain ⟨Y0, Y1, Y2, Y3, Y4, Y5⟩ := Y.three
          replace gA := gA.trans s_w9
          clear g_w9 s_w9
          go_wp2_with fail
          with_reducible refine (awake_any _).mono ?_
          rintro e wa ⟨rfl, g_wa⟩
          have s_wa : Grew w9 wa := by first | exact g_wa | exact ((Grew.refl _).alloc _).trans g_wa | exact (((Grew.refl _).alloc _).alloc _).trans g_wa | exact (Grew.refl _).drew.trans g_wa | exact ((Grew.refl _).alloc _).drew.trans g_wa | exact ((Grew.refl _).drewN _).trans g_wa
          have z_wa := s_wa.size
          replace X := X.grew s_wa
          clear X0 X1 X2 X3 X4 X5
          have l_X_wa := X.lt
          replace Y := Y.grew s_wa
          clear Y0 Y1 Y2 Y3 Y4 Y5
          have l_Y_wa := Y.lt
          have Z := (Own.new w9 _ _).grew g_wa
          have l_Z_wa := Z.lt
          obtain ⟨X0, X1, X2, X3, X4, X5⟩ := X.three
          obtain ⟨Y0, Y1, Y2, Y3, Y4, Y5⟩ := Y.three
          obtain ⟨Z0, Z1, Z2, Z3, Z4, Z5⟩ := Z.three
          replace gA := gA.trans s_wa
          clear g_wa s_wa
          go_wp2
          go_ret
          exact ⟨rfl, gA⟩
        · have hd := mix_other HV.out HV'.out HF.out (fun e => (beq_eq_false_iff_ne.1 h) (by omega))
          have HD := Lib.hid hd
          clear hd
          go_wp2_with fail
          with_reducible refine (torn_c1 _ _ _ _ _ _ _ _).mono ?_
          rintro e w8 ⟨rfl, g_w8⟩
          have s_w8 : Grew w7 w8 := by first | exact g_w8 | exact ((Grew.refl _).alloc _).trans g_w8 | exact (((Grew.refl _).alloc _).alloc _).trans g_w8 | exact (Grew.refl _).drew.trans g_w8 | exact ((Grew.refl _).alloc _).drew.trans g_w8 | exact ((Grew.refl _).drewN _).trans g_w8
          have z_w8 := s_w8.size
          replace X := X.grew s_w8
          clear X0 X1 X2 X3 X4 X5
          have l_X_w8 := X.lt
          replace Y := Y.grew s_w8
          clear Y0 Y1 Y2 Y3 Y4 Y5
          have l_Y_w8 := Y.lt
          obtain ⟨X0, X1, X2, X3, X4, X5⟩ := X.three
          obtain ⟨Y0, Y1, Y2, Y3, Y4, Y5⟩ := Y.three
          replace gA := gA.trans s_w8
          clear g_w8 s_w8
          go_wp2_with fail
          with_reducible refine (dec_none _ _ _ HD.out).mono ?_
          rintro e w9 ⟨rfl, g_w9⟩
          have s_w9 : Grew w8 w9 := by first | exact g_w9 | exact ((Grew.refl _).alloc _).trans g_w9 | exact (((Grew.refl _).alloc _).alloc _).trans g_w9 | exact (Grew.refl _).drew.trans g_w9 | exact ((Grew.refl _).alloc _).drew.trans g_w9 | exact ((Grew.refl _).drewN _).trans g_w9
          have z_w9 := s_w9.size
          replace X := X.grew s_w9
          clear X0 X1 X2 X3 X4 X5
          have l_X_w9 := X.lt
          replace Y := Y.grew s_w9
          clear Y0 Y1 Y2 Y3 Y4 Y5
          have l_Y_w9 := Y.lt
          obtain ⟨X0, X1, X2, X3, X4, X5⟩ := X.three
          obtain ⟨Y0, Y1, Y2, Y3, Y4, Y5⟩ := Y.three
          replace gA := gA.trans s_w9
          clear g_w9 s_w9
          go_wp2_with fail
          with_reducible refine (awake_any _).mono ?_
          rintro e wa ⟨rfl, g_wa⟩
          have s_wa : Grew w9 wa := by first | exact g_wa | exact ((Grew.refl _).alloc _).trans g_wa | exact (((Grew.refl _).alloc _).alloc _).trans g_wa | exact (Grew.refl _).drew.trans g_wa | exact ((Grew.refl _).alloc _).drew.trans g_wa | exact ((Grew.refl _).drewN _).trans g_wa
          have z_wa := s_wa.size
          replace X := X.grew s_wa
          clear X0 X1 X2 X3 X4 X5
          have l_X_wa := X.lt
          replace Y := Y.grew s_wa
          clear Y0 Y1 Y2 Y3 Y4 Y5
          have l_Y_wa := Y.lt
          have Z := (Own.new w9 _ _).grew g_wa
          have l_Z_wa := Z.lt
          obtain ⟨X0, X1, X2, X3, X4, X5⟩ := X.three
          obtain ⟨Y0, Y1, Y2, Y3, Y4, Y5⟩ := Y.three
          obtain ⟨Z0, Z1, Z2, Z3, Z4, Z5⟩ := Z.three
          replace gA := gA.trans s_wa
          clear g_wa s_wa
          go_wp2
          go_ret
          exact ⟨rfl, gA⟩

theorem Try.own : ownKnob Try.prog.godebug = none := by kernel_rfl
theorem Try.laidOut : laidOutB Try.prog = true := by kernel_rfl

theorem inodeTears_contract (W : World) (base : Nat) (args : Array Value) (H : Type) (enc : TypeId × Value → H) (ds : List (DataW H)) (p : List MemPlace)
    (hval : ∀ (j : Nat) t v, Try.f4.params[j]? = some t → args[j]? = some v → Value.okWide Try.prog W .any base t v)
    (hA : DataW.TrodAll enc Try.prog W 0 (fun _ => true) true Try.f4.params.toList args.toList ds p) :
    (∃ d0 d1, ds = [d0, d1]) ∧ Calls Try.prog 4 args W fun e W' => e = .returned (.bool true) ∧ Below W.heap.size W W' := by
  rw [Try.params4] at hval hA
  obtain ⟨v0, v1, d0, d1, p0, p1, ha, hd, hp, h0, h1⟩ := args_2 hA
  subst ha hd
  obtain ⟨A0, c0, xs0, rfl, hr0, hm0⟩ := open_introw Try.underlying22 Try.underlying3 (by kernel_rfl) (hval 0 _ _ rfl rfl) h0
  obtain ⟨v1, rfl, -, -⟩ := open_bool Try.underlying4 (hval 1 _ _ rfl rfl) h1
  exact ⟨⟨_, _, rfl⟩, (tears_core A0 c0 xs0 v1 W hr0 hm0).mono fun _ _ h => h⟩

set_option maxRecDepth 100000 in
theorem inodeTears_lifted (os : Os) (started : os.Started) (H : Type) (enc : TypeId × Value → H) :
    ReturnsInHanded {} Try.checked os 4 .any (Rows.inodeTearsSpec.pre6 enc Try.prog Try.f4 Rows.inodeTearsRow.domain false) (Rows.inodeTearsSpec.post enc Try.prog Try.f4 false true false false) := by
  refine returnsInHanded_of_change (C := Try.checked) Try.own started (by kernel_rfl) Try.func4
    (ChangeSpec.witness6 (enc := enc) (C := Try.checked) false ⟨#[], #[.slice none 0 0, .bool false], []⟩ 8 (by kernel_rfl) (by kernel_rfl) (by kernel_rfl) (by kernel_rfl)) ?_
  intro W base args ds gs before hval hW _ _
  obtain ⟨p, q, hA, hV, hrest⟩ := id hW
  obtain ⟨⟨d0, d1, rfl⟩, hc⟩ := inodeTears_contract W base args H enc ds p hval hA
  obtain ⟨rfl, -⟩ := trodVars_none hV
  refine hc.mono fun e W' ⟨he, hb⟩ => ⟨_, he, ?_⟩
  exact law_close (tb := 4) Try.laidOut (by rw [Try.params4]; decide +kernel) Try.underlying4 rfl rfl hW rfl rfl rfl hb

theorem inodeTears_holds : Rows.InodeTearsSaid :=
  OpenClaim.holds_of_wide 4 Try.f4 rfl rfl rfl rfl rfl rfl rfl ⟨rfl, rfl, rfl, rfl, rfl⟩ rfl rfl rfl rfl rfl (by kernel_rfl) Try.func4 (by kernel_rfl)
    (of_decide_eq_true (by kernel_rfl)) (by unfold Func.isWrapper; first | (rw [if_pos (by decide +kernel)]; kernel_rfl) | (rw [if_neg (by decide +kernel)]; exact ⟨rfl, rfl⟩))
    (fun os started H enc _ => inodeTears_lifted os started H enc)
end Go.Proofs.Ytbcakadefineiaa
