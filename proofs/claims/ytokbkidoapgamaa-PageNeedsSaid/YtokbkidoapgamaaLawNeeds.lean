/- PageNeeds holds: what is needed is enough, none of it is too much, and nothing is needed where all sectors are valid. -/
import Derived.Test.YtokbkidoapgamaaNeedLib
import Derived.Test.YtokbkidoapgamaaMadePage
import Derived.Deep.DeepCutAuto
import Derived.Deep.RegionHeld3
import Derived.Deep.DrawnRows
namespace Go.Proofs.Ytokbkidoapgamaa
attribute [local go_sem ↓] Go.wp_at_zero Go.wp_at_succ
open Go.ChangeShapes Go.WideShapes Go.ChangeAt Go.RowKit Go.Mine

/-- What stands behind a fill: a new page in a block of its own. -/
def FillCut (w : World) (b6 : Nat) (d : ByteArray) (v t l : Int) (va vb : Value) (wx : World) : Prop :=
  ∃ (x : ByteArray) (b : Nat), x.size = 16 ∧ w.heap.size < b ∧ va = .pointer (some ⟨b, 0, none⟩) ∧ vb = .int .i64 0 ∧ Own wx b 29 #[.string (mixP d x (bits .andNot .i64 l v)), .int .i64 (bits .or .i64 v l), .int .i64 t] ∧
    Own wx b6 29 #[.string d, .int .i64 v, .int .i64 t] ∧ Tp (w.heap.size + 1) wx w.heap.size ∧ Grew w wx
/-- What stands behind a test that came out false. -/
def TestCut (w : World) (b6 : Nat) (d : ByteArray) (v t : Int) (va : Value) (wx : World) : Prop :=
  va = .bool false ∧ Own wx b6 29 #[.string d, .int .i64 v, .int .i64 t] ∧ Tp (w.heap.size + 1) wx w.heap.size ∧ Grew w wx

set_option maxRecDepth 100000 in
set_option maxHeartbeats 30000000 in
theorem needs_core (A : Option Addr) (c : Nat) (xs : List Int) (wf : Bool) (w : World) (hr : IntRow w A xs) (hm : xs.length ≤ maxLen) :
    Calls Try.prog 4 #[.slice A xs.length c, .bool wf] w (RetG (.bool true) w) := by
  have tp := Tp.made hr hm c 25
  have gA := Grew.refl w
  have HR := Lib.hid hr
  clear hr
  generalize hX : xs.length = X at *
  clear hX
  have hbA : w.heap.size ≤ w.heap.size := Nat.le_refl _
  go_enter Try.func4, Try.ntmps4
  go_wp2_with fail
  with_reducible refine (madePage_x _ _ _ tp (by simp)).mono ?_
  rintro e w1 ⟨d, v, t, rfl, t_w1, g_w1⟩
  have s_w1 : w.grownBy w1 (some (w.heap.size)) := by first | exact g_w1 | exact grown_trans (grown_alloc (grown_refl _ _) _) g_w1 | exact grown_trans (grown_alloc (grown_alloc (grown_refl _ _) _) _) g_w1 | exact grown_trans (grown_drew (grown_refl _ _)) g_w1 | exact grown_trans (grown_drew (grown_alloc (grown_refl _ _) _)) g_w1
  have z_w1 := s_w1.size
  replace gA := gA.past s_w1 hbA
  clear tp
  have tp := t_w1
  have l_tp_w1 := tp.lt
  clear g_w1 s_w1 t_w1
  go_wp2_with fail
  with_reducible refine (next_x _ _ _ _ (by omega) (by omega) (tp.alloc _)).mono ?_
  rintro e w2 ⟨o, o0, o1, rfl, t_w2, g_w2⟩
  have s_w2 : w1.grownBy w2 (some (w.heap.size)) := by first | exact g_w2 | exact grown_trans (grown_alloc (grown_refl _ _) _) g_w2 | exact grown_trans (grown_alloc (grown_alloc (grown_refl _ _) _) _) g_w2 | exact grown_trans (grown_drew (grown_refl _ _)) g_w2 | exact grown_trans (grown_drew (grown_alloc (grown_refl _ _) _)) g_w2
  have z_w2 := s_w2.size
  have P := (Own.new w1 _ _).past g_w2 (by omega)
  have l_P_w2 := P.lt
  obtain ⟨P0, P1, P2, P3, P4, P5⟩ := P.three
  replace gA := gA.past s_w2 hbA
  clear tp
  have tp := t_w2
  have l_tp_w2 := tp.lt
  clear g_w2 s_w2 t_w2
  go_wp2_with fail
  with_reducible refine (next_x _ _ _ _ (by omega) (by omega) tp).mono ?_
  rintro e w3 ⟨n, n0, n1, rfl, t_w3, g_w3⟩
  have s_w3 : w2.grownBy w3 (some (w.heap.size)) := by first | exact g_w3 | exact grown_trans (grown_alloc (grown_refl _ _) _) g_w3 | exact grown_trans (grown_alloc (grown_alloc (grown_refl _ _) _) _) g_w3 | exact grown_trans (grown_drew (grown_refl _ _)) g_w3 | exact grown_trans (grown_drew (grown_alloc (grown_refl _ _) _)) g_w3
  have z_w3 := s_w3.size
  replace P := P.past s_w3 (by omega)
  clear P0 P1 P2 P3 P4 P5
  have l_P_w3 := P.lt
  obtain ⟨P0, P1, P2, P3, P4, P5⟩ := P.three
  replace gA := gA.past s_w3 hbA
  clear tp
  have tp := t_w3
  have l_tp_w3 := tp.lt
  clear g_w3 s_w3 t_w3
  by_cases hR : rightB d v t = true
  · have hg : rangeB o n = true := by simp [rangeB]; omega
    have hM := wantM_c o n wf
    have hV := setB_cases (rightB_parts hR).2.1
    obtain ⟨f1, f2, f3, f4⟩ := need_facts (wantM o n wf) v hM hV
    rw [← need_want v o n wf] at f1 f2 f3
    have hd := (rightB_parts hR).1
    have HD := Lib.hid hd
    clear hd hM hV
    have F1 := Lib.hid f1
    have F3 := Lib.hid f3
    have F4 := Lib.hid f4
    have HG := Lib.hid hg
    clear f1 f3 f4
    go_wp2_with fail
    with_reducible refine (nd_needs _ _ _ _ _ _ _ hR hg).mono ?_
    rintro e w4 ⟨rfl, g_w4⟩
    have s_w4 : Grew w3 w4 := by first | exact g_w4 | exact ((Grew.refl _).alloc _).trans g_w4 | exact (((Grew.refl _).alloc _).alloc _).trans g_w4 | exact (Grew.refl _).drew.trans g_w4 | exact ((Grew.refl _).alloc _).drew.trans g_w4 | exact ((Grew.refl _).drewN _).trans g_w4
    have z_w4 := s_w4.size
    replace P := P.grew s_w4
    clear P0 P1 P2 P3 P4 P5
    have l_P_w4 := P.lt
    obtain ⟨P0, P1, P2, P3, P4, P5⟩ := P.three
    replace gA := gA.trans s_w4
    replace tp := tp.grew s_w4
    clear g_w4 s_w4
    clear hg
    generalize hN : needN v o n wf = N at *
    have HN := Lib.hid hN
    clear hN
    go_wp2_with fail
    with_reducible refine (check_g _ _ _ _).mono ?_
    rintro e w5 ⟨rfl, g_w5⟩
    have s_w5 : Grew w4 w5 := by first | exact g_w5 | exact ((Grew.refl _).alloc _).trans g_w5 | exact (((Grew.refl _).alloc _).alloc _).trans g_w5 | exact (Grew.refl _).drew.trans g_w5 | exact ((Grew.refl _).alloc _).drew.trans g_w5 | exact ((Grew.refl _).drewN _).trans g_w5
    have z_w5 := s_w5.size
    replace P := P.grew s_w5
    clear P0 P1 P2 P3 P4 P5
    have l_P_w5 := P.lt
    obtain ⟨P0, P1, P2, P3, P4, P5⟩ := P.three
    replace gA := gA.trans s_w5
    replace tp := tp.grew s_w5
    clear g_w5 s_w5
    go_upto_region 8 with fail
    go_cut [11, 12] (FillCut w w1.heap.size d v t N)
    case first =>
      go_region_held3 (fun w' => w'.cell? ⟨w1.heap.size, 0, none⟩ = some (.string d) ∧ w'.cell? ⟨w1.heap.size, 1, none⟩ = some (.int .i64 v) ∧ w'.cell? ⟨w1.heap.size, 2, none⟩ = some (.int .i64 t))
        (refine ⟨?_, ?_, ?_⟩ <;> (repeat (first | assumption | (refine far_cell (by omega) ?_) | refine far_alloc ?_ | refine far_drew ?_)))
        (first
          | (go_at_call 5; (with_reducible refine (bytes_x _ _ _ _ (by omega) (by omega) (by first | with_reducible exact tp.drew | with_reducible exact (tp.alloc _).drew) (by first | (simp; omega) | omega)).mono ?_); rintro e w6 ⟨x, hx, rfl, t6, g6⟩; replace hx : x.size = 16 := hx; have O6 : Own w6 w1.heap.size 29 #[.string d, .int .i64 v, .int .i64 t] := (by first | with_reducible exact P.drew.past g6 (by omega) | with_reducible exact (P.alloc _).drew.past g6 (by omega)); have G6 : Grew w w6 := (by first | with_reducible exact gA.drew.past g6 hbA | with_reducible exact (gA.alloc _).drew.past g6 hbA); (try have Z := (Own.new w5 _ _).drew.past g6 (by omega)); have l6 := O6.lt; clear P0 P1 P2 P3 P4 P5; obtain ⟨P0, P1, P2, P3, P4, P5⟩ := O6.three)
          | (go_at_call 8; (with_reducible refine (nd_fill d x v t (N) _ hR f2 hx).mono ?_); rintro e w7 ⟨rfl, g7⟩; have O7 : Own w7 w1.heap.size 29 #[.string d, .int .i64 v, .int .i64 t] := (by first | with_reducible exact O6.grew g7 | with_reducible exact (O6.alloc _).grew g7); have G7 : Grew w w7 := (by first | with_reducible exact G6.trans g7 | with_reducible exact (G6.alloc _).trans g7); have t7 : Tp (w.heap.size + 1) w7 w.heap.size := (by first | with_reducible exact t6.grew g7 | with_reducible exact (t6.alloc _).grew g7); (first | (replace Z := Z.grew g7) | (have Z := (Own.new w6 _ _).grew g7) | skip); (try obtain ⟨Z0, Z1, Z2, Z3, Z4, Z5⟩ := Z.three); have l7 := O7.lt; clear P0 P1 P2 P3 P4 P5; obtain ⟨P0, P1, P2, P3, P4, P5⟩ := O7.three))
      all_goals go_wp2_with fail
      all_goals go_meet
      all_goals first | exact ⟨x, _, hx, by omega, rfl, rfl, Own.new _ _ _, O7.alloc _, t7.alloc _, G7.alloc _⟩ | exact ⟨x, _, hx, by omega, rfl, rfl, Z.store3 rfl, O7.far3 rfl (by omega), t7.far3 rfl (by omega), G7.far3 rfl (by omega)⟩
    case rest =>
      clear gA tp P P0 P1 P2 P3 P4 P5
      obtain ⟨x, b, hx, hbw, rfl, rfl, F, P, tp, gA⟩ := hcut
      obtain ⟨P0, P1, P2, P3, P4, P5⟩ := P.three
      obtain ⟨F0, F1', F2, F3', F4', F5⟩ := F.three
      have l_P := P.lt
      have l_F := F.lt
      have l_tp := tp.lt
      go_upto_region 9 with fail
      go_cut [77] (TestCut w w1.heap.size d v t)
      case first =>
        have hr1 : rightB (mixP d x (bits .andNot .i64 N v)) (bits .or .i64 v N) t = true := or_right hR (mix_size d x _ HD.out hx) f2
        have hz1 : needN (bits .or .i64 v N) o n wf = 0 := F1.out
        by_cases hv3 : v = 3
        · have e1 : (v == 3) = true := by simpa using hv3
          have e2 : (N != 0) = false := by simpa using F3.out hv3
          clear hv3
          go_region_held3 (fun w' => (w'.cell? ⟨b, 0, none⟩ = some (.string (mixP d x (bits .andNot .i64 (N) v))) ∧ w'.cell? ⟨b, 1, none⟩ = some (.int .i64 (bits .or .i64 v (N))) ∧ w'.cell? ⟨b, 2, none⟩ = some (.int .i64 t)) ∧ w'.cell? ⟨w1.heap.size, 1, none⟩ = some (.int .i64 v))
            (refine ⟨⟨?_, ?_, ?_⟩, ?_⟩ <;> (repeat (first | assumption | refine far_drew ?_)))
            (first
              | (go_at_call 5; (with_reducible refine (bytes_x _ _ _ _ n0 (by omega) tp.drew (by first | omega | (simp; omega))).mono ?_); rintro e w6 ⟨s, hs, rfl, t6, g6⟩; have hs2 : (s.size : Int) = n := (by omega); have HS2 := Lib.hid hs2; clear hs hs2; have O6 := P.drew.past g6 (by omega); have Q6 := F.drew.past g6 (by omega); have G6 : Grew w w6 := gA.drew.past g6 hbA; clear P0 P1 P2 P3 P4 P5 F0 F1' F2 F3' F4' F5; obtain ⟨P0, P1, P2, P3, P4, P5⟩ := O6.three; obtain ⟨F0, F1', F2, F3', F4', F5⟩ := Q6.three)
              | (go_at_call 15; (with_reducible refine (nd_att _ s _ _ _ n wf _ hr1 HG.out HS2.out hz1).mono ?_); rintro e w7 ⟨rfl, g7⟩; have O7 := O6.grew g7; have Q7 := Q6.grew g7; have G7 : Grew w w7 := G6.trans g7; have t7 := t6.grew g7; clear P0 P1 P2 P3 P4 P5 F0 F1' F2 F3' F4' F5; obtain ⟨P0, P1, P2, P3, P4, P5⟩ := O7.three; obtain ⟨F0, F1', F2, F3', F4', F5⟩ := Q7.three))
          all_goals go_wp2_with fail
          all_goals go_meet
          all_goals exact ⟨rfl, O7, t7, G7⟩
        · have e1 : (v == 3) = false := by simpa using hv3
          clear hv3
          refine wp_region_noPanic ?_
          first
            | (go_region_held (fun w' => (w'.cell? ⟨b, 0, none⟩ = some (.string (mixP d x (bits .andNot .i64 (N) v))) ∧ w'.cell? ⟨b, 1, none⟩ = some (.int .i64 (bits .or .i64 v (N))) ∧ w'.cell? ⟨b, 2, none⟩ = some (.int .i64 t)) ∧ w'.cell? ⟨w1.heap.size, 1, none⟩ = some (.int .i64 v))
            (refine ⟨⟨?_, ?_, ?_⟩, ?_⟩ <;> (repeat (first | assumption | refine far_drew ?_)))
            (first
              | (go_at_call 5; (with_reducible refine (bytes_x _ _ _ _ n0 (by omega) tp.drew (by first | omega | (simp; omega))).mono ?_); rintro e w6 ⟨s, hs, rfl, t6, g6⟩; have hs2 : (s.size : Int) = n := (by omega); have HS2 := Lib.hid hs2; clear hs hs2; have O6 := P.drew.past g6 (by omega); have Q6 := F.drew.past g6 (by omega); have G6 : Grew w w6 := gA.drew.past g6 hbA; clear P0 P1 P2 P3 P4 P5 F0 F1' F2 F3' F4' F5; obtain ⟨P0, P1, P2, P3, P4, P5⟩ := O6.three; obtain ⟨F0, F1', F2, F3', F4', F5⟩ := Q6.three)
              | (go_at_call 15; (with_reducible refine (nd_att _ s _ _ _ n wf _ hr1 HG.out HS2.out hz1).mono ?_); rintro e w7 ⟨rfl, g7⟩; have O7 := O6.grew g7; have Q7 := Q6.grew g7; have G7 : Grew w w7 := G6.trans g7; have t7 := t6.grew g7; clear P0 P1 P2 P3 P4 P5 F0 F1' F2 F3' F4' F5; obtain ⟨P0, P1, P2, P3, P4, P5⟩ := O7.three; obtain ⟨F0, F1', F2, F3', F4', F5⟩ := Q7.three)))
            | fail
          all_goals refine NoPanic.normal ?_
          all_goals go_wp2_with fail
          all_goals go_meet
          all_goals exact ⟨rfl, O7, t7, G7⟩
      case rest =>
        clear gA tp P P0 P1 P2 P3 P4 P5 F F0 F1' F2 F3' F4' F5
        obtain ⟨rfl, P, tp, gA⟩ := hcut
        obtain ⟨P0, P1, P2, P3, P4, P5⟩ := P.three
        have l_P := P.lt
        have l_tp := tp.lt
        go_wp2_with fail
        go_loopw [13] (fun i wk => ∃ j : Nat, j ≤ 2 ∧ i = .int .i64 j ∧ Own wk w1.heap.size 29 #[.string d, .int .i64 v, .int .i64 t] ∧ Tp (w.heap.size + 1) wk w.heap.size ∧ Grew w wk) (fun i _ => 2 - (intOf i).toNat)
        case atStart => exact ⟨0, by omega, rfl, P, tp, gA⟩
        case round =>
          clear P P0 P1 P2 P3 P4 P5 tp gA l_P l_tp
          obtain ⟨j, hj, rfl, P, tp, gA⟩ := hrel
          obtain ⟨P0, P1, P2, P3, P4, P5⟩ := P.three
          have l_P := P.lt
          have l_tp := tp.lt
          have hjc : j = 0 ∨ j = 1 ∨ j = 2 := by omega
          rcases hjc with rfl | rfl | rfl
          · obtain ⟨f5, f6⟩ := F4.out 1 (by omega)
            rw [← need_want v o n wf, HN.out] at f5 f6
            have F6 := Lib.hid f6
            clear f6
            by_cases e : bits .andNot .i64 N 1 = N
            · have e1 : (bits .andNot .i64 N 1 != N) = false := by simpa using e
              clear e
              go_wp2_with fail
              go_roundw
              case rel => exact ⟨0 + 1, by omega, rfl, P, tp, gA⟩
              case measure => simp [intOf]
            · have e1 : (bits .andNot .i64 N 1 != N) = true := by simpa using e
              have hz2 : needN (bits .or .i64 v (bits .andNot .i64 N 1)) o n wf ≠ 0 := F6.out e
              clear e
              go_upto_region 16 with fail
              go_cut [15, 16] from 78 to 108 (FillCut w w1.heap.size d v t (bits .andNot .i64 N 1))
              case first =>
                go_region_held3 (fun w' => w'.cell? ⟨w1.heap.size, 0, none⟩ = some (.string d) ∧ w'.cell? ⟨w1.heap.size, 1, none⟩ = some (.int .i64 v) ∧ w'.cell? ⟨w1.heap.size, 2, none⟩ = some (.int .i64 t))
                  (refine ⟨?_, ?_, ?_⟩ <;> (repeat (first | assumption | (refine far_cell (by omega) ?_) | refine far_alloc ?_ | refine far_drew ?_)))
                  (first
                    | (go_at_call 5; (with_reducible refine (bytes_x _ _ _ _ (by omega) (by omega) (by first | with_reducible exact tp.drew | with_reducible exact (tp.alloc _).drew) (by first | (simp; omega) | omega)).mono ?_); rintro e w6 ⟨x, hx, rfl, t6, g6⟩; replace hx : x.size = 16 := hx; have O6 : Own w6 w1.heap.size 29 #[.string d, .int .i64 v, .int .i64 t] := (by first | with_reducible exact P.drew.past g6 (by omega) | with_reducible exact (P.alloc _).drew.past g6 (by omega)); have G6 : Grew w w6 := (by first | with_reducible exact gA.drew.past g6 hbA | with_reducible exact (gA.alloc _).drew.past g6 hbA); (try have Z := (Own.new wr _ _).drew.past g6 (by omega)); have l6 := O6.lt; clear P0 P1 P2 P3 P4 P5; obtain ⟨P0, P1, P2, P3, P4, P5⟩ := O6.three)
                    | (go_at_call 8; (with_reducible refine (nd_fill d x v t (bits .andNot .i64 N 1) _ hR f5 hx).mono ?_); rintro e w7 ⟨rfl, g7⟩; have O7 : Own w7 w1.heap.size 29 #[.string d, .int .i64 v, .int .i64 t] := (by first | with_reducible exact O6.grew g7 | with_reducible exact (O6.alloc _).grew g7); have G7 : Grew w w7 := (by first | with_reducible exact G6.trans g7 | with_reducible exact (G6.alloc _).trans g7); have t7 : Tp (w.heap.size + 1) w7 w.heap.size := (by first | with_reducible exact t6.grew g7 | with_reducible exact (t6.alloc _).grew g7); (first | (replace Z := Z.grew g7) | (have Z := (Own.new w6 _ _).grew g7) | skip); (try obtain ⟨Z0, Z1, Z2, Z3, Z4, Z5⟩ := Z.three); have l7 := O7.lt; clear P0 P1 P2 P3 P4 P5; obtain ⟨P0, P1, P2, P3, P4, P5⟩ := O7.three))
                all_goals go_wp2_with fail
                all_goals go_meet
                all_goals first | exact ⟨x, _, hx, by omega, rfl, rfl, Own.new _ _ _, O7.alloc _, t7.alloc _, G7.alloc _⟩ | exact ⟨x, _, hx, by omega, rfl, rfl, Z.store3 rfl, O7.far3 rfl (by omega), t7.far3 rfl (by omega), G7.far3 rfl (by omega)⟩
              case rest =>
                clear gA tp P P0 P1 P2 P3 P4 P5
                obtain ⟨x, b, hx, hbw, rfl, rfl, F, P, tp, gA⟩ := hcut
                obtain ⟨P0, P1, P2, P3, P4, P5⟩ := P.three
                obtain ⟨F0, F1', F2, F3', F4', F5⟩ := F.three
                have l_P := P.lt
                have l_F := F.lt
                have l_tp := tp.lt
                have hr2 : rightB (mixP d x (bits .andNot .i64 (bits .andNot .i64 N 1) v)) (bits .or .i64 v (bits .andNot .i64 N 1)) t = true := or_right hR (mix_size d x _ HD.out hx) f5
                go_upto_region 17 with fail
                go_cut [108] from 78 to 108 (TestCut w w1.heap.size d v t)
                case first =>
                  go_region_held3 (fun w' => (w'.cell? ⟨b, 0, none⟩ = some (.string (mixP d x (bits .andNot .i64 (bits .andNot .i64 N 1) v))) ∧ w'.cell? ⟨b, 1, none⟩ = some (.int .i64 (bits .or .i64 v (bits .andNot .i64 N 1))) ∧ w'.cell? ⟨b, 2, none⟩ = some (.int .i64 t)) ∧ w'.cell? ⟨w1.heap.size, 1, none⟩ = some (.int .i64 v))
                    (refine ⟨⟨?_, ?_, ?_⟩, ?_⟩ <;> (repeat (first | assumption | refine far_drew ?_)))
                    (first
                      | (go_at_call 5; (with_reducible refine (bytes_x _ _ _ _ n0 (by omega) tp.drew (by first | omega | (simp; omega))).mono ?_); rintro e w6 ⟨s, hs, rfl, t6, g6⟩; have hs2 : (s.size : Int) = n := (by omega); have HS2 := Lib.hid hs2; clear hs hs2; have O6 := P.drew.past g6 (by omega); have Q6 := F.drew.past g6 (by omega); have G6 : Grew w w6 := gA.drew.past g6 hbA; clear P0 P1 P2 P3 P4 P5 F0 F1' F2 F3' F4' F5; obtain ⟨P0, P1, P2, P3, P4, P5⟩ := O6.three; obtain ⟨F0, F1', F2, F3', F4', F5⟩ := Q6.three)
                      | (go_at_call 15; (with_reducible refine (nd_busy _ s _ _ _ n wf _ hr2 HG.out HS2.out hz2).mono ?_); rintro e w7 ⟨rfl, g7⟩; have O7 := O6.grew g7; have Q7 := Q6.grew g7; have G7 : Grew w w7 := G6.trans g7; have t7 := t6.grew g7; clear P0 P1 P2 P3 P4 P5 F0 F1' F2 F3' F4' F5; obtain ⟨P0, P1, P2, P3, P4, P5⟩ := O7.three; obtain ⟨F0, F1', F2, F3', F4', F5⟩ := Q7.three))
                  all_goals go_wp2_with fail
                  all_goals go_meet
                  all_goals exact ⟨rfl, O7, t7, G7⟩
                case rest =>
                  clear gA tp P P0 P1 P2 P3 P4 P5 F F0 F1' F2 F3' F4' F5
                  obtain ⟨rfl, P, tp, gA⟩ := hcut
                  go_wp2_with fail
                  go_roundw
                  case rel => exact ⟨0 + 1, by omega, rfl, P, tp, gA⟩
                  case measure => simp [intOf]
          · obtain ⟨f5, f6⟩ := F4.out 2 (by omega)
            rw [← need_want v o n wf, HN.out] at f5 f6
            have F6 := Lib.hid f6
            clear f6
            by_cases e : bits .andNot .i64 N 2 = N
            · have e1 : (bits .andNot .i64 N 2 != N) = false := by simpa using e
              clear e
              go_wp2_with fail
              go_roundw
              case rel => exact ⟨1 + 1, by omega, rfl, P, tp, gA⟩
              case measure => simp [intOf]
            · have e1 : (bits .andNot .i64 N 2 != N) = true := by simpa using e
              have hz2 : needN (bits .or .i64 v (bits .andNot .i64 N 2)) o n wf ≠ 0 := F6.out e
              clear e
              go_upto_region 16 with fail
              go_cut [15, 16] from 78 to 108 (FillCut w w1.heap.size d v t (bits .andNot .i64 N 2))
              case first =>
                go_region_held3 (fun w' => w'.cell? ⟨w1.heap.size, 0, none⟩ = some (.string d) ∧ w'.cell? ⟨w1.heap.size, 1, none⟩ = some (.int .i64 v) ∧ w'.cell? ⟨w1.heap.size, 2, none⟩ = some (.int .i64 t))
                  (refine ⟨?_, ?_, ?_⟩ <;> (repeat (first | assumption | (refine far_cell (by omega) ?_) | refine far_alloc ?_ | refine far_drew ?_)))
                  (first
                    | (go_at_call 5; (with_reducible refine (bytes_x _ _ _ _ (by omega) (by omega) (by first | with_reducible exact tp.drew | with_reducible exact (tp.alloc _).drew) (by first | (simp; omega) | omega)).mono ?_); rintro e w6 ⟨x, hx, rfl, t6, g6⟩; replace hx : x.size = 16 := hx; have O6 : Own w6 w1.heap.size 29 #[.string d, .int .i64 v, .int .i64 t] := (by first | with_reducible exact P.drew.past g6 (by omega) | with_reducible exact (P.alloc _).drew.past g6 (by omega)); have G6 : Grew w w6 := (by first | with_reducible exact gA.drew.past g6 hbA | with_reducible exact (gA.alloc _).drew.past g6 hbA); (try have Z := (Own.new wr _ _).drew.past g6 (by omega)); have l6 := O6.lt; clear P0 P1 P2 P3 P4 P5; obtain ⟨P0, P1, P2, P3, P4, P5⟩ := O6.three)
                    | (go_at_call 8; (with_reducible refine (nd_fill d x v t (bits .andNot .i64 N 2) _ hR f5 hx).mono ?_); rintro e w7 ⟨rfl, g7⟩; have O7 : Own w7 w1.heap.size 29 #[.string d, .int .i64 v, .int .i64 t] := (by first | with_reducible exact O6.grew g7 | with_reducible exact (O6.alloc _).grew g7); have G7 : Grew w w7 := (by first | with_reducible exact G6.trans g7 | with_reducible exact (G6.alloc _).trans g7); have t7 : Tp (w.heap.size + 1) w7 w.heap.size := (by first | with_reducible exact t6.grew g7 | with_reducible exact (t6.alloc _).grew g7); (first | (replace Z := Z.grew g7) | (have Z := (Own.new w6 _ _).grew g7) | skip); (try obtain ⟨Z0, Z1, Z2, Z3, Z4, Z5⟩ := Z.three); have l7 := O7.lt; clear P0 P1 P2 P3 P4 P5; obtain ⟨P0, P1, P2, P3, P4, P5⟩ := O7.three))
                all_goals go_wp2_with fail
                all_goals go_meet
                all_goals first | exact ⟨x, _, hx, by omega, rfl, rfl, Own.new _ _ _, O7.alloc _, t7.alloc _, G7.alloc _⟩ | exact ⟨x, _, hx, by omega, rfl, rfl, Z.store3 rfl, O7.far3 rfl (by omega), t7.far3 rfl (by omega), G7.far3 rfl (by omega)⟩
              case rest =>
                clear gA tp P P0 P1 P2 P3 P4 P5
                obtain ⟨x, b, hx, hbw, rfl, rfl, F, P, tp, gA⟩ := hcut
                obtain ⟨P0, P1, P2, P3, P4, P5⟩ := P.three
                obtain ⟨F0, F1', F2, F3', F4', F5⟩ := F.three
                have l_P := P.lt
                have l_F := F.lt
                have l_tp := tp.lt
                have hr2 : rightB (mixP d x (bits .andNot .i64 (bits .andNot .i64 N 2) v)) (bits .or .i64 v (bits .andNot .i64 N 2)) t = true := or_right hR (mix_size d x _ HD.out hx) f5
                go_upto_region 17 with fail
                go_cut [108] from 78 to 108 (TestCut w w1.heap.size d v t)
                case first =>
                  go_region_held3 (fun w' => (w'.cell? ⟨b, 0, none⟩ = some (.string (mixP d x (bits .andNot .i64 (bits .andNot .i64 N 2) v))) ∧ w'.cell? ⟨b, 1, none⟩ = some (.int .i64 (bits .or .i64 v (bits .andNot .i64 N 2))) ∧ w'.cell? ⟨b, 2, none⟩ = some (.int .i64 t)) ∧ w'.cell? ⟨w1.heap.size, 1, none⟩ = some (.int .i64 v))
                    (refine ⟨⟨?_, ?_, ?_⟩, ?_⟩ <;> (repeat (first | assumption | refine far_drew ?_)))
                    (first
                      | (go_at_call 5; (with_reducible refine (bytes_x _ _ _ _ n0 (by omega) tp.drew (by first | omega | (simp; omega))).mono ?_); rintro e w6 ⟨s, hs, rfl, t6, g6⟩; have hs2 : (s.size : Int) = n := (by omega); have HS2 := Lib.hid hs2; clear hs hs2; have O6 := P.drew.past g6 (by omega); have Q6 := F.drew.past g6 (by omega); have G6 : Grew w w6 := gA.drew.past g6 hbA; clear P0 P1 P2 P3 P4 P5 F0 F1' F2 F3' F4' F5; obtain ⟨P0, P1, P2, P3, P4, P5⟩ := O6.three; obtain ⟨F0, F1', F2, F3', F4', F5⟩ := Q6.three)
                      | (go_at_call 15; (with_reducible refine (nd_busy _ s _ _ _ n wf _ hr2 HG.out HS2.out hz2).mono ?_); rintro e w7 ⟨rfl, g7⟩; have O7 := O6.grew g7; have Q7 := Q6.grew g7; have G7 : Grew w w7 := G6.trans g7; have t7 := t6.grew g7; clear P0 P1 P2 P3 P4 P5 F0 F1' F2 F3' F4' F5; obtain ⟨P0, P1, P2, P3, P4, P5⟩ := O7.three; obtain ⟨F0, F1', F2, F3', F4', F5⟩ := Q7.three))
                  all_goals go_wp2_with fail
                  all_goals go_meet
                  all_goals exact ⟨rfl, O7, t7, G7⟩
                case rest =>
                  clear gA tp P P0 P1 P2 P3 P4 P5 F F0 F1' F2 F3' F4' F5
                  obtain ⟨rfl, P, tp, gA⟩ := hcut
                  go_wp2_with fail
                  go_roundw
                  case rel => exact ⟨1 + 1, by omega, rfl, P, tp, gA⟩
                  case measure => simp [intOf]
          · skip
            go_wp2_with fail
            with_reducible refine (awake_any _).mono ?_
            rintro e w9 ⟨rfl, g_w9⟩
            have s_w9 : Grew wr w9 := by first | exact g_w9 | exact ((Grew.refl _).alloc _).trans g_w9 | exact (((Grew.refl _).alloc _).alloc _).trans g_w9 | exact (Grew.refl _).drew.trans g_w9 | exact ((Grew.refl _).alloc _).drew.trans g_w9 | exact ((Grew.refl _).drewN _).trans g_w9
            have z_w9 := s_w9.size
            replace gA := gA.trans s_w9
            clear g_w9 s_w9
            go_wp2
            go_ret
            exact ⟨rfl, gA⟩
  · have hR' : rightB d v t = false := by simpa using hR
    clear hR
    go_wp2_with fail
    with_reducible refine (nd_bad _ _ _ _ _ _ _ hR').mono ?_
    rintro e w4 ⟨rfl, g_w4⟩
    have s_w4 : Grew w3 w4 := by first | exact g_w4 | exact ((Grew.refl _).alloc _).trans g_w4 | exact (((Grew.refl _).alloc _).alloc _).trans g_w4 | exact (Grew.refl _).drew.trans g_w4 | exact ((Grew.refl _).alloc _).drew.trans g_w4 | exact ((Grew.refl _).drewN _).trans g_w4
    have z_w4 := s_w4.size
    replace P := P.grew s_w4
    clear P0 P1 P2 P3 P4 P5
    have l_P_w4 := P.lt
    obtain ⟨P0, P1, P2, P3, P4, P5⟩ := P.three
    replace gA := gA.trans s_w4
    clear g_w4 s_w4
    go_wp2_with fail
    with_reducible refine (check_g _ _ _ _).mono ?_
    rintro e w5 ⟨rfl, g_w5⟩
    have s_w5 : Grew w4 w5 := by first | exact g_w5 | exact ((Grew.refl _).alloc _).trans g_w5 | exact (((Grew.refl _).alloc _).alloc _).trans g_w5 | exact (Grew.refl _).drew.trans g_w5 | exact ((Grew.refl _).alloc _).drew.trans g_w5 | exact ((Grew.refl _).drewN _).trans g_w5
    have z_w5 := s_w5.size
    replace gA := gA.trans s_w5
    clear g_w5 s_w5
    go_wp2_with fail
    with_reducible refine (awake_any _).mono ?_
    rintro e w6 ⟨rfl, g_w6⟩
    have s_w6 : Grew w5 w6 := by first | exact g_w6 | exact ((Grew.refl _).alloc _).trans g_w6 | exact (((Grew.refl _).alloc _).alloc _).trans g_w6 | exact (Grew.refl _).drew.trans g_w6 | exact ((Grew.refl _).alloc _).drew.trans g_w6 | exact ((Grew.refl _).drewN _).trans g_w6
    have z_w6 := s_w6.size
    replace gA := gA.trans s_w6
    clear g_w6 s_w6
    go_wp2
    go_ret
    exact ⟨rfl, gA⟩

theorem Try.own : ownKnob Try.prog.godebug = none := by kernel_rfl
theorem Try.laidOut : laidOutB Try.prog = true := by kernel_rfl

theorem pageNeeds_contract (W : World) (base : Nat) (args : Array Value) (H : Type) (enc : TypeId × Value → H) (ds : List (DataW H)) (p : List MemPlace)
    (hval : ∀ (j : Nat) t v, Try.f4.params[j]? = some t → args[j]? = some v → Value.okWide Try.prog W .any base t v)
    (hA : DataW.TrodAll enc Try.prog W 0 (fun _ => true) true Try.f4.params.toList args.toList ds p) :
    (∃ d0 d1, ds = [d0, d1]) ∧ Calls Try.prog 4 args W fun e W' => e = .returned (.bool true) ∧ Below W.heap.size W W' := by
  rw [Try.params4] at hval hA
  obtain ⟨v0, v1, d0, d1, p0, p1, ha, hd, hp, h0, h1⟩ := args_2 hA
  subst ha hd
  obtain ⟨A0, c0, xs0, rfl, hr0, hm0⟩ := open_introw Try.underlying22 Try.underlying3 (by kernel_rfl) (hval 0 _ _ rfl rfl) h0
  obtain ⟨v1, rfl, -, -⟩ := open_bool Try.underlying4 (hval 1 _ _ rfl rfl) h1
  exact ⟨⟨_, _, rfl⟩, (needs_core A0 c0 xs0 v1 W hr0 hm0).mono fun _ _ h => h⟩

set_option maxRecDepth 100000 in
theorem pageNeeds_lifted (os : Os) (started : os.Started) (H : Type) (enc : TypeId × Value → H) :
    ReturnsInHanded {} Try.checked os 4 .any (Rows.pageNeedsSpec.pre6 enc Try.prog Try.f4 Rows.pageNeedsRow.domain false) (Rows.pageNeedsSpec.post enc Try.prog Try.f4 false true false false) := by
  refine returnsInHanded_of_change (C := Try.checked) Try.own started (by kernel_rfl) Try.func4
    (ChangeSpec.witness6 (enc := enc) (C := Try.checked) false ⟨#[], #[.slice none 0 0, .bool false], []⟩ 8 (by kernel_rfl) (by kernel_rfl) (by kernel_rfl) (by kernel_rfl)) ?_
  intro W base args ds gs before hval hW _ _
  obtain ⟨p, q, hA, hV, hrest⟩ := id hW
  obtain ⟨⟨d0, d1, rfl⟩, hc⟩ := pageNeeds_contract W base args H enc ds p hval hA
  obtain ⟨rfl, -⟩ := trodVars_none hV
  refine hc.mono fun e W' ⟨he, hb⟩ => ⟨_, he, ?_⟩
  exact law_close (tb := 4) Try.laidOut (by rw [Try.params4]; decide +kernel) Try.underlying4 rfl rfl hW rfl rfl rfl hb

theorem pageNeeds_holds : Rows.PageNeedsSaid :=
  OpenClaim.holds_of_wide 4 Try.f4 rfl rfl rfl rfl rfl rfl rfl ⟨rfl, rfl, rfl, rfl, rfl⟩ rfl rfl rfl rfl rfl (by kernel_rfl) Try.func4 (by kernel_rfl)
    (of_decide_eq_true (by kernel_rfl)) (by unfold Func.isWrapper; first | (rw [if_pos (by decide +kernel)]; kernel_rfl) | (rw [if_neg (by decide +kernel)]; exact ⟨rfl, rfl⟩))
    (fun os started H enc _ => pageNeeds_lifted os started H enc)
end Go.Proofs.Ytokbkidoapgamaa
