/- InodePairs holds: if one of two sectors is in doubt, the chosen inode is the one of the other sector, or the new one. -/
import Derived.Test.YtbcakadefineiaaPairLib
import Derived.Test.YtbcakadefineiaaAwake3
import Derived.Test.YtbcakadefineiaaOdd
import Derived.Deep.DeepCutAuto
import Derived.Deep.RegionHeld3
import Derived.Deep.DrawnRows
namespace Go.Proofs.Ytbcakadefineiaa
attribute [local go_sem ↓] Go.wp_at_zero Go.wp_at_succ
open Go.ChangeShapes Go.WideShapes Go.ChangeAt Go.RowKit Go.Mine

/-- What stands behind an inode that is made of numbers of the tape. -/
def InoCut (w : World) (g : Nat) (q z b lo hi : Int) (vp : Value) (wx : World) : Prop :=
  ∃ (k : Nat) (q' z' b' : Int), vp = .pointer (some ⟨k, 0, none⟩) ∧ g < k ∧ lo ≤ q' ∧ q' ≤ hi ∧ 0 ≤ z' ∧ z' ≤ 128 ∧ 0 ≤ b' ∧ b' ≤ 255 ∧ Own wx k 28 #[.int .i64 q', .int .i64 z', .int .i64 b'] ∧
    Own wx g 28 #[.int .i64 q, .int .i64 z, .int .i64 b] ∧ Tp (w.heap.size + 1) wx w.heap.size ∧ Grew w wx

def FreshCut (w : World) (o g : Nat) (q z b qg z1 b1 : Int) (vp : Value) (wx : World) : Prop :=
  ∃ (h : Nat) (qh z2 b2 : Int), vp = .pointer (some ⟨h, 0, none⟩) ∧ g < h ∧ qg + 1 ≤ qh ∧ qh ≤ qg + 3 ∧ 0 ≤ z2 ∧ z2 ≤ 128 ∧ 0 ≤ b2 ∧ b2 ≤ 255 ∧ Own wx h 28 #[.int .i64 qh, .int .i64 z2, .int .i64 b2] ∧
    Own wx g 28 #[.int .i64 qg, .int .i64 z1, .int .i64 b1] ∧ Own wx o 28 #[.int .i64 q, .int .i64 z, .int .i64 b] ∧ Tp (w.heap.size + 1) wx w.heap.size ∧ Grew w wx

set_option maxRecDepth 100000 in
set_option maxHeartbeats 8000000 in
theorem pairs_core (A : Option Addr) (c : Nat) (xs : List Int) (w : World) (hr : IntRow w A xs) (hm : xs.length ≤ maxLen) :
    Calls Try.prog 5 #[.slice A xs.length c] w (RetG (.bool true) w) := by
  have tp := Tp.made hr hm c 25
  have gA := Grew.refl w
  have HR := Lib.hid hr
  clear hr
  generalize hX : xs.length = X at *
  clear hX
  have hbA : w.heap.size ≤ w.heap.size := Nat.le_refl _
  go_enter Try.func5, Try.ntmps5
  go_wp2_with fail
  with_reducible refine (next_x _ _ _ _ (by omega) (by omega) tp).mono ?_
  rintro e w1 ⟨f, f0, f1, rfl, t_w1, g_w1⟩
  have s_w1 : w.grownBy w1 (some (w.heap.size)) := by first | exact g_w1 | exact grown_trans (grown_alloc (grown_refl _ _) _) g_w1 | exact grown_trans (grown_alloc (grown_alloc (grown_refl _ _) _) _) g_w1 | exact grown_trans (grown_drew (grown_refl _ _)) g_w1 | exact grown_trans (grown_drew (grown_alloc (grown_refl _ _) _)) g_w1
  have z_w1 := s_w1.size
  replace gA := gA.past s_w1 hbA
  clear tp
  have tp := t_w1
  have l_tp_w1 := tp.lt
  clear g_w1 s_w1 t_w1
  go_wp2_with fail
  with_reducible refine (next_x _ _ _ _ (by omega) (by omega) tp).mono ?_
  rintro e w2 ⟨q, q0, q1, rfl, t_w2, g_w2⟩
  have s_w2 : w1.grownBy w2 (some (w.heap.size)) := by first | exact g_w2 | exact grown_trans (grown_alloc (grown_refl _ _) _) g_w2 | exact grown_trans (grown_alloc (grown_alloc (grown_refl _ _) _) _) g_w2 | exact grown_trans (grown_drew (grown_refl _ _)) g_w2 | exact grown_trans (grown_drew (grown_alloc (grown_refl _ _) _)) g_w2
  have z_w2 := s_w2.size
  replace gA := gA.past s_w2 hbA
  clear tp
  have tp := t_w2
  have l_tp_w2 := tp.lt
  clear g_w2 s_w2 t_w2
  go_wp2_with fail
  with_reducible refine (next_x _ _ _ _ (by omega) (by omega) tp).mono ?_
  rintro e w3 ⟨z, z0, z1, rfl, t_w3, g_w3⟩
  have s_w3 : w2.grownBy w3 (some (w.heap.size)) := by first | exact g_w3 | exact grown_trans (grown_alloc (grown_refl _ _) _) g_w3 | exact grown_trans (grown_alloc (grown_alloc (grown_refl _ _) _) _) g_w3 | exact grown_trans (grown_drew (grown_refl _ _)) g_w3 | exact grown_trans (grown_drew (grown_alloc (grown_refl _ _) _)) g_w3
  have z_w3 := s_w3.size
  replace gA := gA.past s_w3 hbA
  clear tp
  have tp := t_w3
  have l_tp_w3 := tp.lt
  clear g_w3 s_w3 t_w3
  go_wp2_with fail
  with_reducible refine (next_x _ _ _ _ (by omega) (by omega) tp).mono ?_
  rintro e w4 ⟨b, b0, b1, rfl, t_w4, g_w4⟩
  have s_w4 : w3.grownBy w4 (some (w.heap.size)) := by first | exact g_w4 | exact grown_trans (grown_alloc (grown_refl _ _) _) g_w4 | exact grown_trans (grown_alloc (grown_alloc (grown_refl _ _) _) _) g_w4 | exact grown_trans (grown_drew (grown_refl _ _)) g_w4 | exact grown_trans (grown_drew (grown_alloc (grown_refl _ _) _)) g_w4
  have z_w4 := s_w4.size
  replace gA := gA.past s_w4 hbA
  clear tp
  have tp := t_w4
  have l_tp_w4 := tp.lt
  clear g_w4 s_w4 t_w4
  have O := Own.new w4 28 #[.int .i64 q, .int .i64 z, .int .i64 b]
  replace tp := tp.alloc (.cells #[.int .i64 q, .int .i64 z, .int .i64 b] 28)
  replace gA := gA.alloc (.cells #[.int .i64 q, .int .i64 z, .int .i64 b] 28)
  have hz4 : w.heap.size < w4.heap.size := by omega
  have k1 : IntKind.i64.wrap (q + 1) = q + 1 := IntWalk.i64_in _ (by omega)
  go_upto_region 4 with fail
  obtain ⟨P0, P1, P2, P3, P4, P5⟩ := O.three
  have l_O := O.lt
  have l_tp := tp.lt
  generalize hw5 : w4.alloc _ = w5 at *
  clear hw5
  go_cut [6] (InoCut w w4.heap.size q z b (q + 1) (q + 1))
  case first =>
    go_region_held3 (fun w' => w'.cell? ⟨w4.heap.size, 0, none⟩ = some (.int .i64 q))
      (first | assumption | (repeat (first | assumption | (refine far_cell (by omega) ?_) | refine far_alloc ?_ | refine far_drew ?_)))
      (first
        | (go_at_call 19; (with_reducible refine (next_x _ _ 129 _ (by omega) (by omega) (by first | exact tp | exact (tp.alloc _) | exact tp.drew | exact (tp.alloc _).drew)).mono ?_); rintro e u0 ⟨z1, z10, z11, rfl, tu0, gu0⟩; have OO_0 : Own u0 w4.heap.size 28 #[.int .i64 q, .int .i64 z, .int .i64 b] := (by first | exact O.past gu0 (by omega) | exact (O.alloc _).past gu0 (by omega) | exact O.drew.past gu0 (by omega) | exact (O.alloc _).drew.past gu0 (by omega)); have Gu0 : Grew w u0 := (by first | exact gA.past gu0 hbA | exact (gA.alloc _).past gu0 hbA | exact gA.drew.past gu0 hbA | exact (gA.alloc _).drew.past gu0 hbA); have lu0 := OO_0.lt; have ltu0 := tu0.lt; (first | (replace Z : Own u0 _ 28 #[.int .i64 0, .int .i64 0, .int .i64 0] := (by first | exact Z.past gu0 (by omega) | exact (Z.alloc _).past gu0 (by omega) | exact Z.drew.past gu0 (by omega) | exact (Z.alloc _).drew.past gu0 (by omega))) | (have Z : Own u0 _ 28 #[.int .i64 0, .int .i64 0, .int .i64 0] := (by first | exact (Own.new w5 _ _).past gu0 (by omega) | exact (Own.new w5 _ _).drew.past gu0 (by omega))) | skip); (try have lZ := Z.lt); clear P0 P1 P2 P3 P4 P5; obtain ⟨P0, P1, P2, P3, P4, P5⟩ := OO_0.three)
        | (go_at_call 19; (with_reducible refine (next_x _ _ 256 _ (by omega) (by omega) (by first | exact tu0 | exact (tu0.alloc _) | exact tu0.drew | exact (tu0.alloc _).drew)).mono ?_); rintro e u1 ⟨b1, b10, b11, rfl, tu1, gu1⟩; have OO_1 : Own u1 w4.heap.size 28 #[.int .i64 q, .int .i64 z, .int .i64 b] := (by first | exact OO_0.past gu1 (by omega) | exact (OO_0.alloc _).past gu1 (by omega) | exact OO_0.drew.past gu1 (by omega) | exact (OO_0.alloc _).drew.past gu1 (by omega)); have Gu1 : Grew w u1 := (by first | exact Gu0.past gu1 hbA | exact (Gu0.alloc _).past gu1 hbA | exact Gu0.drew.past gu1 hbA | exact (Gu0.alloc _).drew.past gu1 hbA); have lu1 := OO_1.lt; have ltu1 := tu1.lt; (first | (replace Z : Own u1 _ 28 #[.int .i64 0, .int .i64 0, .int .i64 0] := (by first | exact Z.past gu1 (by omega) | exact (Z.alloc _).past gu1 (by omega) | exact Z.drew.past gu1 (by omega) | exact (Z.alloc _).drew.past gu1 (by omega))) | (have Z : Own u1 _ 28 #[.int .i64 0, .int .i64 0, .int .i64 0] := (by first | exact (Own.new u0 _ _).past gu1 (by omega) | exact (Own.new u0 _ _).drew.past gu1 (by omega))) | skip); (try have lZ := Z.lt); clear P0 P1 P2 P3 P4 P5; obtain ⟨P0, P1, P2, P3, P4, P5⟩ := OO_1.three; (try obtain ⟨Z0, Z1, Z2, Z3, Z4, Z5⟩ := Z.three)))
    all_goals go_wp2_with fail
    all_goals go_meet
    all_goals first
      | exact ⟨_, _, _, _, rfl, by omega, by omega, by omega, z10, by omega, b10, by omega, Z.store3 rfl, OO_1.far3 rfl (by omega), tu1.far3 rfl (by omega), Gu1.far3 rfl (by omega)⟩
      | exact ⟨_, _, _, _, rfl, by omega, by omega, by omega, z10, by omega, b10, by omega, Own.new _ _ _, OO_1.alloc _, tu1.alloc _, Gu1.alloc _⟩
  case rest =>
    clear gA tp O P0 P1 P2 P3 P4 P5 l_O l_tp k1
    obtain ⟨g, qg, z1, b1, rfl, hg, hq0, hq1, z10, z11, b10, b11, G, O, tp, gA⟩ := hcut
    have l_G := G.lt
    have l_O := O.lt
    have l_tp := tp.lt
    obtain ⟨P0, P1, P2, P3, P4, P5⟩ := G.three
    have k1 : IntKind.i64.wrap (qg + 1) = qg + 1 := IntWalk.i64_in _ (by omega)
    go_upto_region 5 with fail
    go_cut [7] (FreshCut w w4.heap.size g q z b qg z1 b1)
    case first =>
      go_region_held3 (fun w' => w'.cell? ⟨g, 0, none⟩ = some (.int .i64 qg))
        (first | assumption | (repeat (first | assumption | (refine far_cell (by omega) ?_) | refine far_alloc ?_ | refine far_drew ?_)))
      (first
        | (go_at_call 19; (with_reducible refine (next_x _ _ 3 _ (by omega) (by omega) (by first | exact tp | exact (tp.alloc _) | exact tp.drew | exact (tp.alloc _).drew)).mono ?_); rintro e v0 ⟨k, k0, k1, rfl, tv0, gv0⟩; have O_0 : Own v0 w4.heap.size 28 #[.int .i64 q, .int .i64 z, .int .i64 b] := (by first | exact O.past gv0 (by omega) | exact (O.alloc _).past gv0 (by omega) | exact O.drew.past gv0 (by omega) | exact (O.alloc _).drew.past gv0 (by omega)); have lO_0 := O_0.lt; have G_0 : Own v0 g 28 #[.int .i64 qg, .int .i64 z1, .int .i64 b1] := (by first | exact G.past gv0 (by omega) | exact (G.alloc _).past gv0 (by omega) | exact G.drew.past gv0 (by omega) | exact (G.alloc _).drew.past gv0 (by omega)); have lG_0 := G_0.lt; have Gv0 : Grew w v0 := (by first | exact gA.past gv0 hbA | exact (gA.alloc _).past gv0 hbA | exact gA.drew.past gv0 hbA | exact (gA.alloc _).drew.past gv0 hbA); have ltv0 := tv0.lt; (first | (replace Z : Own v0 _ 28 #[.int .i64 0, .int .i64 0, .int .i64 0] := (by first | exact Z.past gv0 (by omega) | exact (Z.alloc _).past gv0 (by omega) | exact Z.drew.past gv0 (by omega) | exact (Z.alloc _).drew.past gv0 (by omega))) | (have Z : Own v0 _ 28 #[.int .i64 0, .int .i64 0, .int .i64 0] := (by first | exact (Own.new wc _ _).past gv0 (by omega) | exact (Own.new wc _ _).drew.past gv0 (by omega))) | skip); (try have lZ := Z.lt); clear P0 P1 P2 P3 P4 P5; obtain ⟨P0, P1, P2, P3, P4, P5⟩ := G_0.three; have k2 : IntKind.i64.wrap (qg + 1 + k) = qg + 1 + k := IntWalk.i64_in _ (by omega))
        | (go_at_call 19; (with_reducible refine (next_x _ _ 129 _ (by omega) (by omega) (by first | exact tv0 | exact (tv0.alloc _) | exact tv0.drew | exact (tv0.alloc _).drew)).mono ?_); rintro e v1 ⟨z2, z20, z21, rfl, tv1, gv1⟩; have O_1 : Own v1 w4.heap.size 28 #[.int .i64 q, .int .i64 z, .int .i64 b] := (by first | exact O_0.past gv1 (by omega) | exact (O_0.alloc _).past gv1 (by omega) | exact O_0.drew.past gv1 (by omega) | exact (O_0.alloc _).drew.past gv1 (by omega)); have lO_1 := O_1.lt; have G_1 : Own v1 g 28 #[.int .i64 qg, .int .i64 z1, .int .i64 b1] := (by first | exact G_0.past gv1 (by omega) | exact (G_0.alloc _).past gv1 (by omega) | exact G_0.drew.past gv1 (by omega) | exact (G_0.alloc _).drew.past gv1 (by omega)); have lG_1 := G_1.lt; have Gv1 : Grew w v1 := (by first | exact Gv0.past gv1 hbA | exact (Gv0.alloc _).past gv1 hbA | exact Gv0.drew.past gv1 hbA | exact (Gv0.alloc _).drew.past gv1 hbA); have ltv1 := tv1.lt; (first | (replace Z : Own v1 _ 28 #[.int .i64 0, .int .i64 0, .int .i64 0] := (by first | exact Z.past gv1 (by omega) | exact (Z.alloc _).past gv1 (by omega) | exact Z.drew.past gv1 (by omega) | exact (Z.alloc _).drew.past gv1 (by omega))) | (have Z : Own v1 _ 28 #[.int .i64 0, .int .i64 0, .int .i64 0] := (by first | exact (Own.new v0 _ _).past gv1 (by omega) | exact (Own.new v0 _ _).drew.past gv1 (by omega))) | skip); (try have lZ := Z.lt); clear P0 P1 P2 P3 P4 P5; obtain ⟨P0, P1, P2, P3, P4, P5⟩ := G_1.three)
        | (go_at_call 19; (with_reducible refine (next_x _ _ 256 _ (by omega) (by omega) (by first | exact tv1 | exact (tv1.alloc _) | exact tv1.drew | exact (tv1.alloc _).drew)).mono ?_); rintro e v2 ⟨b2, b20, b21, rfl, tv2, gv2⟩; have O_2 : Own v2 w4.heap.size 28 #[.int .i64 q, .int .i64 z, .int .i64 b] := (by first | exact O_1.past gv2 (by omega) | exact (O_1.alloc _).past gv2 (by omega) | exact O_1.drew.past gv2 (by omega) | exact (O_1.alloc _).drew.past gv2 (by omega)); have lO_2 := O_2.lt; have G_2 : Own v2 g 28 #[.int .i64 qg, .int .i64 z1, .int .i64 b1] := (by first | exact G_1.past gv2 (by omega) | exact (G_1.alloc _).past gv2 (by omega) | exact G_1.drew.past gv2 (by omega) | exact (G_1.alloc _).drew.past gv2 (by omega)); have lG_2 := G_2.lt; have Gv2 : Grew w v2 := (by first | exact Gv1.past gv2 hbA | exact (Gv1.alloc _).past gv2 hbA | exact Gv1.drew.past gv2 hbA | exact (Gv1.alloc _).drew.past gv2 hbA); have ltv2 := tv2.lt; (first | (replace Z : Own v2 _ 28 #[.int .i64 0, .int .i64 0, .int .i64 0] := (by first | exact Z.past gv2 (by omega) | exact (Z.alloc _).past gv2 (by omega) | exact Z.drew.past gv2 (by omega) | exact (Z.alloc _).drew.past gv2 (by omega))) | (have Z : Own v2 _ 28 #[.int .i64 0, .int .i64 0, .int .i64 0] := (by first | exact (Own.new v1 _ _).past gv2 (by omega) | exact (Own.new v1 _ _).drew.past gv2 (by omega))) | skip); (try have lZ := Z.lt); clear P0 P1 P2 P3 P4 P5; obtain ⟨P0, P1, P2, P3, P4, P5⟩ := G_2.three; (try obtain ⟨Z0, Z1, Z2, Z3, Z4, Z5⟩ := Z.three)))
      all_goals go_wp2_with fail
      all_goals go_meet
      all_goals first
        | exact ⟨_, _, _, _, rfl, by omega, by omega, by omega, z20, by omega, b20, by omega, Z.store3 rfl, G_2.far3 rfl (by omega), O_2.far3 rfl (by omega), tv2.far3 rfl (by omega), Gv2.far3 rfl (by omega)⟩
        | exact ⟨_, _, _, _, rfl, by omega, by omega, by omega, z20, by omega, b20, by omega, Own.new _ _ _, G_2.alloc _, O_2.alloc _, tv2.alloc _, Gv2.alloc _⟩
    case rest =>
      clear gA tp O G P0 P1 P2 P3 P4 P5 l_O l_G l_tp k1
      obtain ⟨h, qh, z2, b2, rfl, hh, hq2, hq3, z20, z21, b20, b21, H, G, O, tp, gA⟩ := hcut
      have l_H := H.lt
      have l_G := G.lt
      have l_O := O.lt
      have l_tp := tp.lt
      obtain ⟨O0, O1, O2, O3, O4, O5⟩ := O.three
      obtain ⟨G0, G1, G2, G3, G4, G5⟩ := G.three
      obtain ⟨H0, H1, H2, H3, H4, H5⟩ := H.three
      have vo : validI q z b = true := valid_mk (by omega)
      have vg : validI qg z1 b1 = true := valid_mk (by omega)
      have vh : validI qh z2 b2 = true := valid_mk (by omega)
      have hf : withB f 7 = true := file_mk (by omega)
      go_wp2_with fail
      with_reducible refine (encode_ok _ _ _ _ _ vo hf).mono ?_
      rintro e w6 ⟨rfl, g_w6⟩
      have s_w6 : Grew wc w6 := by first | exact g_w6 | exact ((Grew.refl _).alloc _).trans g_w6 | exact (((Grew.refl _).alloc _).alloc _).trans g_w6 | exact (Grew.refl _).drew.trans g_w6 | exact ((Grew.refl _).alloc _).drew.trans g_w6 | exact ((Grew.refl _).drewN _).trans g_w6
      have z_w6 := s_w6.size
      replace O := O.grew s_w6
      clear O0 O1 O2 O3 O4 O5
      have l_O_w6 := O.lt
      replace G := G.grew s_w6
      clear G0 G1 G2 G3 G4 G5
      have l_G_w6 := G.lt
      replace H := H.grew s_w6
      clear H0 H1 H2 H3 H4 H5
      have l_H_w6 := H.lt
      obtain ⟨O0, O1, O2, O3, O4, O5⟩ := O.three
      obtain ⟨G0, G1, G2, G3, G4, G5⟩ := G.three
      obtain ⟨H0, H1, H2, H3, H4, H5⟩ := H.three
      replace gA := gA.trans s_w6
      replace tp := tp.grew s_w6
      clear g_w6 s_w6
      go_wp2_with fail
      with_reducible refine (encode_ok _ _ _ _ _ vg hf).mono ?_
      rintro e w7 ⟨rfl, g_w7⟩
      have s_w7 : Grew w6 w7 := by first | exact g_w7 | exact ((Grew.refl _).alloc _).trans g_w7 | exact (((Grew.refl _).alloc _).alloc _).trans g_w7 | exact (Grew.refl _).drew.trans g_w7 | exact ((Grew.refl _).alloc _).drew.trans g_w7 | exact ((Grew.refl _).drewN _).trans g_w7
      have z_w7 := s_w7.size
      replace O := O.grew s_w7
      clear O0 O1 O2 O3 O4 O5
      have l_O_w7 := O.lt
      replace G := G.grew s_w7
      clear G0 G1 G2 G3 G4 G5
      have l_G_w7 := G.lt
      replace H := H.grew s_w7
      clear H0 H1 H2 H3 H4 H5
      have l_H_w7 := H.lt
      obtain ⟨O0, O1, O2, O3, O4, O5⟩ := O.three
      obtain ⟨G0, G1, G2, G3, G4, G5⟩ := G.three
      obtain ⟨H0, H1, H2, H3, H4, H5⟩ := H.three
      replace gA := gA.trans s_w7
      replace tp := tp.grew s_w7
      clear g_w7 s_w7
      go_wp2_with fail
      with_reducible refine (encode_ok _ _ _ _ _ vh hf).mono ?_
      rintro e w8 ⟨rfl, g_w8⟩
      have s_w8 : Grew w7 w8 := by first | exact g_w8 | exact ((Grew.refl _).alloc _).trans g_w8 | exact (((Grew.refl _).alloc _).alloc _).trans g_w8 | exact (Grew.refl _).drew.trans g_w8 | exact ((Grew.refl _).alloc _).drew.trans g_w8 | exact ((Grew.refl _).drewN _).trans g_w8
      have z_w8 := s_w8.size
      replace O := O.grew s_w8
      clear O0 O1 O2 O3 O4 O5
      have l_O_w8 := O.lt
      replace G := G.grew s_w8
      clear G0 G1 G2 G3 G4 G5
      have l_G_w8 := G.lt
      replace H := H.grew s_w8
      clear H0 H1 H2 H3 H4 H5
      have l_H_w8 := H.lt
      obtain ⟨O0, O1, O2, O3, O4, O5⟩ := O.three
      obtain ⟨G0, G1, G2, G3, G4, G5⟩ := G.three
      obtain ⟨H0, H1, H2, H3, H4, H5⟩ := H.three
      replace gA := gA.trans s_w8
      replace tp := tp.grew s_w8
      clear g_w8 s_w8
      go_wp2_with fail
      with_reducible refine (next_x _ _ _ _ (by omega) (by omega) tp).mono ?_
      rintro e w9 ⟨p, p0, p1, rfl, t_w9, g_w9⟩
      have s_w9 : w8.grownBy w9 (some (w.heap.size)) := by first | exact g_w9 | exact grown_trans (grown_alloc (grown_refl _ _) _) g_w9 | exact grown_trans (grown_alloc (grown_alloc (grown_refl _ _) _) _) g_w9 | exact grown_trans (grown_drew (grown_refl _ _)) g_w9 | exact grown_trans (grown_drew (grown_alloc (grown_refl _ _) _)) g_w9
      have z_w9 := s_w9.size
      replace O := O.past s_w9 (by omega)
      clear O0 O1 O2 O3 O4 O5
      have l_O_w9 := O.lt
      replace G := G.past s_w9 (by omega)
      clear G0 G1 G2 G3 G4 G5
      have l_G_w9 := G.lt
      replace H := H.past s_w9 (by omega)
      clear H0 H1 H2 H3 H4 H5
      have l_H_w9 := H.lt
      obtain ⟨O0, O1, O2, O3, O4, O5⟩ := O.three
      obtain ⟨G0, G1, G2, G3, G4, G5⟩ := G.three
      obtain ⟨H0, H1, H2, H3, H4, H5⟩ := H.three
      replace gA := gA.past s_w9 hbA
      clear tp
      have tp := t_w9
      have l_tp_w9 := tp.lt
      clear g_w9 s_w9 t_w9
      have hpc : p = 0 ∨ p = 1 ∨ p = 2 ∨ p = 3 := by omega
      clear p0 p1
      clear tp
      have sg := sec_vals vg hf
      have so := sec_vals vo hf
      have sh := sec_vals vh hf
      have og := sec_ok vg hf
      have oo := sec_ok vo hf
      have oh := sec_ok vh hf
      have SG := Lib.hid sg
      have SO := Lib.hid so
      have SH := Lib.hid sh
      have OG := Lib.hid og
      have OO := Lib.hid oo
      have OH := Lib.hid oh
      have d0 : dOK (mixS qh z2 b2 q z b f) f = false := by rw [mix_same vh vo hf]; simp; omega
      have d1 : dOK (mixS q z b qh z2 b2 f) f = false := by rw [mix_same vo vh hf]; simp; omega
      have D0 := Lib.hid d0
      have D1 := Lib.hid d1
      have e1 : (qh == qg) = false := beq_eq_false_iff_ne.2 (by omega)
      clear sg so sh og oo oh d0 d1 vo vg vh hf
      rcases hpc with rfl | rfl | rfl | rfl
      · go_wp2_with fail
        with_reducible refine (choose_first _ OG.out SG.out (.inr (by rw [SG.out.1, SO.out.1]; omega))).mono ?_
        rintro e wa ⟨rfl, g_wa⟩
        have s_wa : Grew w9 wa := by first | exact g_wa | exact ((Grew.refl _).alloc _).trans g_wa | exact (((Grew.refl _).alloc _).alloc _).trans g_wa | exact (Grew.refl _).drew.trans g_wa | exact ((Grew.refl _).alloc _).drew.trans g_wa | exact ((Grew.refl _).drewN _).trans g_wa
        have z_wa := s_wa.size
        replace G := G.grew s_wa
        clear G0 G1 G2 G3 G4 G5
        have l_G_wa := G.lt
        replace H := H.grew s_wa
        clear H0 H1 H2 H3 H4 H5
        have l_H_wa := H.lt
        obtain ⟨G0, G1, G2, G3, G4, G5⟩ := G.three
        obtain ⟨H0, H1, H2, H3, H4, H5⟩ := H.three
        replace gA := gA.trans s_wa
        clear g_wa s_wa
        go_wp2_with fail
        with_reducible refine (choose_second _ OG.out SG.out (.inr (by rw [SG.out.1, SO.out.1]; omega))).mono ?_
        rintro e wb ⟨rfl, g_wb⟩
        have s_wb : Grew wa wb := by first | exact g_wb | exact ((Grew.refl _).alloc _).trans g_wb | exact (((Grew.refl _).alloc _).alloc _).trans g_wb | exact (Grew.refl _).drew.trans g_wb | exact ((Grew.refl _).alloc _).drew.trans g_wb | exact ((Grew.refl _).drewN _).trans g_wb
        have z_wb := s_wb.size
        replace G := G.grew s_wb
        clear G0 G1 G2 G3 G4 G5
        have l_G_wb := G.lt
        replace H := H.grew s_wb
        clear H0 H1 H2 H3 H4 H5
        have l_H_wb := H.lt
        have X := (Own.new wa _ _).grew g_wb
        have l_X_wb := X.lt
        obtain ⟨G0, G1, G2, G3, G4, G5⟩ := G.three
        obtain ⟨H0, H1, H2, H3, H4, H5⟩ := H.three
        obtain ⟨X0, X1, X2, X3, X4, X5⟩ := X.three
        replace gA := gA.trans s_wb
        clear g_wb s_wb
        go_wp2_with fail
        with_reducible refine (awake_any _).mono ?_
        rintro e wd ⟨rfl, g_wd⟩
        have s_wd : Grew wb wd := by first | exact g_wd | exact ((Grew.refl _).alloc _).trans g_wd | exact (((Grew.refl _).alloc _).alloc _).trans g_wd | exact (Grew.refl _).drew.trans g_wd | exact ((Grew.refl _).alloc _).drew.trans g_wd | exact ((Grew.refl _).drewN _).trans g_wd
        have z_wd := s_wd.size
        replace G := G.grew s_wd
        clear G0 G1 G2 G3 G4 G5
        have l_G_wd := G.lt
        replace H := H.grew s_wd
        clear H0 H1 H2 H3 H4 H5
        have l_H_wd := H.lt
        replace X := X.grew s_wd
        clear X0 X1 X2 X3 X4 X5
        have l_X_wd := X.lt
        have Y := (Own.new wb _ _).grew g_wd
        have l_Y_wd := Y.lt
        obtain ⟨G0, G1, G2, G3, G4, G5⟩ := G.three
        obtain ⟨H0, H1, H2, H3, H4, H5⟩ := H.three
        obtain ⟨X0, X1, X2, X3, X4, X5⟩ := X.three
        obtain ⟨Y0, Y1, Y2, Y3, Y4, Y5⟩ := Y.three
        replace gA := gA.trans s_wd
        clear g_wd s_wd
        go_wp2
        go_ret
        exact ⟨rfl, gA⟩
      · go_wp2_with fail
        with_reducible refine (choose_second _ OH.out SH.out (.inr (by rw [SG.out.1, SH.out.1]; omega))).mono ?_
        rintro e wa ⟨rfl, g_wa⟩
        have s_wa : Grew w9 wa := by first | exact g_wa | exact ((Grew.refl _).alloc _).trans g_wa | exact (((Grew.refl _).alloc _).alloc _).trans g_wa | exact (Grew.refl _).drew.trans g_wa | exact ((Grew.refl _).alloc _).drew.trans g_wa | exact ((Grew.refl _).drewN _).trans g_wa
        have z_wa := s_wa.size
        replace G := G.grew s_wa
        clear G0 G1 G2 G3 G4 G5
        have l_G_wa := G.lt
        replace H := H.grew s_wa
        clear H0 H1 H2 H3 H4 H5
        have l_H_wa := H.lt
        obtain ⟨G0, G1, G2, G3, G4, G5⟩ := G.three
        obtain ⟨H0, H1, H2, H3, H4, H5⟩ := H.three
        replace gA := gA.trans s_wa
        clear g_wa s_wa
        go_wp2_with fail
        with_reducible refine (choose_first _ OH.out SH.out (.inr (by rw [SG.out.1, SH.out.1]; omega))).mono ?_
        rintro e wb ⟨rfl, g_wb⟩
        have s_wb : Grew wa wb := by first | exact g_wb | exact ((Grew.refl _).alloc _).trans g_wb | exact (((Grew.refl _).alloc _).alloc _).trans g_wb | exact (Grew.refl _).drew.trans g_wb | exact ((Grew.refl _).alloc _).drew.trans g_wb | exact ((Grew.refl _).drewN _).trans g_wb
        have z_wb := s_wb.size
        replace G := G.grew s_wb
        clear G0 G1 G2 G3 G4 G5
        have l_G_wb := G.lt
        replace H := H.grew s_wb
        clear H0 H1 H2 H3 H4 H5
        have l_H_wb := H.lt
        have X := (Own.new wa _ _).grew g_wb
        have l_X_wb := X.lt
        obtain ⟨G0, G1, G2, G3, G4, G5⟩ := G.three
        obtain ⟨H0, H1, H2, H3, H4, H5⟩ := H.three
        obtain ⟨X0, X1, X2, X3, X4, X5⟩ := X.three
        replace gA := gA.trans s_wb
        clear g_wb s_wb
        go_wp2_with fail
        with_reducible refine (awake_any _).mono ?_
        rintro e wd ⟨rfl, g_wd⟩
        have s_wd : Grew wb wd := by first | exact g_wd | exact ((Grew.refl _).alloc _).trans g_wd | exact (((Grew.refl _).alloc _).alloc _).trans g_wd | exact (Grew.refl _).drew.trans g_wd | exact ((Grew.refl _).alloc _).drew.trans g_wd | exact ((Grew.refl _).drewN _).trans g_wd
        have z_wd := s_wd.size
        replace G := G.grew s_wd
        clear G0 G1 G2 G3 G4 G5
        have l_G_wd := G.lt
        replace H := H.grew s_wd
        clear H0 H1 H2 H3 H4 H5
        have l_H_wd := H.lt
        replace X := X.grew s_wd
        clear X0 X1 X2 X3 X4 X5
        have l_X_wd := X.lt
        have Y := (Own.new wb _ _).grew g_wd
        have l_Y_wd := Y.lt
        obtain ⟨G0, G1, G2, G3, G4, G5⟩ := G.three
        obtain ⟨H0, H1, H2, H3, H4, H5⟩ := H.three
        obtain ⟨X0, X1, X2, X3, X4, X5⟩ := X.three
        obtain ⟨Y0, Y1, Y2, Y3, Y4, Y5⟩ := Y.three
        replace gA := gA.trans s_wd
        clear g_wd s_wd
        go_wp2
        go_ret
        exact ⟨rfl, gA⟩
      · go_wp2_with fail
        with_reducible refine (torn_c0 _ _ _ _ _ _ _ _).mono ?_
        rintro e wt ⟨rfl, g_wt⟩
        have s_wt : Grew w9 wt := by first | exact g_wt | exact ((Grew.refl _).alloc _).trans g_wt | exact (((Grew.refl _).alloc _).alloc _).trans g_wt | exact (Grew.refl _).drew.trans g_wt | exact ((Grew.refl _).alloc _).drew.trans g_wt | exact ((Grew.refl _).drewN _).trans g_wt
        have z_wt := s_wt.size
        replace G := G.grew s_wt
        clear G0 G1 G2 G3 G4 G5
        have l_G_wt := G.lt
        replace H := H.grew s_wt
        clear H0 H1 H2 H3 H4 H5
        have l_H_wt := H.lt
        obtain ⟨G0, G1, G2, G3, G4, G5⟩ := G.three
        obtain ⟨H0, H1, H2, H3, H4, H5⟩ := H.three
        replace gA := gA.trans s_wt
        clear g_wt s_wt
        go_wp2_with fail
        with_reducible refine (choose_first _ OG.out SG.out (.inl D0.out)).mono ?_
        rintro e wa ⟨rfl, g_wa⟩
        have s_wa : Grew wt wa := by first | exact g_wa | exact ((Grew.refl _).alloc _).trans g_wa | exact (((Grew.refl _).alloc _).alloc _).trans g_wa | exact (Grew.refl _).drew.trans g_wa | exact ((Grew.refl _).alloc _).drew.trans g_wa | exact ((Grew.refl _).drewN _).trans g_wa
        have z_wa := s_wa.size
        replace G := G.grew s_wa
        clear G0 G1 G2 G3 G4 G5
        have l_G_wa := G.lt
        replace H := H.grew s_wa
        clear H0 H1 H2 H3 H4 H5
        have l_H_wa := H.lt
        obtain ⟨G0, G1, G2, G3, G4, G5⟩ := G.three
        obtain ⟨H0, H1, H2, H3, H4, H5⟩ := H.three
        replace gA := gA.trans s_wa
        clear g_wa s_wa
        go_wp2_with fail
        with_reducible refine (choose_second _ OG.out SG.out (.inl D0.out)).mono ?_
        rintro e wb ⟨rfl, g_wb⟩
        have s_wb : Grew wa wb := by first | exact g_wb | exact ((Grew.refl _).alloc _).trans g_wb | exact (((Grew.refl _).alloc _).alloc _).trans g_wb | exact (Grew.refl _).drew.trans g_wb | exact ((Grew.refl _).alloc _).drew.trans g_wb | exact ((Grew.refl _).drewN _).trans g_wb
        have z_wb := s_wb.size
        replace G := G.grew s_wb
        clear G0 G1 G2 G3 G4 G5
        have l_G_wb := G.lt
        replace H := H.grew s_wb
        clear H0 H1 H2 H3 H4 H5
        have l_H_wb := H.lt
        have X := (Own.new wa _ _).grew g_wb
        have l_X_wb := X.lt
        obtain ⟨G0, G1, G2, G3, G4, G5⟩ := G.three
        obtain ⟨H0, H1, H2, H3, H4, H5⟩ := H.three
        obtain ⟨X0, X1, X2, X3, X4, X5⟩ := X.three
        replace gA := gA.trans s_wb
        clear g_wb s_wb
        go_wp2_with fail
        with_reducible refine (awake_any _).mono ?_
        rintro e wd ⟨rfl, g_wd⟩
        have s_wd : Grew wb wd := by first | exact g_wd | exact ((Grew.refl _).alloc _).trans g_wd | exact (((Grew.refl _).alloc _).alloc _).trans g_wd | exact (Grew.refl _).drew.trans g_wd | exact ((Grew.refl _).alloc _).drew.trans g_wd | exact ((Grew.refl _).drewN _).trans g_wd
        have z_wd := s_wd.size
        replace G := G.grew s_wd
        clear G0 G1 G2 G3 G4 G5
        have l_G_wd := G.lt
        replace H := H.grew s_wd
        clear H0 H1 H2 H3 H4 H5
        have l_H_wd := H.lt
        replace X := X.grew s_wd
        clear X0 X1 X2 X3 X4 X5
        have l_X_wd := X.lt
        have Y := (Own.new wb _ _).grew g_wd
        have l_Y_wd := Y.lt
        obtain ⟨G0, G1, G2, G3, G4, G5⟩ := G.three
        obtain ⟨H0, H1, H2, H3, H4, H5⟩ := H.three
        obtain ⟨X0, X1, X2, X3, X4, X5⟩ := X.three
        obtain ⟨Y0, Y1, Y2, Y3, Y4, Y5⟩ := Y.three
        replace gA := gA.trans s_wd
        clear g_wd s_wd
        go_wp2
        go_ret
        exact ⟨rfl, gA⟩
      · go_wp2_with fail
        with_reducible refine (torn_c1 _ _ _ _ _ _ _ _).mono ?_
        rintro e wt ⟨rfl, g_wt⟩
        have s_wt : Grew w9 wt := by first | exact g_wt | exact ((Grew.refl _).alloc _).trans g_wt | exact (((Grew.refl _).alloc _).alloc _).trans g_wt | exact (Grew.refl _).drew.trans g_wt | exact ((Grew.refl _).alloc _).drew.trans g_wt | exact ((Grew.refl _).drewN _).trans g_wt
        have z_wt := s_wt.size
        replace G := G.grew s_wt
        clear G0 G1 G2 G3 G4 G5
        have l_G_wt := G.lt
        replace H := H.grew s_wt
        clear H0 H1 H2 H3 H4 H5
        have l_H_wt := H.lt
        obtain ⟨G0, G1, G2, G3, G4, G5⟩ := G.three
        obtain ⟨H0, H1, H2, H3, H4, H5⟩ := H.three
        replace gA := gA.trans s_wt
        clear g_wt s_wt
        go_wp2_with fail
        with_reducible refine (choose_first _ OG.out SG.out (.inl D1.out)).mono ?_
        rintro e wa ⟨rfl, g_wa⟩
        have s_wa : Grew wt wa := by first | exact g_wa | exact ((Grew.refl _).alloc _).trans g_wa | exact (((Grew.refl _).alloc _).alloc _).trans g_wa | exact (Grew.refl _).drew.trans g_wa | exact ((Grew.refl _).alloc _).drew.trans g_wa | exact ((Grew.refl _).drewN _).trans g_wa
        have z_wa := s_wa.size
        replace G := G.grew s_wa
        clear G0 G1 G2 G3 G4 G5
        have l_G_wa := G.lt
        replace H := H.grew s_wa
        clear H0 H1 H2 H3 H4 H5
        have l_H_wa := H.lt
        obtain ⟨G0, G1, G2, G3, G4, G5⟩ := G.three
        obtain ⟨H0, H1, H2, H3, H4, H5⟩ := H.three
        replace gA := gA.trans s_wa
        clear g_wa s_wa
        go_wp2_with fail
        with_reducible refine (choose_second _ OG.out SG.out (.inl D1.out)).mono ?_
        rintro e wb ⟨rfl, g_wb⟩
        have s_wb : Grew wa wb := by first | exact g_wb | exact ((Grew.refl _).alloc _).trans g_wb | exact (((Grew.refl _).alloc _).alloc _).trans g_wb | exact (Grew.refl _).drew.trans g_wb | exact ((Grew.refl _).alloc _).drew.trans g_wb | exact ((Grew.refl _).drewN _).trans g_wb
        have z_wb := s_wb.size
        replace G := G.grew s_wb
        clear G0 G1 G2 G3 G4 G5
        have l_G_wb := G.lt
        replace H := H.grew s_wb
        clear H0 H1 H2 H3 H4 H5
        have l_H_wb := H.lt
        have X := (Own.new wa _ _).grew g_wb
        have l_X_wb := X.lt
        obtain ⟨G0, G1, G2, G3, G4, G5⟩ := G.three
        obtain ⟨H0, H1, H2, H3, H4, H5⟩ := H.three
        obtain ⟨X0, X1, X2, X3, X4, X5⟩ := X.three
        replace gA := gA.trans s_wb
        clear g_wb s_wb
        go_wp2_with fail
        with_reducible refine (awake_any _).mono ?_
        rintro e wd ⟨rfl, g_wd⟩
        have s_wd : Grew wb wd := by first | exact g_wd | exact ((Grew.refl _).alloc _).trans g_wd | exact (((Grew.refl _).alloc _).alloc _).trans g_wd | exact (Grew.refl _).drew.trans g_wd | exact ((Grew.refl _).alloc _).drew.trans g_wd | exact ((Grew.refl _).drewN _).trans g_wd
        have z_wd := s_wd.size
        replace G := G.grew s_wd
        clear G0 G1 G2 G3 G4 G5
        have l_G_wd := G.lt
        replace H := H.grew s_wd
        clear H0 H1 H2 H3 H4 H5
        have l_H_wd := H.lt
        replace X := X.grew s_wd
        clear X0 X1 X2 X3 X4 X5
        have l_X_wd := X.lt
        have Y := (Own.new wb _ _).grew g_wd
        have l_Y_wd := Y.lt
        obtain ⟨G0, G1, G2, G3, G4, G5⟩ := G.three
        obtain ⟨H0, H1, H2, H3, H4, H5⟩ := H.three
        obtain ⟨X0, X1, X2, X3, X4, X5⟩ := X.three
        obtain ⟨Y0, Y1, Y2, Y3, Y4, Y5⟩ := Y.three
        replace gA := gA.trans s_wd
        clear g_wd s_wd
        go_wp2
        go_ret
        exact ⟨rfl, gA⟩

theorem Try.own : ownKnob Try.prog.godebug = none := by kernel_rfl
theorem Try.laidOut : laidOutB Try.prog = true := by kernel_rfl

theorem inodePairs_contract (W : World) (base : Nat) (args : Array Value) (H : Type) (enc : TypeId × Value → H) (ds : List (DataW H)) (p : List MemPlace)
    (hval : ∀ (j : Nat) t v, Try.f5.params[j]? = some t → args[j]? = some v → Value.okWide Try.prog W .any base t v)
    (hA : DataW.TrodAll enc Try.prog W 0 (fun _ => true) true Try.f5.params.toList args.toList ds p) :
    (∃ d0, ds = [d0]) ∧ Calls Try.prog 5 args W fun e W' => e = .returned (.bool true) ∧ Below W.heap.size W W' := by
  rw [Try.params5] at hval hA
  obtain ⟨v0, d0, p0, ha, hd, hp, h0⟩ := args_1 hA
  subst ha hd
  obtain ⟨A0, c0, xs0, rfl, hr0, hm0⟩ := open_introw Try.underlying22 Try.underlying3 (by kernel_rfl) (hval 0 _ _ rfl rfl) h0
  exact ⟨⟨_, rfl⟩, (pairs_core A0 c0 xs0 W hr0 hm0).mono fun _ _ h => h⟩

set_option maxRecDepth 100000 in
theorem inodePairs_lifted (os : Os) (started : os.Started) (H : Type) (enc : TypeId × Value → H) :
    ReturnsInHanded {} Try.checked os 5 .any (Rows.inodePairsSpec.pre6 enc Try.prog Try.f5 Rows.inodePairsRow.domain false) (Rows.inodePairsSpec.post enc Try.prog Try.f5 false true false false) := by
  refine returnsInHanded_of_change (C := Try.checked) Try.own started (by kernel_rfl) Try.func5
    (ChangeSpec.witness6 (enc := enc) (C := Try.checked) false ⟨#[], #[.slice none 0 0], []⟩ 8 (by kernel_rfl) (by kernel_rfl) (by kernel_rfl) (by kernel_rfl)) ?_
  intro W base args ds gs before hval hW _ _
  obtain ⟨p, q, hA, hV, hrest⟩ := id hW
  obtain ⟨⟨d0, rfl⟩, hc⟩ := inodePairs_contract W base args H enc ds p hval hA
  obtain ⟨rfl, -⟩ := trodVars_none hV
  refine hc.mono fun e W' ⟨he, hb⟩ => ⟨_, he, ?_⟩
  exact law_close (tb := 4) Try.laidOut (by rw [Try.params5]; decide +kernel) Try.underlying4 rfl rfl hW rfl rfl rfl hb

theorem inodePairs_holds : Rows.InodePairsSaid :=
  OpenClaim.holds_of_wide 5 Try.f5 rfl rfl rfl rfl rfl rfl rfl ⟨rfl, rfl, rfl, rfl, rfl⟩ rfl rfl rfl rfl rfl (by kernel_rfl) Try.func5 (by kernel_rfl)
    (of_decide_eq_true (by kernel_rfl)) (by unfold Func.isWrapper; first | (rw [if_pos (by decide +kernel)]; kernel_rfl) | (rw [if_neg (by decide +kernel)]; exact ⟨rfl, rfl⟩))
    (fun os started H enc _ => inodePairs_lifted os started H enc)
end Go.Proofs.Ytbcakadefineiaa
