/- PageHistory holds: a page that is written and filled, in any order, reads as the bytes of the device with the writes over them. -/
import Derived.Test.YtokbkidoapgamaaHistRow
import Derived.Test.YtokbkidoapgamaaNeedLib
import Derived.Test.YtokbkidoapgamaaMadePage
import Derived.Deep.CutBlock
import Derived.Deep.DeepCutAuto
import Derived.Deep.RegionHeld3
import Derived.Deep.DrawnRows
namespace Go.Proofs.Ytokbkidoapgamaa
attribute [local go_sem ↓] Go.wp_at_zero Go.wp_at_succ
open Go.ChangeShapes Go.WideShapes Go.ChangeAt Go.RowKit Go.Mine

theorem in4_setB {s : Int} (h : setB s = true) : in4 s := setB_cases h
theorem setB_in4 {s : Int} (h : in4 s) : setB s = true := by unfold in4 at h; simp [setB]; omega
/-- What stands behind a fill: a new page in a block of its own. -/
def HistCut (w : World) (p g : Nat) (k d : ByteArray) (v t : Int) (W : ByteArray) (va vb : Value) (wx : World) : Prop :=
  ∃ (x : Int) (b : Nat), setB x = true ∧ w.heap.size < b ∧ b ≠ p ∧ va = .pointer (some ⟨b, 0, none⟩) ∧ vb = .int .i64 0 ∧ Own wx b 29 #[.string (mixP d k (bits .andNot .i64 x v)), .int .i64 (bits .or .i64 v x), .int .i64 t] ∧
    Own wx p 29 #[.string d, .int .i64 v, .int .i64 t] ∧ Bts wx g W ∧ Tp (w.heap.size + 1) wx w.heap.size ∧ Grew w wx
theorem need_in4 (v o n : Int) (wr : Bool) (h : in4 v) : in4 (needN v o n wr) := by
  rw [need_want]
  exact in4_andNot (wantM_c o n wr) h
/-- The page that was filled and written is right. -/
theorem hist_right {d d' : ByteArray} {v t N T : Int} (h : rightB d v t = true) (hd : d'.size = 16) (hN : in4 N) (hT : in4 T) : rightB d' (bits .or .i64 (bits .or .i64 v N) T) (bits .or .i64 t T) = true := by
  obtain ⟨_, hc⟩ := right_cases h
  unfold in4 at hN hT
  rcases hN with rfl | rfl | rfl | rfl <;> rcases hT with rfl | rfl | rfl | rfl <;> rcases hc with ⟨rfl, rfl⟩ | ⟨rfl, rfl⟩ | ⟨rfl, rfl⟩ | ⟨rfl, rfl⟩ | ⟨rfl, rfl⟩ | ⟨rfl, rfl⟩ | ⟨rfl, rfl⟩ | ⟨rfl, rfl⟩ | ⟨rfl, rfl⟩ <;>
    exact right_mk hd (by decide +kernel) (by decide +kernel) (by decide +kernel)
theorem zero_full (k : ByteArray) (hk : k.size = 16) : full zeroP k 0 = k := by
  have hz : zeroP.size = 16 := rfl
  apply ext16 (full_size _ _ _ hz hk) hk
  intro i hi
  rw [at_full _ _ _ (.inl rfl) hz hk i hi, show hasB 0 i = false from by unfold hasB; split <;> decide]
  simp

set_option maxRecDepth 100000 in
set_option maxHeartbeats 30000000 in
theorem hist_core (A : Option Addr) (c : Nat) (xs : List Int) (w : World) (hr : IntRow w A xs) (hm : xs.length ≤ maxLen) :
    Calls Try.prog 3 #[.slice A xs.length c] w (RetG (.bool true) w) := by
  have tp := Tp.made hr hm c 25
  have gA := Grew.refl w
  have HR := Lib.hid hr
  clear hr
  generalize hX : xs.length = X at *
  clear hX
  have hbA : w.heap.size ≤ w.heap.size := Nat.le_refl _
  go_enter Try.func3, Try.ntmps3
  go_wp2_with fail
  with_reducible refine (bytes_x _ _ _ _ (by omega) (by omega) tp (by simp)).mono ?_
  rintro e w1 ⟨k, hk, rfl, t_w1, g_w1⟩
  have s_w1 : w.grownBy w1 (some (w.heap.size)) := by first | exact g_w1 | exact grown_trans (grown_alloc (grown_refl _ _) _) g_w1 | exact grown_trans (grown_alloc (grown_alloc (grown_refl _ _) _) _) g_w1 | exact grown_trans (grown_drew (grown_refl _ _)) g_w1 | exact grown_trans (grown_drew (grown_alloc (grown_refl _ _) _)) g_w1
  have z_w1 := s_w1.size
  replace gA := gA.past s_w1 hbA
  clear tp
  have tp := t_w1
  have l_tp_w1 := tp.lt
  clear g_w1 s_w1 t_w1
  replace hk : k.size = 16 := hk
  have hcv : ∀ W, (convert 9 27 (.string k)).run Try.prog W = .ok (.slice (some ⟨W.heap.size, 0, none⟩) 16 (grownCap W k.size 0 5)) (Lib.bytesWorld W 5 k) := fun W => by
    have h := Lib.run_convert_string_bytes (P := Try.prog) W _ _ _ k Try.underlying9 Try.underlying27 Try.underlying5
    rwa [hk] at h ⊢
  have HK := Lib.hid hk
  clear hk
  go_wp2_with fail
  clear hcv
  have hg1 := tp.lt
  have BT := Bts.made w1 5 HK.out
  replace tp := tp.grew (cvG_grew w1 5 k)
  replace gA := gA.trans (cvG_grew w1 5 k)
  obtain ⟨g, hg⟩ : ∃ g, w1.heap.size = g := ⟨_, rfl⟩
  rw [hg] at BT hg1 ⊢
  have hcap : 16 ≤ grownCap w1 k.size 0 5 := by have h := grownCap_ge w1 k.size 0 5; have := HK.out; omega
  generalize grownCap w1 k.size 0 5 = cap at *
  have HGG := Lib.hid hg
  generalize Lib.bytesWorld w1 5 k = w2 at *
  have l_BT := BT.lt
  go_wp2_with fail
  with_reducible refine (new_any _).mono ?_
  rintro e w3 ⟨rfl, g_w3⟩
  have s_w3 : Grew w2 w3 := by first | exact g_w3 | exact ((Grew.refl _).alloc _).trans g_w3 | exact (((Grew.refl _).alloc _).alloc _).trans g_w3 | exact (Grew.refl _).drew.trans g_w3 | exact ((Grew.refl _).alloc _).drew.trans g_w3 | exact ((Grew.refl _).drewN _).trans g_w3
  have z_w3 := s_w3.size
  replace BT := BT.grew s_w3
  replace gA := gA.trans s_w3
  replace tp := tp.grew s_w3
  clear g_w3 s_w3
  clear HGG hg
  have hgp : g < w3.heap.size := BT.lt
  go_wp2_with fail
  with_reducible refine (next_x _ _ _ _ (by omega) (by omega) (tp.alloc _)).mono ?_
  rintro e w4 ⟨n, n0, n1, rfl, t_w4, g_w4⟩
  have s_w4 : w3.grownBy w4 (some (w.heap.size)) := by first | exact g_w4 | exact grown_trans (grown_alloc (grown_refl _ _) _) g_w4 | exact grown_trans (grown_alloc (grown_alloc (grown_refl _ _) _) _) g_w4 | exact grown_trans (grown_drew (grown_refl _ _)) g_w4 | exact grown_trans (grown_drew (grown_alloc (grown_refl _ _) _)) g_w4
  have z_w4 := s_w4.size
  replace BT := BT.past s_w4 (by omega)
  have P := (Own.new w3 _ _).past g_w4 (by omega)
  have l_P_w4 := P.lt
  obtain ⟨P0, P1, P2, P3, P4, P5⟩ := P.three
  replace gA := gA.past s_w4 hbA
  clear tp
  have tp := t_w4
  have l_tp_w4 := tp.lt
  clear g_w4 s_w4 t_w4
  obtain ⟨p, hp⟩ : ∃ p, w3.heap.size = p := ⟨_, rfl⟩
  rw [hp] at P P0 P1 P2 P3 P4 P5 hgp ⊢
  have hwp : w.heap.size < p := by omega
  clear hp
  obtain ⟨N, rfl⟩ := Int.eq_ofNat_of_zero_le n0
  have hgw : w.heap.size < g := by have := gA.size; omega
  have hN : N ≤ 7 := by omega
  clear n0 n1
  go_wp2_with fail
  go_loopw [7] (fun v7 wr => ∃ (N : Nat) (d W : ByteArray) (v t : Int), v7 = .int .i64 N ∧ N ≤ 7 ∧ rightB d v t = true ∧ full d k v = W ∧ Own wr p 29 #[.string d, .int .i64 v, .int .i64 t] ∧ Bts wr g W ∧ Tp (w.heap.size + 1) wr w.heap.size ∧ Grew w wr) (fun v7 _ => (intOf v7).toNat)
  case atStart => exact ⟨N, zeroP, k, 0, 0, rfl, hN, rfl, zero_full k HK.out, P, BT, tp, gA⟩
  case round =>
    clear P P0 P1 P2 P3 P4 P5 BT tp gA
    obtain ⟨N, d, W, v, t, rfl, hN7, hR, hF, P, BT, tp, gA⟩ := hrel
    obtain ⟨wo, rfl⟩ : ∃ wo : World, wo = wr := ⟨_, rfl⟩
    obtain ⟨P0, P1, P2, P3, P4, P5⟩ := P.three
    have l_P := P.lt
    have l_BT := BT.lt
    have l_tp := tp.lt
    have hd := (rightB_parts hR).1
    have hv4 := in4_setB (rightB_parts hR).2.1
    have HF := Lib.hid hF
    have HD := Lib.hid hd
    have HV := Lib.hid hv4
    clear hF hd hv4
    by_cases hN : 0 < N
    · skip
      go_wp2_with fail
      with_reducible refine (next_x _ _ _ _ (by omega) (by omega) tp).mono ?_
      rintro e y1 ⟨q, q0, q1, rfl, t_y1, g_y1⟩
      have s_y1 : wo.grownBy y1 (some (w.heap.size)) := by first | exact g_y1 | exact grown_trans (grown_alloc (grown_refl _ _) _) g_y1 | exact grown_trans (grown_alloc (grown_alloc (grown_refl _ _) _) _) g_y1 | exact grown_trans (grown_drew (grown_refl _ _)) g_y1 | exact grown_trans (grown_drew (grown_alloc (grown_refl _ _) _)) g_y1
      have z_y1 := s_y1.size
      replace P := P.past s_y1 (by omega)
      clear P0 P1 P2 P3 P4 P5
      have l_P_y1 := P.lt
      replace BT := BT.past s_y1 (by omega)
      obtain ⟨P0, P1, P2, P3, P4, P5⟩ := P.three
      replace gA := gA.past s_y1 hbA
      clear tp
      have tp := t_y1
      have l_tp_y1 := tp.lt
      clear g_y1 s_y1 t_y1
      by_cases e0 : q = 0
      · subst e0
        go_upto_region 9 with fail
        go_cut [8, 9] (HistCut w p g k d v t W)
        case first =>
          go_region_held3 (fun w' => w'.cell? ⟨p, 0, none⟩ = some (.string d) ∧ w'.cell? ⟨p, 1, none⟩ = some (.int .i64 v) ∧ w'.cell? ⟨p, 2, none⟩ = some (.int .i64 t))
            (refine ⟨?_, ?_, ?_⟩ <;> (repeat (first | assumption | (refine far_cell (by omega) ?_) | refine far_alloc ?_ | refine far_drew ?_)))
            (first
              | (go_at_call 7; (with_reducible refine (next_x _ _ _ _ (by omega) (by omega) (by first | with_reducible exact tp.drew | with_reducible exact (tp.alloc _).drew)).mono ?_); rintro e w6 ⟨x, x0, x1, rfl, t6, g6⟩; have hsx : setB x = true := (by simp [setB]; omega); have O6 : Own w6 p 29 #[.string d, .int .i64 v, .int .i64 t] := (by first | with_reducible exact P.drew.past g6 (by omega) | with_reducible exact (P.alloc _).drew.past g6 (by omega)); have B6 : Bts w6 g W := (by first | with_reducible exact Bts.past (Bts.drew BT) g6 (by omega) | with_reducible exact Bts.past (Bts.drew (Bts.alloc BT _)) g6 (by omega)); have G6 : Grew w w6 := (by first | with_reducible exact gA.drew.past g6 hbA | with_reducible exact (gA.alloc _).drew.past g6 hbA); (try have Z := (Own.new y1 _ _).drew.past g6 (by omega)); have l6 := O6.lt; clear P0 P1 P2 P3 P4 P5; obtain ⟨P0, P1, P2, P3, P4, P5⟩ := O6.three)
              | (go_at_call 8; (with_reducible refine (nd_fill d k v t x _ hR hsx HK.out).mono ?_); rintro e w7 ⟨rfl, g7⟩; have O7 : Own w7 p 29 #[.string d, .int .i64 v, .int .i64 t] := (by first | with_reducible exact O6.grew g7 | with_reducible exact (O6.alloc _).grew g7); have B7 : Bts w7 g W := (by first | with_reducible exact Bts.grew B6 g7 | with_reducible exact Bts.grew (Bts.alloc B6 _) g7); have G7 : Grew w w7 := (by first | with_reducible exact G6.trans g7 | with_reducible exact (G6.alloc _).trans g7); have t7 : Tp (w.heap.size + 1) w7 w.heap.size := (by first | with_reducible exact t6.grew g7 | with_reducible exact (t6.alloc _).grew g7); (first | (replace Z := Z.grew g7) | (have Z := (Own.new w6 _ _).grew g7) | skip); (try obtain ⟨Z0, Z1, Z2, Z3, Z4, Z5⟩ := Z.three); have l7 := O7.lt; clear P0 P1 P2 P3 P4 P5; obtain ⟨P0, P1, P2, P3, P4, P5⟩ := O7.three))
          all_goals go_wp2_with fail
          all_goals go_meet
          all_goals first | exact ⟨x, _, hsx, by omega, by omega, rfl, rfl, Own.new _ _ _, O7.alloc _, Bts.alloc B7 _, t7.alloc _, G7.alloc _⟩ | exact ⟨x, _, hsx, by omega, by omega, rfl, rfl, Z.store3 rfl, O7.far3 rfl (by omega), Bts.far3 B7 rfl (by omega), t7.far3 rfl (by omega), G7.far3 rfl (by omega)⟩
        case rest =>
          clear gA tp P P0 P1 P2 P3 P4 P5 BT
          obtain ⟨x, b, hsx, hbw, hbp, rfl, rfl, F, P, BT, tp, gA⟩ := hcut
          obtain ⟨P0, P1, P2, P3, P4, P5⟩ := P.three
          obtain ⟨F0, F1, F2, F3, F4, F5⟩ := F.three
          have hx4 := in4_setB hsx
          have HX4 := Lib.hid hx4
          clear hx4
          go_wp2_with fail
          go_roundw
          case rel => exact ⟨N - 1, _, W, _, _, by go_num, by omega, or_right hR (mix_size16 d k _ HD.out HK.out) hsx, by rw [full_fill d k v x HV.out HX4.out HD.out HK.out]; exact HF.out, P.store3 rfl, Bts.far3 BT rfl (by omega), tp.far3 rfl (by omega), gA.far3 rfl (by omega)⟩
          case measure => simp [intOf]; omega
      · have e1 : (q == 0) = false := by simpa using e0
        clear e0
        go_wp2_with fail
        with_reducible refine (next_x _ _ _ _ (by omega) (by omega) tp).mono ?_
        rintro e y2 ⟨o, o0, o1, rfl, t_y2, g_y2⟩
        have s_y2 : y1.grownBy y2 (some (w.heap.size)) := by first | exact g_y2 | exact grown_trans (grown_alloc (grown_refl _ _) _) g_y2 | exact grown_trans (grown_alloc (grown_alloc (grown_refl _ _) _) _) g_y2 | exact grown_trans (grown_drew (grown_refl _ _)) g_y2 | exact grown_trans (grown_drew (grown_alloc (grown_refl _ _) _)) g_y2
        have z_y2 := s_y2.size
        replace P := P.past s_y2 (by omega)
        clear P0 P1 P2 P3 P4 P5
        have l_P_y2 := P.lt
        replace BT := BT.past s_y2 (by omega)
        obtain ⟨P0, P1, P2, P3, P4, P5⟩ := P.three
        replace gA := gA.past s_y2 hbA
        clear tp
        have tp := t_y2
        have l_tp_y2 := tp.lt
        clear g_y2 s_y2 t_y2
        obtain ⟨o, rfl⟩ := Int.eq_ofNat_of_zero_le o0
        have ho16 : o < 16 := by omega
        clear o0 o1
        go_wp2_with fail
        with_reducible refine (next_x _ _ _ _ (by omega) (by omega) tp).mono ?_
        rintro e y3 ⟨m, m0, m1, rfl, t_y3, g_y3⟩
        have s_y3 : y2.grownBy y3 (some (w.heap.size)) := by first | exact g_y3 | exact grown_trans (grown_alloc (grown_refl _ _) _) g_y3 | exact grown_trans (grown_alloc (grown_alloc (grown_refl _ _) _) _) g_y3 | exact grown_trans (grown_drew (grown_refl _ _)) g_y3 | exact grown_trans (grown_drew (grown_alloc (grown_refl _ _) _)) g_y3
        have z_y3 := s_y3.size
        replace P := P.past s_y3 (by omega)
        clear P0 P1 P2 P3 P4 P5
        have l_P_y3 := P.lt
        replace BT := BT.past s_y3 (by omega)
        obtain ⟨P0, P1, P2, P3, P4, P5⟩ := P.three
        replace gA := gA.past s_y3 hbA
        clear tp
        have tp := t_y3
        have l_tp_y3 := tp.lt
        clear g_y3 s_y3 t_y3
        go_wp2_with fail
        with_reducible refine (bytes_x _ _ _ _ m0 (by omega) tp (by omega)).mono ?_
        rintro e y4 ⟨s, hs, rfl, t_y4, g_y4⟩
        have s_y4 : y3.grownBy y4 (some (w.heap.size)) := by first | exact g_y4 | exact grown_trans (grown_alloc (grown_refl _ _) _) g_y4 | exact grown_trans (grown_alloc (grown_alloc (grown_refl _ _) _) _) g_y4 | exact grown_trans (grown_drew (grown_refl _ _)) g_y4 | exact grown_trans (grown_drew (grown_alloc (grown_refl _ _) _)) g_y4
        have z_y4 := s_y4.size
        replace P := P.past s_y4 (by omega)
        clear P0 P1 P2 P3 P4 P5
        have l_P_y4 := P.lt
        replace BT := BT.past s_y4 (by omega)
        obtain ⟨P0, P1, P2, P3, P4, P5⟩ := P.three
        replace gA := gA.past s_y4 hbA
        clear tp
        have tp := t_y4
        have l_tp_y4 := tp.lt
        clear g_y4 s_y4 t_y4
        have hos : o + s.size ≤ 16 := by omega
        clear hs m0 m1
        have hrg : rangeB o s.size = true := by simp [rangeB]; omega
        have hN4 := need_in4 v o s.size true HV.out
        obtain ⟨f1, f2, f3, -⟩ := need_facts (wantM o s.size true) v (wantM_c _ _ _) HV.out
        rw [← need_want v o s.size true] at f1 f2
        have hD1 := mix_size16 d k (bits .andNot .i64 (needN v o s.size true) v) HD.out HK.out
        have hR1 : rightB (mixP d k (bits .andNot .i64 (needN v o s.size true) v)) (bits .or .i64 v (needN v o s.size true)) t = true := or_right hR hD1 f2
        have hz1 : needN (bits .or .i64 v (needN v o s.size true)) o s.size true = 0 := f1
        have hW1 : accE (mixP d k (bits .andNot .i64 (needN v o s.size true) v)) (bits .or .i64 v (needN v o s.size true)) t o s.size true = 0 := by simp [accE, hR1, hrg, hz1]
        have HW1 := Lib.hid hW1
        have HR1 := Lib.hid hR1
        have HFW := Lib.hid (full_write d k s v o HV.out HD.out HK.out hos)
        have HOS := Lib.hid (overH_size (mixP d k (bits .andNot .i64 (needN v o s.size true) v)) s o hD1 hos)
        have HN4 := Lib.hid hN4
        have F2 := Lib.hid f2
        have HRG := Lib.hid hrg
        have HRR := Lib.hid hR
        clear hW1 hR1 hD1 hz1 f1 f2 f3 hN4 hrg hR
        go_wp2_with fail
        with_reducible refine (nd_needs _ _ _ _ _ _ _ HRR.out HRG.out).mono ?_
        rintro e y5 ⟨rfl, g_y5⟩
        have s_y5 : Grew y4 y5 := by first | exact g_y5 | exact ((Grew.refl _).alloc _).trans g_y5 | exact (((Grew.refl _).alloc _).alloc _).trans g_y5 | exact (Grew.refl _).drew.trans g_y5 | exact ((Grew.refl _).alloc _).drew.trans g_y5 | exact ((Grew.refl _).drewN _).trans g_y5
        have z_y5 := s_y5.size
        replace P := P.grew s_y5
        clear P0 P1 P2 P3 P4 P5
        have l_P_y5 := P.lt
        replace BT := BT.grew s_y5
        obtain ⟨P0, P1, P2, P3, P4, P5⟩ := P.three
        replace gA := gA.trans s_y5
        replace tp := tp.grew s_y5
        clear g_y5 s_y5
        generalize hNN : needN v o s.size true = NN at *
        clear hNN
        go_wp2_with fail
        with_reducible refine (nd_fill _ _ _ _ _ _ HRR.out F2.out HK.out).mono ?_
        rintro e y6 ⟨rfl, g_y6⟩
        have s_y6 : Grew y5 y6 := by first | exact g_y6 | exact ((Grew.refl _).alloc _).trans g_y6 | exact (((Grew.refl _).alloc _).alloc _).trans g_y6 | exact (Grew.refl _).drew.trans g_y6 | exact ((Grew.refl _).alloc _).drew.trans g_y6 | exact ((Grew.refl _).drewN _).trans g_y6
        have z_y6 := s_y6.size
        replace P := P.grew s_y6
        clear P0 P1 P2 P3 P4 P5
        have l_P_y6 := P.lt
        replace BT := BT.grew s_y6
        obtain ⟨P0, P1, P2, P3, P4, P5⟩ := P.three
        replace gA := gA.trans s_y6
        replace tp := tp.grew s_y6
        clear g_y6 s_y6
        go_wp2_with fail
        with_reducible refine (write_ok _ _ _ _ _ _ HW1.out).mono ?_
        rintro e y7 ⟨rfl, g_y7⟩
        have s_y7 : Grew y6 y7 := by first | exact g_y7 | exact ((Grew.refl _).alloc _).trans g_y7 | exact (((Grew.refl _).alloc _).alloc _).trans g_y7 | exact (Grew.refl _).drew.trans g_y7 | exact ((Grew.refl _).alloc _).drew.trans g_y7 | exact ((Grew.refl _).drewN _).trans g_y7
        have z_y7 := s_y7.size
        replace P := P.grew s_y7
        clear P0 P1 P2 P3 P4 P5
        have l_P_y7 := P.lt
        replace BT := BT.grew s_y7
        obtain ⟨P0, P1, P2, P3, P4, P5⟩ := P.three
        replace gA := gA.trans s_y7
        replace tp := tp.grew s_y7
        clear g_y7 s_y7
        go_upto_region 21 with fail
        generalize hy8 : World.setCell (World.setCell (World.setCell _ _ _) _ _) _ _ = y8
        replace P := P.store3 hy8
        replace BT := Bts.far3 BT hy8 (by omega)
        replace tp := tp.far3 hy8 (by omega)
        replace gA := gA.far3 hy8 (by omega)
        clear hy8
        generalize Obj.cells _ _ _ = ob
        replace P := P.alloc ob
        replace BT := BT.alloc ob
        replace tp := tp.alloc ob
        replace gA := gA.alloc ob
        generalize World.alloc y8 ob = y9 at *
        have hcp := fun ty => (BT.copy s o (cap - o) hos ty)
        have hcr := fun ty => (hcp ty).1
        obtain ⟨-, BT2, g9⟩ := hcp 0
        clear hcp
        have P9 := P.past g9 (by omega)
        have t9 : Tp (w.heap.size + 1) _ w.heap.size := tp.elim fun rem h => ⟨rem, h.since g9.size fun j hj hw => g9.block j hw (fun e => by injection e with e; omega)⟩
        have gA9 := gA.past g9 (by omega)
        have hL := Lib.hid (And.intro BT2 (And.intro P9 (And.intro t9 gA9)))
        clear BT2 P9 t9 gA9 g9 P0 P1 P2 P3 P4 P5
        have c0 : (o : Int) ≤ 16 := by omega
        have c1 : (16 : Int) ≤ (cap : Int) := by omega
        have c2 : (o : Int) < (cap : Int) := by omega
        have c3 : o ≠ cap := by omega
        go_wp2_with fail
        go_roundw
        case rel =>
          obtain ⟨BT2, P9, t9, gA9⟩ := hL.out
          exact ⟨N - 1, _, _, _, _, by go_num, by omega, hist_right HRR.out HOS.out HN4.out (in4_secs _ _ _), by rw [HFW.out, HF.out], P9, BT2, t9, gA9⟩
        case measure => simp [intOf]; omega
    · have hN0 : N = 0 := by omega
      subst hN0
      go_wp2_with fail
      with_reducible refine (nd_fill _ _ _ _ 3 _ hR (by decide) HK.out).mono ?_
      rintro e z1 ⟨rfl, g_z1⟩
      have s_z1 : Grew wo z1 := by first | exact g_z1 | exact ((Grew.refl _).alloc _).trans g_z1 | exact (((Grew.refl _).alloc _).alloc _).trans g_z1 | exact (Grew.refl _).drew.trans g_z1 | exact ((Grew.refl _).alloc _).drew.trans g_z1 | exact ((Grew.refl _).drewN _).trans g_z1
      have z_z1 := s_z1.size
      replace P := P.grew s_z1
      clear P0 P1 P2 P3 P4 P5
      have l_P_z1 := P.lt
      replace BT := BT.grew s_z1
      obtain ⟨P0, P1, P2, P3, P4, P5⟩ := P.three
      replace gA := gA.trans s_z1
      clear g_z1 s_z1
      have hFD : mixP d k (bits .andNot .i64 3 v) = W := HF.out
      have hFV : bits .or .i64 v 3 = 3 := by have := HV.out; unfold in4 at this; rcases this with rfl | rfl | rfl | rfl <;> decide +kernel
      rw [hFD, hFV]
      have hWs : W.size = 16 := BT.2.1
      have hRW : rightB W 3 t = true := by rw [← hFV]; exact or_right hR hWs (by decide)
      clear hFD hFV
      have hex : W.extract 0 16 = W := by
        apply ba_ext
        have := (ba_size W).trans hWs
        rw [ba_ext_list, List.drop_zero, List.take_of_length_le (by omega)]
      have hrd : ∀ w, Calls Try.prog 11 #[pageV W 3 t, .int .i64 0, .int .i64 16] w (RetG (.tuple #[.string W, .int .i64 0]) w) := fun w => by
        have h := read_ok W 3 t 0 16 w (by simp [accE, hRW, show rangeB 0 16 = true from by decide, show needN 3 0 16 false = 0 from by decide +kernel])
        rw [Nat.zero_add, hex] at h
        exact h
      have HRD := Lib.hid hrd
      clear hrd hex
      go_upto_region 23 with fail
      generalize hz2 : World.setCell (World.setCell (World.setCell _ _ _) _ _) _ _ = z2
      replace P := P.store3 hz2
      replace BT := Bts.far3 BT hz2 (by omega)
      replace gA := gA.far3 hz2 (by omega)
      clear hz2 P0 P1 P2 P3 P4 P5
      obtain ⟨P0, P1, P2, P3, P4, P5⟩ := P.three
      go_wp2_with fail
      with_reducible refine (HRD.out _).mono ?_
      rintro e z3 ⟨rfl, g_z3⟩
      have s_z3 : Grew z2 z3 := by first | exact g_z3 | exact ((Grew.refl _).alloc _).trans g_z3 | exact (((Grew.refl _).alloc _).alloc _).trans g_z3 | exact (Grew.refl _).drew.trans g_z3 | exact ((Grew.refl _).alloc _).drew.trans g_z3 | exact ((Grew.refl _).drewN _).trans g_z3
      have z_z3 := s_z3.size
      replace P := P.grew s_z3
      clear P0 P1 P2 P3 P4 P5
      have l_P_z3 := P.lt
      replace BT := BT.grew s_z3
      obtain ⟨P0, P1, P2, P3, P4, P5⟩ := P.three
      replace gA := gA.trans s_z3
      clear g_z3 s_z3
      have hbk := BT.back cap
      go_wp2_with fail
      with_reducible refine (awake_any _).mono ?_
      rintro e z4 ⟨rfl, g4⟩
      go_wp2_with fail
      go_ret
      exact ⟨rfl, gA.trans g4⟩

theorem Try.own : ownKnob Try.prog.godebug = none := by kernel_rfl
theorem Try.laidOut : laidOutB Try.prog = true := by kernel_rfl

theorem pageHistory_contract (W : World) (base : Nat) (args : Array Value) (H : Type) (enc : TypeId × Value → H) (ds : List (DataW H)) (p : List MemPlace)
    (hval : ∀ (j : Nat) t v, Try.f3.params[j]? = some t → args[j]? = some v → Value.okWide Try.prog W .any base t v)
    (hA : DataW.TrodAll enc Try.prog W 0 (fun _ => true) true Try.f3.params.toList args.toList ds p) :
    (∃ d0, ds = [d0]) ∧ Calls Try.prog 3 args W fun e W' => e = .returned (.bool true) ∧ Below W.heap.size W W' := by
  rw [Try.params3] at hval hA
  obtain ⟨v0, d0, p0, ha, hd, hp, h0⟩ := args_1 hA
  subst ha hd
  obtain ⟨A0, c0, xs0, rfl, hr0, hm0⟩ := open_introw Try.underlying22 Try.underlying3 (by kernel_rfl) (hval 0 _ _ rfl rfl) h0
  exact ⟨⟨_, rfl⟩, (hist_core A0 c0 xs0 W hr0 hm0).mono fun _ _ h => h⟩

set_option maxRecDepth 100000 in
theorem pageHistory_lifted (os : Os) (started : os.Started) (H : Type) (enc : TypeId × Value → H) :
    ReturnsInHanded {} Try.checked os 3 .any (Rows.pageHistorySpec.pre6 enc Try.prog Try.f3 Rows.pageHistoryRow.domain false) (Rows.pageHistorySpec.post enc Try.prog Try.f3 false true false false) := by
  refine returnsInHanded_of_change (C := Try.checked) Try.own started (by kernel_rfl) Try.func3
    (ChangeSpec.witness6 (enc := enc) (C := Try.checked) false ⟨#[], #[.slice none 0 0], []⟩ 8 (by kernel_rfl) (by kernel_rfl) (by kernel_rfl) (by kernel_rfl)) ?_
  intro W base args ds gs before hval hW _ _
  obtain ⟨p, q, hA, hV, hrest⟩ := id hW
  obtain ⟨⟨d0, rfl⟩, hc⟩ := pageHistory_contract W base args H enc ds p hval hA
  obtain ⟨rfl, -⟩ := trodVars_none hV
  refine hc.mono fun e W' ⟨he, hb⟩ => ⟨_, he, ?_⟩
  exact law_close (tb := 4) Try.laidOut (by rw [Try.params3]; decide +kernel) Try.underlying4 rfl rfl hW rfl rfl rfl hb

theorem pageHistory_holds : Rows.PageHistorySaid :=
  OpenClaim.holds_of_wide 3 Try.f3 rfl rfl rfl rfl rfl rfl rfl ⟨rfl, rfl, rfl, rfl, rfl⟩ rfl rfl rfl rfl rfl (by kernel_rfl) Try.func3 (by kernel_rfl)
    (of_decide_eq_true (by kernel_rfl)) (by unfold Func.isWrapper; first | (rw [if_pos (by decide +kernel)]; kernel_rfl) | (rw [if_neg (by decide +kernel)]; exact ⟨rfl, rfl⟩))
    (fun os started H enc _ => pageHistory_lifted os started H enc)
end Go.Proofs.Ytokbkidoapgamaa
