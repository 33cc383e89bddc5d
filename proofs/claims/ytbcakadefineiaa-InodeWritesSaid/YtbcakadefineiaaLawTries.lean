/- InodeWrites holds: inodes that are written in turn, where any write may fail, always leave the last one that was written without an error, or a later one that was tried. -/
import Derived.Test.YtbcakadefineiaaTryLib
import Derived.Test.YtbcakadefineiaaAwake3
import Derived.Test.YtbcakadefineiaaOdd
import Derived.Deep.DeepCutAuto
import Derived.Deep.CutBlock
import Derived.Deep.RegionHeld3
import Derived.Deep.DrawnRows
import Derived.Deep.QuietTactic
import Derived.BigQuiet
import Derived.Laws.OwnMore
import Derived.OwnWalk
namespace Go.Proofs.Ytbcakadefineiaa
attribute [local go_sem ↓] Go.wp_at_zero Go.wp_at_succ
open Go.ChangeShapes Go.WideShapes Go.ChangeAt Go.RowKit Go.Mine

def zero8 : ByteArray := { data := #[0, 0, 0, 0, 0, 0, 0, 0] }
theorem make8 (W : World) : (Instr.makeSlice 47 (.int .i64 8) (.int .i64 8)).run Try.prog W = .ok (.slice (some ⟨W.heap.size, 0, none⟩) 8 8) (W.alloc (.cells #[.int .u8 0, .int .u8 0, .int .u8 0, .int .u8 0, .int .u8 0, .int .u8 0, .int .u8 0, .int .u8 0] 5)) := by kernel_rfl
theorem conv0 (b : Nat) (W : World) (h : ∀ i, i < 8 → W.cell? ⟨b, i, none⟩ = some (.int .u8 0)) : (convert 47 9 (.slice (some ⟨b, 0, none⟩) 8 8)).run Try.prog W = .ok (.string zero8) W := by
  have e := run_convert_bytes_arg (P := Try.prog) W _ _ Try.underlying47 Try.underlying5 b 0 8 8 [0, 0, 0, 0, 0, 0, 0, 0] rfl (fun i hi => by
    rw [Nat.zero_add, h i hi]
    have : i = 0 ∨ i = 1 ∨ i = 2 ∨ i = 3 ∨ i = 4 ∨ i = 5 ∨ i = 6 ∨ i = 7 := by omega
    rcases this with rfl | rfl | rfl | rfl | rfl | rfl | rfl | rfl <;> rfl) _ Try.underlying9
  rw [e]
  rfl

/-- What holds of the sectors: the good inode, and the other sector's content. -/
def Tries (w : World) (S G : Nat) (f : Int) (L : Nat) (v7 v8 v9 : Value) (wr : World) : Prop :=
  ∃ (W q z b : Int) (s : ByteArray) (cq cz cb : Int) (ts : List (Int × Int × Int)), v7 = .int .i64 W ∧ v8 = .int .i64 L ∧ (W = 0 ∨ W = 1) ∧ q ≤ L ∧ ts.length ≤ L ∧ validI q z b = true ∧ validI cq cz cb = true ∧ s.size = 8 ∧ cont s cq cz cb ∧
    (cq < q ∨ (cq = q ∧ cz = z ∧ cb = b) ∨ (cq, cz, cb) ∈ ts) ∧ Own wr S 46 #[.string (pickS W (secS q z b f) s), .string (pickS W s (secS q z b f))] ∧ Own wr G 28 #[.int .i64 q, .int .i64 z, .int .i64 b] ∧
    Rw wr (G + 1) v9 ts ∧ Tp (w.heap.size + 1) wr w.heap.size ∧ Grew w wr
def TriesCut (w : World) (S G : Nat) (f : Int) (L : Nat) (v7 v9 : Value) (wr : World) : Prop := Tries w S G f L v7 (.int .i64 L) v9 wr
def FineCut (gq gz gb q z b : Int) (y7 : World) (v18 : Value) (wx : World) : Prop := wx = y7 ∧ ∃ bb : Bool, v18 = .bool bb ∧ (gq = q ∧ gz = z ∧ gb = b → bb = true)
theorem zero_cont : cont zero8 0 0 0 := ⟨rfl, rfl, rfl, rfl⟩

set_option maxRecDepth 100000 in
set_option maxHeartbeats 40000000 in
theorem tries_core (A : Option Addr) (c : Nat) (xs : List Int) (w : World) (hr : IntRow w A xs) (hm : xs.length ≤ maxLen) :
    Calls Try.prog 7 #[.slice A xs.length c] w (RetG (.bool true) w) := by
  have tp := Tp.made hr hm c 25
  have gA := Grew.refl w
  have HR := Lib.hid hr
  clear hr
  generalize hX : xs.length = X at *
  clear hX
  have hbA : w.heap.size ≤ w.heap.size := Nat.le_refl _
  go_enter Try.func7, Try.ntmps7
  go_wp2_with fail
  with_reducible refine (next_x _ _ _ _ (by omega) (by omega) tp).mono ?_
  rintro e w1 ⟨f, f0, f1, rfl, t_w1, g_w1⟩
  have s_w1 : w.grownBy w1 (some (w.heap.size)) := by first | exact g_w1 | exact grown_trans (grown_alloc (grown_refl _ _) _) g_w1 | exact grown_trans (grown_alloc (grown_alloc (grown_refl _ _) _) _) g_w1 | exact grown_trans (grown_drew (grown_refl _ _)) g_w1 | exact grown_trans (grown_drew (grown_alloc (grown_refl _ _) _)) g_w1
  have z_w1 := s_w1.size
  replace gA := gA.past s_w1 hbA
  clear tp
  have tp := t_w1
  have l_tp_w1 := tp.lt
  clear g_w1 s_w1 t_w1
  have hf : withB f 7 = true := file_mk (by omega)
  have S := Own.new w1 46 #[.string { data := #[] }, .string { data := #[] }]
  replace tp := tp.alloc (.cells #[.string { data := #[] }, .string { data := #[] }] 46)
  go_wp2_with fail
  with_reducible refine (encode_ok _ _ _ _ _ (by decide) hf).mono ?_
  rintro e w2 ⟨rfl, g2⟩
  replace S := S.grew g2
  replace tp := tp.grew g2
  replace gA := (gA.alloc _).trans g2
  have l_S := S.lt
  have l_tp := tp.lt
  clear g2
  obtain ⟨S0, S1, S2, S3⟩ := S.two
  have hmk := make8
  have Z : Own ((w2.setCell ⟨w1.heap.size, 0, none⟩ (.string (secS 0 0 0 f))).alloc (.cells #[.int .u8 0, .int .u8 0, .int .u8 0, .int .u8 0, .int .u8 0, .int .u8 0, .int .u8 0, .int .u8 0] 5)) w2.heap.size 5 #[.int .u8 0, .int .u8 0, .int .u8 0, .int .u8 0, .int .u8 0, .int .u8 0, .int .u8 0, .int .u8 0] := by
    have h := Own.new (w2.setCell ⟨w1.heap.size, 0, none⟩ (.string (secS 0 0 0 f))) 5 #[.int .u8 0, .int .u8 0, .int .u8 0, .int .u8 0, .int .u8 0, .int .u8 0, .int .u8 0, .int .u8 0]
    rwa [show (w2.setCell ⟨w1.heap.size, 0, none⟩ (.string (secS 0 0 0 f))).heap.size = w2.heap.size from by simp [World.setCell]] at h
  have hcv := conv0 _ _ fun i hi => (Z.cell i).trans (by
    have h8 : i = 0 ∨ i = 1 ∨ i = 2 ∨ i = 3 ∨ i = 4 ∨ i = 5 ∨ i = 6 ∨ i = 7 := by omega
    rcases h8 with rfl | rfl | rfl | rfl | rfl | rfl | rfl | rfl <;> rfl)
  have hzA := gA.size
  have hS2 := S
  replace S := ((S.set 0 (.string (secS 0 0 0 f))).set 1 (.string zero8)).alloc (.cells #[.int .u8 0, .int .u8 0, .int .u8 0, .int .u8 0, .int .u8 0, .int .u8 0, .int .u8 0, .int .u8 0] 5) |>.alloc (.cells #[.int .i64 0, .int .i64 0, .int .i64 0] 28)
  replace tp := ((((tp.set (p := ⟨w1.heap.size, 0, none⟩) (by simp; omega) (.string (secS 0 0 0 f))).set (p := ⟨w1.heap.size, 1, none⟩) (by simp; omega) (.string zero8)).alloc (.cells #[.int .u8 0, .int .u8 0, .int .u8 0, .int .u8 0, .int .u8 0, .int .u8 0, .int .u8 0, .int .u8 0] 5)).alloc (.cells #[.int .i64 0, .int .i64 0, .int .i64 0] 28))
  replace gA := ((((gA.set (p := ⟨w1.heap.size, 0, none⟩) (by simp; omega) (.string (secS 0 0 0 f))).set (p := ⟨w1.heap.size, 1, none⟩) (by simp; omega) (.string zero8)).alloc (.cells #[.int .u8 0, .int .u8 0, .int .u8 0, .int .u8 0, .int .u8 0, .int .u8 0, .int .u8 0, .int .u8 0] 5)).alloc (.cells #[.int .i64 0, .int .i64 0, .int .i64 0] 28))
  have G := Own.new2 ((w2.setCell ⟨w1.heap.size, 0, none⟩ (.string (secS 0 0 0 f))).setCell ⟨w1.heap.size, 1, none⟩ (.string zero8)) (.cells #[.int .u8 0, .int .u8 0, .int .u8 0, .int .u8 0, .int .u8 0, .int .u8 0, .int .u8 0, .int .u8 0] 5) 28 #[.int .i64 0, .int .i64 0, .int .i64 0]
  rw [show ((w2.setCell ⟨w1.heap.size, 0, none⟩ (.string (secS 0 0 0 f))).setCell ⟨w1.heap.size, 1, none⟩ (.string zero8)).heap.size = w2.heap.size from by simp [World.setCell]] at G
  go_wp2_with fail
  clear hmk hcv Z S0 S1 S2 S3 hS2
  have l_G := G.lt
  generalize hw3 : World.alloc _ _ = w3 at *
  clear hw3
  with_reducible refine (next_x _ _ _ _ (by omega) (by omega) tp).mono ?_
  rintro e w4 ⟨n, n0, n1, rfl, t4, g4⟩
  replace S := S.past g4 (by omega)
  replace G := G.past g4 (by omega)
  replace gA := gA.past g4 hbA
  have hSG : w1.heap.size < w2.heap.size + 1 := by omega
  have hSw : w.heap.size < w1.heap.size := by omega
  clear tp g4 l_S l_tp
  obtain ⟨m, rfl⟩ := Int.eq_ofNat_of_zero_le n0
  generalize hS : w1.heap.size = SB at *
  generalize hG : w2.heap.size + 1 = GB at *
  have l4 := G.lt
  clear hS hG
  go_wp2_with fail
  go_loopw [7, 8, 9, 10] (fun v7 v8 v9 v10 wr => ∃ N L : Nat, v10 = .int .i64 N ∧ L + N ≤ 8 ∧ Tries w SB GB f L v7 v8 v9 wr) (fun _ _ _ v10 _ => (intOf v10).toNat)
  case atStart =>
    refine ⟨m + 1, 0, by rw [show (1 : Int) + (m : Int) = ((m + 1 : Nat) : Int) from by omega], by omega, ?_⟩
    exact ⟨0, 0, 0, 0, zero8, 0, 0, 0, [], rfl, rfl, .inl rfl, by omega, by simp, by decide, by decide, rfl, zero_cont, .inr (.inl ⟨rfl, rfl, rfl⟩), S, G, Rw.nil _ _, t4, gA⟩
  case round =>
    clear S G gA t4 l4
    obtain ⟨wo, rfl⟩ : ∃ wo : World, wo = wr := ⟨_, rfl⟩
    obtain ⟨N, L, rfl, hLN, W, q, z, b, s, cq, cz, cb, ts, rfl, rfl, hW, hqL, htL, hv, hc, hs, hct, hcond, S, G, RW, tp, gA⟩ := hrel
    have hL0 : 0 ≤ (L : Int) := by omega
    have hL8 : (L : Int) ≤ 8 := by omega
    have l_S := S.lt
    have l_G := G.lt
    have l_tp := tp.lt
    have HV := Lib.hid hv
    have HC := Lib.hid hc
    have HS := Lib.hid hs
    have HCT := Lib.hid hct
    have HCD := Lib.hid hcond
    have hwB : w.heap.size < GB + 1 := by omega
    clear hv hc hs hct hcond
    by_cases hN : 0 < N
    · skip
      obtain ⟨G0, G1, G2, G3, G4, G5⟩ := G.three
      obtain ⟨S0, S1, S2, S3⟩ := S.two
      go_wp2_with fail
      with_reducible refine (next_x _ _ _ _ (by omega) (by omega) tp).mono ?_
      rintro e y1 ⟨z1, z10, z11, rfl, t_y1, g_y1⟩
      have s_y1 : wo.grownBy y1 (some (w.heap.size)) := by first | exact g_y1 | exact grown_trans (grown_alloc (grown_refl _ _) _) g_y1 | exact grown_trans (grown_alloc (grown_alloc (grown_refl _ _) _) _) g_y1 | exact grown_trans (grown_drew (grown_refl _ _)) g_y1 | exact grown_trans (grown_drew (grown_alloc (grown_refl _ _) _)) g_y1
      have z_y1 := s_y1.size
      replace S := S.past s_y1 (by omega)
      clear S0 S1 S2 S3
      have l_S_y1 := S.lt
      replace G := G.past s_y1 (by omega)
      clear G0 G1 G2 G3 G4 G5
      have l_G_y1 := G.lt
      replace RW := RW.past s_y1 (by omega)
      obtain ⟨S0, S1, S2, S3⟩ := S.two
      obtain ⟨G0, G1, G2, G3, G4, G5⟩ := G.three
      replace gA := gA.past s_y1 hbA
      clear tp
      have tp := t_y1
      have l_tp_y1 := tp.lt
      clear g_y1 s_y1 t_y1
      go_wp2_with fail
      with_reducible refine (next_x _ _ _ _ (by omega) (by omega) tp).mono ?_
      rintro e y2 ⟨b1, b10, b11, rfl, t_y2, g_y2⟩
      have s_y2 : y1.grownBy y2 (some (w.heap.size)) := by first | exact g_y2 | exact grown_trans (grown_alloc (grown_refl _ _) _) g_y2 | exact grown_trans (grown_alloc (grown_alloc (grown_refl _ _) _) _) g_y2 | exact grown_trans (grown_drew (grown_refl _ _)) g_y2 | exact grown_trans (grown_drew (grown_alloc (grown_refl _ _) _)) g_y2
      have z_y2 := s_y2.size
      replace S := S.past s_y2 (by omega)
      clear S0 S1 S2 S3
      have l_S_y2 := S.lt
      replace G := G.past s_y2 (by omega)
      clear G0 G1 G2 G3 G4 G5
      have l_G_y2 := G.lt
      replace RW := RW.past s_y2 (by omega)
      obtain ⟨S0, S1, S2, S3⟩ := S.two
      obtain ⟨G0, G1, G2, G3, G4, G5⟩ := G.three
      replace gA := gA.past s_y2 hbA
      clear tp
      have tp := t_y2
      have l_tp_y2 := tp.lt
      clear g_y2 s_y2 t_y2
      have hx : validI (L + 1) z1 b1 = true := valid_mk (by omega)
      go_wp2_with fail
      with_reducible refine (encode_ok _ _ _ _ _ hx hf).mono ?_
      rintro e y3 ⟨rfl, g_y3⟩
      have s_y3 : Grew y2 y3 := by first | exact g_y3 | exact ((Grew.refl _).alloc _).trans g_y3 | exact (((Grew.refl _).alloc _).alloc _).trans g_y3 | exact (Grew.refl _).drew.trans g_y3 | exact ((Grew.refl _).alloc _).drew.trans g_y3 | exact ((Grew.refl _).drewN _).trans g_y3
      have z_y3 := s_y3.size
      replace S := S.grew s_y3
      clear S0 S1 S2 S3
      have l_S_y3 := S.lt
      replace G := G.grew s_y3
      clear G0 G1 G2 G3 G4 G5
      have l_G_y3 := G.lt
      replace RW := RW.grew s_y3
      have X := (Own.new y2 _ _).grew g_y3
      have l_X_y3 := X.lt
      obtain ⟨S0, S1, S2, S3⟩ := S.two
      obtain ⟨G0, G1, G2, G3, G4, G5⟩ := G.three
      obtain ⟨X0, X1, X2, X3, X4, X5⟩ := X.three
      replace gA := gA.trans s_y3
      replace tp := tp.grew s_y3
      clear g_y3 s_y3
      have hx8 : (secS (L + 1) z1 b1 f).size = 8 := rfl
      have HX := Lib.hid hx
      clear hx
      obtain ⟨i0, hi, hz0, hz1, hz2⟩ := info_parts info_ino
      rcases hW with rfl | rfl
      · skip
        rw [pick0, pick0] at S
        clear S0 S1 S2 S3
        obtain ⟨S0, S1, S2, S3⟩ := S.two
        go_wp2_with fail
        with_reducible refine (next_x _ _ _ _ (by omega) (by omega) tp).mono ?_
        rintro e y4 ⟨p, p0, p1, rfl, t_y4, g_y4⟩
        have s_y4 : y3.grownBy y4 (some (w.heap.size)) := by first | exact g_y4 | exact grown_trans (grown_alloc (grown_refl _ _) _) g_y4 | exact grown_trans (grown_alloc (grown_alloc (grown_refl _ _) _) _) g_y4 | exact grown_trans (grown_drew (grown_refl _ _)) g_y4 | exact grown_trans (grown_drew (grown_alloc (grown_refl _ _) _)) g_y4
        have z_y4 := s_y4.size
        replace S := S.past s_y4 (by omega)
        clear S0 S1 S2 S3
        have l_S_y4 := S.lt
        replace G := G.past s_y4 (by omega)
        clear G0 G1 G2 G3 G4 G5
        have l_G_y4 := G.lt
        replace RW := RW.past s_y4 (by omega)
        replace X := X.past s_y4 (by omega)
        clear X0 X1 X2 X3 X4 X5
        have l_X_y4 := X.lt
        obtain ⟨S0, S1, S2, S3⟩ := S.two
        obtain ⟨G0, G1, G2, G3, G4, G5⟩ := G.three
        obtain ⟨X0, X1, X2, X3, X4, X5⟩ := X.three
        replace gA := gA.past s_y4 hbA
        clear tp
        have tp := t_y4
        have l_tp_y4 := tp.lt
        clear g_y4 s_y4 t_y4
        have hpc : p = 0 ∨ p = 1 ∨ p = 2 ∨ p = 3 ∨ p = 4 := by omega
        clear p0 p1
        go_upto_block 2 with fail
        go_cut [7, 9] (TriesCut w SB GB f (L + 1))
        case first =>
          rcases hpc with rfl | rfl | rfl | rfl | rfl
          · go_wp2_with fail
            go_meet
            have hne : SB ≠ GB := by omega
            have S' : Own (y4.setCell ⟨SB, 1, none⟩ (.string (secS (L + 1) z1 b1 f))) SB 46 #[.string (secS q z b f), .string (secS (L + 1) z1 b1 f)] := S.set 1 (.string (secS (L + 1) z1 b1 f))
            have S9 := ((S'.far (p := ⟨GB, 0, none⟩) hne (.int .i64 (L + 1))).far (p := ⟨GB, 1, none⟩) hne (.int .i64 z1)).far (p := ⟨GB, 2, none⟩) hne (.int .i64 b1)
            have G9 := (G.far (p := ⟨SB, 1, none⟩) (Ne.symm hne) (.string (secS (L + 1) z1 b1 f))).store3 (x := .int .i64 (L + 1)) (y := .int .i64 z1) (z := .int .i64 b1) rfl
            have t9 := (tp.set (p := ⟨SB, 1, none⟩) (by simp; omega) (.string (secS (L + 1) z1 b1 f))).far3 (x := .int .i64 (L + 1)) (y := .int .i64 z1) (z := .int .i64 b1) (b := GB) rfl (by omega)
            have gA9 := (gA.set (p := ⟨SB, 1, none⟩) (by simp; omega) (.string (secS (L + 1) z1 b1 f))).far3 (x := .int .i64 (L + 1)) (y := .int .i64 z1) (z := .int .i64 b1) (b := GB) rfl (by omega)
            exact ⟨1, L + 1, z1, b1, (secS q z b f), q, z, b, [], rfl, rfl, .inr rfl, by omega, by simp, HX.out, HV.out, sec_size, cont_sec HV.out, .inl (by omega), S9, G9, Rw.nil _ _, t9, gA9⟩
          · go_wp2_with fail
            go_meet
            have hne : SB ≠ GB := by omega
            have S' : Own (y4.setCell ⟨SB, 1, none⟩ (.string (secS (L + 1) z1 b1 f))) SB 46 #[.string (secS q z b f), .string (secS (L + 1) z1 b1 f)] := S.set 1 (.string (secS (L + 1) z1 b1 f))
            have S9 := ((S'.far (p := ⟨GB, 0, none⟩) hne (.int .i64 (L + 1))).far (p := ⟨GB, 1, none⟩) hne (.int .i64 z1)).far (p := ⟨GB, 2, none⟩) hne (.int .i64 b1)
            have G9 := (G.far (p := ⟨SB, 1, none⟩) (Ne.symm hne) (.string (secS (L + 1) z1 b1 f))).store3 (x := .int .i64 (L + 1)) (y := .int .i64 z1) (z := .int .i64 b1) rfl
            have t9 := (tp.set (p := ⟨SB, 1, none⟩) (by simp; omega) (.string (secS (L + 1) z1 b1 f))).far3 (x := .int .i64 (L + 1)) (y := .int .i64 z1) (z := .int .i64 b1) (b := GB) rfl (by omega)
            have gA9 := (gA.set (p := ⟨SB, 1, none⟩) (by simp; omega) (.string (secS (L + 1) z1 b1 f))).far3 (x := .int .i64 (L + 1)) (y := .int .i64 z1) (z := .int .i64 b1) (b := GB) rfl (by omega)
            exact ⟨1, L + 1, z1, b1, (secS q z b f), q, z, b, [], rfl, rfl, .inr rfl, by omega, by simp, HX.out, HV.out, sec_size, cont_sec HV.out, .inl (by omega), S9, G9, Rw.nil _ _, t9, gA9⟩
          · skip
            have ZX := Own.new y4 28 #[.int .i64 (L + 1), .int .i64 z1, .int .i64 b1]
            go_wp2_with (at_builtin; refine wpList_append_own _ rfl _ _ 48 rfl (GB + 1) 28 i0 (.agg #[.int .i64 0, .int .i64 0, .int .i64 0]) 3 24 Try.underlying48 hi hz0 hz1 hz2 rfl (by decide) _ _ _ rfl (World.ownsRow.alloc RW _) ⟨y4.heap.size, 0, none⟩ 1 1 [.int .i64 (L + 1), .int .i64 z1, .int .i64 b1] rfl rfl ?c1 ?c2 ?c3 ?c4 ?c5 ?_)
            case c1 =>
              intro j u hj
              have hj3 : j = 0 ∨ j = 1 ∨ j = 2 := by
                have := (List.getElem?_eq_some_iff.1 hj).1
                simp at this
                omega
              rcases hj3 with rfl | rfl | rfl
              · exact (ZX.cell 0).trans hj
              · exact (ZX.cell 1).trans hj
              · exact (ZX.cell 2).trans hj
            case c2 =>
              intro u hu
              simp at hu
              rcases hu with rfl | rfl | rfl <;> rfl
            case c3 => unfold maxLen; omega
            case c4 => omega
            case c5 => simp; omega
            intro v5 w5 hown5 hg5 _
            have hr5 := Rw.above RW
            have S5 := Own.keptA (S.alloc (.cells #[.int .i64 (L + 1), .int .i64 z1, .int .i64 b1] 28)) hg5 hr5 (by omega)
            have H5 := Own.keptA (G.alloc (.cells #[.int .i64 (L + 1), .int .i64 z1, .int .i64 b1] 28)) hg5 hr5 (by omega)
            have t5 := Tp.keptA (tp.alloc (.cells #[.int .i64 (L + 1), .int .i64 z1, .int .i64 b1] 28)) hg5 hr5 (by omega)
            have gA5 := Grew.keptA (gA.alloc (.cells #[.int .i64 (L + 1), .int .i64 z1, .int .i64 b1] 28)) hg5 hr5 (by omega)
            have RW5 := Rw.snoc (ts := ts) hown5
            clear hg5 hown5 hr5 ZX
            go_wp2_with fail
            go_meet
            exact ⟨0, q, z, b, s, cq, cz, cb, ts ++ [((L : Int) + 1, z1, b1)], rfl, rfl, .inl rfl, by omega, by simp; omega, HV.out, HC.out, HS.out, HCT.out, (by rcases HCD.out with h | h | h <;> first | exact .inl h | exact .inr (.inl h) | exact .inr (.inr (List.mem_append_left _ h))), S5, H5, RW5, t5, gA5⟩
          · skip
            go_upto_region 27 with fail
            replace S := S.set 1 (.string (secS (L + 1) z1 b1 f))
            replace G := G.far (p := ⟨SB, 1, none⟩) (by simp; omega) (.string (secS (L + 1) z1 b1 f))
            replace X := X.far (p := ⟨SB, 1, none⟩) (by simp; omega) (.string (secS (L + 1) z1 b1 f))
            replace RW := RW.set (p := ⟨SB, 1, none⟩) (by simp; omega) (.string (secS (L + 1) z1 b1 f))
            replace tp := tp.set (p := ⟨SB, 1, none⟩) (by simp; omega) (.string (secS (L + 1) z1 b1 f))
            replace gA := gA.set (p := ⟨SB, 1, none⟩) (by simp; omega) (.string (secS (L + 1) z1 b1 f))
            clear S0 S1 S2 S3 G0 G1 G2 G3 G4 G5 X0 X1 X2 X3 X4 X5
            generalize World.setCell y4 ⟨SB, 1, none⟩ (.string (secS (L + 1) z1 b1 f)) = y9 at *
            obtain ⟨X0, X1, X2, X3, X4, X5⟩ := X.three
            have l_X9 := X.lt
            have l_G9 := G.lt
            have l_S9 := S.lt
            have l_tp9 := tp.lt
            have ZX := Own.new y9 28 #[.int .i64 (L + 1), .int .i64 z1, .int .i64 b1]
            go_wp2_with (at_builtin; refine wpList_append_own _ rfl _ _ 48 rfl (GB + 1) 28 i0 (.agg #[.int .i64 0, .int .i64 0, .int .i64 0]) 3 24 Try.underlying48 hi hz0 hz1 hz2 rfl (by decide) _ _ _ rfl (World.ownsRow.alloc RW _) ⟨y9.heap.size, 0, none⟩ 1 1 [.int .i64 (L + 1), .int .i64 z1, .int .i64 b1] rfl rfl ?c1 ?c2 ?c3 ?c4 ?c5 ?_)
            case c1 =>
              intro j u hj
              have hj3 : j = 0 ∨ j = 1 ∨ j = 2 := by
                have := (List.getElem?_eq_some_iff.1 hj).1
                simp at this
                omega
              rcases hj3 with rfl | rfl | rfl
              · exact (ZX.cell 0).trans hj
              · exact (ZX.cell 1).trans hj
              · exact (ZX.cell 2).trans hj
            case c2 =>
              intro u hu
              simp at hu
              rcases hu with rfl | rfl | rfl <;> rfl
            case c3 => unfold maxLen; omega
            case c4 => omega
            case c5 => simp; omega
            intro v5 w5 hown5 hg5 _
            have hr5 := Rw.above RW
            have S5 := Own.keptA (S.alloc (.cells #[.int .i64 (L + 1), .int .i64 z1, .int .i64 b1] 28)) hg5 hr5 (by omega)
            have H5 := Own.keptA (G.alloc (.cells #[.int .i64 (L + 1), .int .i64 z1, .int .i64 b1] 28)) hg5 hr5 (by omega)
            have t5 := Tp.keptA (tp.alloc (.cells #[.int .i64 (L + 1), .int .i64 z1, .int .i64 b1] 28)) hg5 hr5 (by omega)
            have gA5 := Grew.keptA (gA.alloc (.cells #[.int .i64 (L + 1), .int .i64 z1, .int .i64 b1] 28)) hg5 hr5 (by omega)
            have RW5 := Rw.snoc (ts := ts) hown5
            clear hg5 hown5 hr5 ZX
            go_wp2_with fail
            go_meet
            exact ⟨0, q, z, b, (secS (L + 1) z1 b1 f), L + 1, z1, b1, ts ++ [((L : Int) + 1, z1, b1)], rfl, rfl, .inl rfl, by omega, by simp; omega, HV.out, HX.out, sec_size, (cont_sec HX.out), (.inr (.inr (List.mem_append_right _ (List.mem_singleton.2 rfl)))), S5, H5, RW5, t5, gA5⟩
          · skip
            go_wp2_with fail
            with_reducible refine (next_x _ _ _ _ (by omega) (by omega) tp).mono ?_
            rintro e y5 ⟨h, h0, h1, rfl, t_y5, g_y5⟩
            have s_y5 : y4.grownBy y5 (some (w.heap.size)) := by first | exact g_y5 | exact grown_trans (grown_alloc (grown_refl _ _) _) g_y5 | exact grown_trans (grown_alloc (grown_alloc (grown_refl _ _) _) _) g_y5 | exact grown_trans (grown_drew (grown_refl _ _)) g_y5 | exact grown_trans (grown_drew (grown_alloc (grown_refl _ _) _)) g_y5
            have z_y5 := s_y5.size
            replace S := S.past s_y5 (by omega)
            clear S0 S1 S2 S3
            have l_S_y5 := S.lt
            replace G := G.past s_y5 (by omega)
            clear G0 G1 G2 G3 G4 G5
            have l_G_y5 := G.lt
            replace RW := RW.past s_y5 (by omega)
            replace X := X.past s_y5 (by omega)
            clear X0 X1 X2 X3 X4 X5
            have l_X_y5 := X.lt
            obtain ⟨S0, S1, S2, S3⟩ := S.two
            obtain ⟨G0, G1, G2, G3, G4, G5⟩ := G.three
            obtain ⟨X0, X1, X2, X3, X4, X5⟩ := X.three
            replace gA := gA.past s_y5 hbA
            clear tp
            have tp := t_y5
            have l_tp_y5 := tp.lt
            clear g_y5 s_y5 t_y5
            have hhc : h = 0 ∨ h = 1 := by omega
            clear h0 h1
            rcases hhc with rfl | rfl
            · skip
              go_wp2_with fail
              with_reducible refine (torn_all _ _ _ _).mono ?_
              rintro e y6 ⟨rfl, g_y6⟩
              have s_y6 : Grew y5 y6 := by first | exact g_y6 | exact ((Grew.refl _).alloc _).trans g_y6 | exact (((Grew.refl _).alloc _).alloc _).trans g_y6 | exact (Grew.refl _).drew.trans g_y6 | exact ((Grew.refl _).alloc _).drew.trans g_y6 | exact ((Grew.refl _).drewN _).trans g_y6
              have z_y6 := s_y6.size
              replace S := S.grew s_y6
              clear S0 S1 S2 S3
              have l_S_y6 := S.lt
              replace G := G.grew s_y6
              clear G0 G1 G2 G3 G4 G5
              have l_G_y6 := G.lt
              replace RW := RW.grew s_y6
              replace X := X.grew s_y6
              clear X0 X1 X2 X3 X4 X5
              have l_X_y6 := X.lt
              obtain ⟨S0, S1, S2, S3⟩ := S.two
              obtain ⟨G0, G1, G2, G3, G4, G5⟩ := G.three
              obtain ⟨X0, X1, X2, X3, X4, X5⟩ := X.three
              replace gA := gA.trans s_y6
              replace tp := tp.grew s_y6
              clear g_y6 s_y6
              go_upto_region 30 with fail
              replace S := S.set 1 (.string (tnS s (secS (L + 1) z1 b1 f) 0))
              replace G := G.far (p := ⟨SB, 1, none⟩) (by simp; omega) (.string (tnS s (secS (L + 1) z1 b1 f) 0))
              replace X := X.far (p := ⟨SB, 1, none⟩) (by simp; omega) (.string (tnS s (secS (L + 1) z1 b1 f) 0))
              replace RW := RW.set (p := ⟨SB, 1, none⟩) (by simp; omega) (.string (tnS s (secS (L + 1) z1 b1 f) 0))
              replace tp := tp.set (p := ⟨SB, 1, none⟩) (by simp; omega) (.string (tnS s (secS (L + 1) z1 b1 f) 0))
              replace gA := gA.set (p := ⟨SB, 1, none⟩) (by simp; omega) (.string (tnS s (secS (L + 1) z1 b1 f) 0))
              clear S0 S1 S2 S3 G0 G1 G2 G3 G4 G5 X0 X1 X2 X3 X4 X5
              generalize World.setCell y6 ⟨SB, 1, none⟩ (.string (tnS s (secS (L + 1) z1 b1 f) 0)) = y9 at *
              obtain ⟨X0, X1, X2, X3, X4, X5⟩ := X.three
              have l_X9 := X.lt
              have l_G9 := G.lt
              have l_S9 := S.lt
              have l_tp9 := tp.lt
              have ZX := Own.new y9 28 #[.int .i64 (L + 1), .int .i64 z1, .int .i64 b1]
              go_wp2_with (at_builtin; refine wpList_append_own _ rfl _ _ 48 rfl (GB + 1) 28 i0 (.agg #[.int .i64 0, .int .i64 0, .int .i64 0]) 3 24 Try.underlying48 hi hz0 hz1 hz2 rfl (by decide) _ _ _ rfl (World.ownsRow.alloc RW _) ⟨y9.heap.size, 0, none⟩ 1 1 [.int .i64 (L + 1), .int .i64 z1, .int .i64 b1] rfl rfl ?c1 ?c2 ?c3 ?c4 ?c5 ?_)
              case c1 =>
                intro j u hj
                have hj3 : j = 0 ∨ j = 1 ∨ j = 2 := by
                  have := (List.getElem?_eq_some_iff.1 hj).1
                  simp at this
                  omega
                rcases hj3 with rfl | rfl | rfl
                · exact (ZX.cell 0).trans hj
                · exact (ZX.cell 1).trans hj
                · exact (ZX.cell 2).trans hj
              case c2 =>
                intro u hu
                simp at hu
                rcases hu with rfl | rfl | rfl <;> rfl
              case c3 => unfold maxLen; omega
              case c4 => omega
              case c5 => simp; omega
              intro v5 w5 hown5 hg5 _
              have hr5 := Rw.above RW
              have S5 := Own.keptA (S.alloc (.cells #[.int .i64 (L + 1), .int .i64 z1, .int .i64 b1] 28)) hg5 hr5 (by omega)
              have H5 := Own.keptA (G.alloc (.cells #[.int .i64 (L + 1), .int .i64 z1, .int .i64 b1] 28)) hg5 hr5 (by omega)
              have t5 := Tp.keptA (tp.alloc (.cells #[.int .i64 (L + 1), .int .i64 z1, .int .i64 b1] 28)) hg5 hr5 (by omega)
              have gA5 := Grew.keptA (gA.alloc (.cells #[.int .i64 (L + 1), .int .i64 z1, .int .i64 b1] 28)) hg5 hr5 (by omega)
              have RW5 := Rw.snoc (ts := ts) hown5
              clear hg5 hown5 hr5 ZX
              go_wp2_with fail
              go_meet
              exact ⟨0, q, z, b, (tnS s (secS (L + 1) z1 b1 f) 0), L + 1, z1, b1, ts ++ [((L : Int) + 1, z1, b1)], rfl, rfl, .inl rfl, by omega, by simp; omega, HV.out, HX.out, (torn_new HS.out HX.out).1, (torn_new HS.out HX.out).2.1, (.inr (.inr (List.mem_append_right _ (List.mem_singleton.2 rfl)))), S5, H5, RW5, t5, gA5⟩
            · skip
              go_wp2_with fail
              with_reducible refine (torn_all _ _ _ _).mono ?_
              rintro e y6 ⟨rfl, g_y6⟩
              have s_y6 : Grew y5 y6 := by first | exact g_y6 | exact ((Grew.refl _).alloc _).trans g_y6 | exact (((Grew.refl _).alloc _).alloc _).trans g_y6 | exact (Grew.refl _).drew.trans g_y6 | exact ((Grew.refl _).alloc _).drew.trans g_y6 | exact ((Grew.refl _).drewN _).trans g_y6
              have z_y6 := s_y6.size
              replace S := S.grew s_y6
              clear S0 S1 S2 S3
              have l_S_y6 := S.lt
              replace G := G.grew s_y6
              clear G0 G1 G2 G3 G4 G5
              have l_G_y6 := G.lt
              replace RW := RW.grew s_y6
              replace X := X.grew s_y6
              clear X0 X1 X2 X3 X4 X5
              have l_X_y6 := X.lt
              obtain ⟨S0, S1, S2, S3⟩ := S.two
              obtain ⟨G0, G1, G2, G3, G4, G5⟩ := G.three
              obtain ⟨X0, X1, X2, X3, X4, X5⟩ := X.three
              replace gA := gA.trans s_y6
              replace tp := tp.grew s_y6
              clear g_y6 s_y6
              go_upto_region 30 with fail
              replace S := S.set 1 (.string (tnS s (secS (L + 1) z1 b1 f) 1))
              replace G := G.far (p := ⟨SB, 1, none⟩) (by simp; omega) (.string (tnS s (secS (L + 1) z1 b1 f) 1))
              replace X := X.far (p := ⟨SB, 1, none⟩) (by simp; omega) (.string (tnS s (secS (L + 1) z1 b1 f) 1))
              replace RW := RW.set (p := ⟨SB, 1, none⟩) (by simp; omega) (.string (tnS s (secS (L + 1) z1 b1 f) 1))
              replace tp := tp.set (p := ⟨SB, 1, none⟩) (by simp; omega) (.string (tnS s (secS (L + 1) z1 b1 f) 1))
              replace gA := gA.set (p := ⟨SB, 1, none⟩) (by simp; omega) (.string (tnS s (secS (L + 1) z1 b1 f) 1))
              clear S0 S1 S2 S3 G0 G1 G2 G3 G4 G5 X0 X1 X2 X3 X4 X5
              generalize World.setCell y6 ⟨SB, 1, none⟩ (.string (tnS s (secS (L + 1) z1 b1 f) 1)) = y9 at *
              obtain ⟨X0, X1, X2, X3, X4, X5⟩ := X.three
              have l_X9 := X.lt
              have l_G9 := G.lt
              have l_S9 := S.lt
              have l_tp9 := tp.lt
              have ZX := Own.new y9 28 #[.int .i64 (L + 1), .int .i64 z1, .int .i64 b1]
              go_wp2_with (at_builtin; refine wpList_append_own _ rfl _ _ 48 rfl (GB + 1) 28 i0 (.agg #[.int .i64 0, .int .i64 0, .int .i64 0]) 3 24 Try.underlying48 hi hz0 hz1 hz2 rfl (by decide) _ _ _ rfl (World.ownsRow.alloc RW _) ⟨y9.heap.size, 0, none⟩ 1 1 [.int .i64 (L + 1), .int .i64 z1, .int .i64 b1] rfl rfl ?c1 ?c2 ?c3 ?c4 ?c5 ?_)
              case c1 =>
                intro j u hj
                have hj3 : j = 0 ∨ j = 1 ∨ j = 2 := by
                  have := (List.getElem?_eq_some_iff.1 hj).1
                  simp at this
                  omega
                rcases hj3 with rfl | rfl | rfl
                · exact (ZX.cell 0).trans hj
                · exact (ZX.cell 1).trans hj
                · exact (ZX.cell 2).trans hj
              case c2 =>
                intro u hu
                simp at hu
                rcases hu with rfl | rfl | rfl <;> rfl
              case c3 => unfold maxLen; omega
              case c4 => omega
              case c5 => simp; omega
              intro v5 w5 hown5 hg5 _
              have hr5 := Rw.above RW
              have S5 := Own.keptA (S.alloc (.cells #[.int .i64 (L + 1), .int .i64 z1, .int .i64 b1] 28)) hg5 hr5 (by omega)
              have H5 := Own.keptA (G.alloc (.cells #[.int .i64 (L + 1), .int .i64 z1, .int .i64 b1] 28)) hg5 hr5 (by omega)
              have t5 := Tp.keptA (tp.alloc (.cells #[.int .i64 (L + 1), .int .i64 z1, .int .i64 b1] 28)) hg5 hr5 (by omega)
              have gA5 := Grew.keptA (gA.alloc (.cells #[.int .i64 (L + 1), .int .i64 z1, .int .i64 b1] 28)) hg5 hr5 (by omega)
              have RW5 := Rw.snoc (ts := ts) hown5
              clear hg5 hown5 hr5 ZX
              go_wp2_with fail
              go_meet
              exact ⟨0, q, z, b, (tnS s (secS (L + 1) z1 b1 f) 1), cq, cz, cb, ts ++ [((L : Int) + 1, z1, b1)], rfl, rfl, .inl rfl, by omega, by simp; omega, HV.out, HC.out, (torn_old HS.out HCT.out).1, (torn_old HS.out HCT.out).2.1, (by rcases HCD.out with h | h | h <;> first | exact .inl h | exact .inr (.inl h) | exact .inr (.inr (List.mem_append_left _ h))), S5, H5, RW5, t5, gA5⟩
        case rest =>
          clear S G RW tp gA S0 S1 S2 S3 G0 G1 G2 G3 G4 G5 X X0 X1 X2 X3 X4 X5 HV HC HS HCT HCD HX hqL htL
          obtain ⟨W, q, z, b, s, cq, cz, cb, ts, rfl, -, hW, hqL, htL, hv, hc, hs, hct, hcond, S, G, RW, tp, gA⟩ := hcut
          have l_S := S.lt
          have l_G := G.lt
          have l_tp := tp.lt
          have HV := Lib.hid hv
          have HC := Lib.hid hc
          have HS := Lib.hid hs
          have HCT := Lib.hid hct
          have HCD := Lib.hid hcond
          clear hv hc hs hct hcond
          obtain ⟨G0, G1, G2, G3, G4, G5⟩ := G.three
          obtain ⟨S0, S1, S2, S3⟩ := S.two
          go_wp2_with fail
          with_reducible refine (choose_inv W hW q z b cq cz cb f s ts _ HV.out hf HC.out HCT.out HCD.out).mono ?_
          rintro e y6 ⟨gq, gz, gb, gi, rfl, hgot, g6⟩
          have HGOT := Lib.hid hgot
          clear hgot S0 S1 S2 S3 G0 G1 G2 G3 G4 G5
          replace S := S.grew g6
          replace G := G.grew g6
          replace RW := RW.grew g6
          replace tp := tp.grew g6
          replace gA := gA.trans g6
          clear g6
          have R := Own.new y6 28 #[.int .i64 gq, .int .i64 gz, .int .i64 gb]
          replace S := S.alloc (.cells #[.int .i64 gq, .int .i64 gz, .int .i64 gb] 28)
          replace G := G.alloc (.cells #[.int .i64 gq, .int .i64 gz, .int .i64 gb] 28)
          replace RW := RW.alloc (.cells #[.int .i64 gq, .int .i64 gz, .int .i64 gb] 28)
          replace tp := tp.alloc (.cells #[.int .i64 gq, .int .i64 gz, .int .i64 gb] 28)
          replace gA := gA.alloc (.cells #[.int .i64 gq, .int .i64 gz, .int .i64 gb] 28)
          go_upto_region 32 with fail
          generalize hy7 : World.alloc y6 _ = y7 at *
          clear hy7
          obtain ⟨G0, G1, G2, G3, G4, G5⟩ := G.three
          obtain ⟨R0, R1, R2, R3, R4, R5⟩ := R.three
          have hN1 : 1 ≤ (N : Int) := by omega
          have hN8 : (N : Int) ≤ 8 := by omega
          go_cut [18] (FineCut gq gz gb q z b y7)
          case first =>
            have hcase : (gq = q ∧ gz = z ∧ gb = b) ∨ ((gq == q) = false) ∨ (gq = q ∧ (gz == z) = false) ∨ (gq = q ∧ gz = z ∧ (gb == b) = false) := by
              by_cases h1 : gq = q
              · by_cases h2 : gz = z
                · by_cases h3 : gb = b
                  · exact .inl ⟨h1, h2, h3⟩
                  · exact .inr (.inr (.inr ⟨h1, h2, beq_eq_false_iff_ne.2 h3⟩))
                · exact .inr (.inr (.inl ⟨h1, beq_eq_false_iff_ne.2 h2⟩))
              · exact .inr (.inl (beq_eq_false_iff_ne.2 h1))
            rcases hcase with ⟨rfl, rfl, rfl⟩ | h | ⟨rfl, h⟩ | ⟨rfl, rfl, h⟩
            · go_wp2_with fail
              go_meet
              exact ⟨rfl, true, rfl, fun _ => rfl⟩
            · go_wp2_with fail
              go_meet
              exact ⟨rfl, false, rfl, fun k => absurd k.1 (beq_eq_false_iff_ne.1 h)⟩
            · go_wp2_with fail
              go_meet
              exact ⟨rfl, false, rfl, fun k => absurd k.2.1 (beq_eq_false_iff_ne.1 h)⟩
            · go_wp2_with fail
              go_meet
              exact ⟨rfl, false, rfl, fun k => absurd k.2.2 (beq_eq_false_iff_ne.1 h)⟩
          case rest =>
            obtain ⟨rfl, b0, rfl, hfine⟩ := hcut
            have HFI := Lib.hid hfine
            clear hfine
            rcases Rw.view RW with ⟨rfl, rfl⟩ | ⟨gt, cap, n, T0, T1, T2, rfl, hn, hcells, hmem⟩
            · have hg := HGOT.out
              have hg2 : gq = q ∧ gz = z ∧ gb = b := by
                rcases hg with h | h
                · exact h
                · simp at h
              obtain ⟨rfl, rfl, rfl⟩ := hg2
              clear hg
              have hb0 : b0 = true := HFI.out ⟨rfl, rfl, rfl⟩
              subst hb0
              go_wp2_with fail
              refine wp_loop_rounds 1 ?_; rw [rounds_succ]
              go_wp2_with fail
              go_roundw
              case rel => exact ⟨N - 1, L + 1, by rw [show ((N : Int) - 1) = ((N - 1 : Nat) : Int) from by omega], by omega, W, gq, gz, gb, s, cq, cz, cb, [], rfl, rfl, hW, hqL, htL, HV.out, HC.out, HS.out, HCT.out, HCD.out, S, G, RW, tp, gA⟩
              case measure => simp [intOf]; omega
            · have HM := Lib.hid hmem
              have HCL := Lib.hid hcells
              have hnL : n ≤ 9 := by omega
              have HN := Lib.hid hn
              clear hmem hcells hn
              go_wp2_with fail
              go_loopw [18, 19] (fun v18 v19 wk => ∃ (k : Nat) (bb : Bool) (d : Nat), v18 = .bool bb ∧ v19 = .int .i64 k ∧ k ≤ n ∧ (bb = true ∨ ∃ j, k ≤ j ∧ j < n ∧ T0 j = gq ∧ T1 j = gz ∧ T2 j = gb) ∧ wk = wc.drewN d) (fun _ v19 _ => n - (intOf v19).toNat)
              case atStart =>
                refine ⟨0, _, 0, rfl, rfl, by omega, ?_, rfl⟩
                rcases HGOT.out with h | h
                · exact .inl (HFI.out h)
                · right
                  obtain ⟨j, hj, e⟩ := HM.out _ _ _ h
                  exact ⟨j, by omega, hj, e⟩
              case round =>
                obtain ⟨k, bb, d, rfl, rfl, hk, hbb, rfl⟩ := hrel
                have HB := Lib.hid hbb
                clear hbb
                by_cases hlt : k < n
                · cases bb
                  · obtain ⟨c0, c1, c2⟩ := HCL.out k hlt
                    have hcase : (gq = T0 k ∧ gz = T1 k ∧ gb = T2 k) ∨ ((gq == T0 k) = false) ∨ (gq = T0 k ∧ (gz == T1 k) = false) ∨ (gq = T0 k ∧ gz = T1 k ∧ (gb == T2 k) = false) := by
                      by_cases h1 : gq = T0 k
                      · by_cases h2 : gz = T1 k
                        · by_cases h3 : gb = T2 k
                          · exact .inl ⟨h1, h2, h3⟩
                          · exact .inr (.inr (.inr ⟨h1, h2, beq_eq_false_iff_ne.2 h3⟩))
                        · exact .inr (.inr (.inl ⟨h1, beq_eq_false_iff_ne.2 h2⟩))
                      · exact .inr (.inl (beq_eq_false_iff_ne.2 h1))
                    rcases hcase with ⟨h1, h2, h3⟩ | h | ⟨h1, h⟩ | ⟨h1, h2, h⟩
                    all_goals
                      try rw [← h1] at c0
                      try rw [← h2] at c1
                      try rw [← h3] at c2
                      try have K1 := Lib.hid h1
                      try have K2 := Lib.hid h2
                      try have K3 := Lib.hid h3
                      try clear h1
                      try clear h2
                      try clear h3
                      go_wp2_with fail
                      go_quiet (fail)
                      go_wp2_with fail
                      go_roundw
                      case rel =>
                        refine ⟨k + 1, _, _, rfl, by go_num, by omega, ?_, rfl⟩
                        rcases HB.out with h' | ⟨j, hj, hjn, e0, e1, e2⟩
                        · exact absurd h' (by simp)
                        · by_cases hjk : j = k
                          · subst hjk
                            first
                              | exact .inl rfl
                              | exact absurd e0.symm (beq_eq_false_iff_ne.1 h)
                              | exact absurd e1.symm (beq_eq_false_iff_ne.1 h)
                              | exact absurd e2.symm (beq_eq_false_iff_ne.1 h)
                          · exact .inr ⟨j, by omega, hjn, e0, e1, e2⟩
                      case measure => simp [intOf]; omega
                  · go_wp2_with fail
                    go_quiet (fail)
                    go_wp2_with fail
                    go_roundw
                    case rel => exact ⟨k + 1, _, _, rfl, by go_num, by omega, .inl rfl, rfl⟩
                    case measure => simp [intOf]; omega
                · have hb : bb = true := by
                    rcases HB.out with h | ⟨j, hj, hjn, -⟩
                    · exact h
                    · omega
                  subst hb
                  go_wp2_with fail
                  go_roundw
                  case rel => exact ⟨N - 1, L + 1, by rw [show ((N : Int) - 1) = ((N - 1 : Nat) : Int) from by omega], by omega, W, q, z, b, s, cq, cz, cb, ts, rfl, rfl, hW, hqL, htL, HV.out, HC.out, HS.out, HCT.out, HCD.out, S.drewN _, G.drewN _, RW.drewN _, tp.drewN _, gA.drewN _⟩
                  case measure => simp [intOf]; omega
      · skip
        rw [pick1, pick1] at S
        clear S0 S1 S2 S3
        obtain ⟨S0, S1, S2, S3⟩ := S.two
        go_wp2_with fail
        with_reducible refine (next_x _ _ _ _ (by omega) (by omega) tp).mono ?_
        rintro e y4 ⟨p, p0, p1, rfl, t_y4, g_y4⟩
        have s_y4 : y3.grownBy y4 (some (w.heap.size)) := by first | exact g_y4 | exact grown_trans (grown_alloc (grown_refl _ _) _) g_y4 | exact grown_trans (grown_alloc (grown_alloc (grown_refl _ _) _) _) g_y4 | exact grown_trans (grown_drew (grown_refl _ _)) g_y4 | exact grown_trans (grown_drew (grown_alloc (grown_refl _ _) _)) g_y4
        have z_y4 := s_y4.size
        replace S := S.past s_y4 (by omega)
        clear S0 S1 S2 S3
        have l_S_y4 := S.lt
        replace G := G.past s_y4 (by omega)
        clear G0 G1 G2 G3 G4 G5
        have l_G_y4 := G.lt
        replace RW := RW.past s_y4 (by omega)
        replace X := X.past s_y4 (by omega)
        clear X0 X1 X2 X3 X4 X5
        have l_X_y4 := X.lt
        obtain ⟨S0, S1, S2, S3⟩ := S.two
        obtain ⟨G0, G1, G2, G3, G4, G5⟩ := G.three
        obtain ⟨X0, X1, X2, X3, X4, X5⟩ := X.three
        replace gA := gA.past s_y4 hbA
        clear tp
        have tp := t_y4
        have l_tp_y4 := tp.lt
        clear g_y4 s_y4 t_y4
        have hpc : p = 0 ∨ p = 1 ∨ p = 2 ∨ p = 3 ∨ p = 4 := by omega
        clear p0 p1
        go_upto_block 2 with fail
        go_cut [7, 9] (TriesCut w SB GB f (L + 1))
        case first =>
          rcases hpc with rfl | rfl | rfl | rfl | rfl
          · go_wp2_with fail
            go_meet
            have hne : SB ≠ GB := by omega
            have S' : Own (y4.setCell ⟨SB, 0, none⟩ (.string (secS (L + 1) z1 b1 f))) SB 46 #[.string (secS (L + 1) z1 b1 f), .string (secS q z b f)] := S.set 0 (.string (secS (L + 1) z1 b1 f))
            have S9 := ((S'.far (p := ⟨GB, 0, none⟩) hne (.int .i64 (L + 1))).far (p := ⟨GB, 1, none⟩) hne (.int .i64 z1)).far (p := ⟨GB, 2, none⟩) hne (.int .i64 b1)
            have G9 := (G.far (p := ⟨SB, 0, none⟩) (Ne.symm hne) (.string (secS (L + 1) z1 b1 f))).store3 (x := .int .i64 (L + 1)) (y := .int .i64 z1) (z := .int .i64 b1) rfl
            have t9 := (tp.set (p := ⟨SB, 0, none⟩) (by simp; omega) (.string (secS (L + 1) z1 b1 f))).far3 (x := .int .i64 (L + 1)) (y := .int .i64 z1) (z := .int .i64 b1) (b := GB) rfl (by omega)
            have gA9 := (gA.set (p := ⟨SB, 0, none⟩) (by simp; omega) (.string (secS (L + 1) z1 b1 f))).far3 (x := .int .i64 (L + 1)) (y := .int .i64 z1) (z := .int .i64 b1) (b := GB) rfl (by omega)
            exact ⟨0, L + 1, z1, b1, (secS q z b f), q, z, b, [], rfl, rfl, .inl rfl, by omega, by simp, HX.out, HV.out, sec_size, cont_sec HV.out, .inl (by omega), S9, G9, Rw.nil _ _, t9, gA9⟩
          · go_wp2_with fail
            go_meet
            have hne : SB ≠ GB := by omega
            have S' : Own (y4.setCell ⟨SB, 0, none⟩ (.string (secS (L + 1) z1 b1 f))) SB 46 #[.string (secS (L + 1) z1 b1 f), .string (secS q z b f)] := S.set 0 (.string (secS (L + 1) z1 b1 f))
            have S9 := ((S'.far (p := ⟨GB, 0, none⟩) hne (.int .i64 (L + 1))).far (p := ⟨GB, 1, none⟩) hne (.int .i64 z1)).far (p := ⟨GB, 2, none⟩) hne (.int .i64 b1)
            have G9 := (G.far (p := ⟨SB, 0, none⟩) (Ne.symm hne) (.string (secS (L + 1) z1 b1 f))).store3 (x := .int .i64 (L + 1)) (y := .int .i64 z1) (z := .int .i64 b1) rfl
            have t9 := (tp.set (p := ⟨SB, 0, none⟩) (by simp; omega) (.string (secS (L + 1) z1 b1 f))).far3 (x := .int .i64 (L + 1)) (y := .int .i64 z1) (z := .int .i64 b1) (b := GB) rfl (by omega)
            have gA9 := (gA.set (p := ⟨SB, 0, none⟩) (by simp; omega) (.string (secS (L + 1) z1 b1 f))).far3 (x := .int .i64 (L + 1)) (y := .int .i64 z1) (z := .int .i64 b1) (b := GB) rfl (by omega)
            exact ⟨0, L + 1, z1, b1, (secS q z b f), q, z, b, [], rfl, rfl, .inl rfl, by omega, by simp, HX.out, HV.out, sec_size, cont_sec HV.out, .inl (by omega), S9, G9, Rw.nil _ _, t9, gA9⟩
          · skip
            have ZX := Own.new y4 28 #[.int .i64 (L + 1), .int .i64 z1, .int .i64 b1]
            go_wp2_with (at_builtin; refine wpList_append_own _ rfl _ _ 48 rfl (GB + 1) 28 i0 (.agg #[.int .i64 0, .int .i64 0, .int .i64 0]) 3 24 Try.underlying48 hi hz0 hz1 hz2 rfl (by decide) _ _ _ rfl (World.ownsRow.alloc RW _) ⟨y4.heap.size, 0, none⟩ 1 1 [.int .i64 (L + 1), .int .i64 z1, .int .i64 b1] rfl rfl ?c1 ?c2 ?c3 ?c4 ?c5 ?_)
            case c1 =>
              intro j u hj
              have hj3 : j = 0 ∨ j = 1 ∨ j = 2 := by
                have := (List.getElem?_eq_some_iff.1 hj).1
                simp at this
                omega
              rcases hj3 with rfl | rfl | rfl
              · exact (ZX.cell 0).trans hj
              · exact (ZX.cell 1).trans hj
              · exact (ZX.cell 2).trans hj
            case c2 =>
              intro u hu
              simp at hu
              rcases hu with rfl | rfl | rfl <;> rfl
            case c3 => unfold maxLen; omega
            case c4 => omega
            case c5 => simp; omega
            intro v5 w5 hown5 hg5 _
            have hr5 := Rw.above RW
            have S5 := Own.keptA (S.alloc (.cells #[.int .i64 (L + 1), .int .i64 z1, .int .i64 b1] 28)) hg5 hr5 (by omega)
            have H5 := Own.keptA (G.alloc (.cells #[.int .i64 (L + 1), .int .i64 z1, .int .i64 b1] 28)) hg5 hr5 (by omega)
            have t5 := Tp.keptA (tp.alloc (.cells #[.int .i64 (L + 1), .int .i64 z1, .int .i64 b1] 28)) hg5 hr5 (by omega)
            have gA5 := Grew.keptA (gA.alloc (.cells #[.int .i64 (L + 1), .int .i64 z1, .int .i64 b1] 28)) hg5 hr5 (by omega)
            have RW5 := Rw.snoc (ts := ts) hown5
            clear hg5 hown5 hr5 ZX
            go_wp2_with fail
            go_meet
            exact ⟨1, q, z, b, s, cq, cz, cb, ts ++ [((L : Int) + 1, z1, b1)], rfl, rfl, .inr rfl, by omega, by simp; omega, HV.out, HC.out, HS.out, HCT.out, (by rcases HCD.out with h | h | h <;> first | exact .inl h | exact .inr (.inl h) | exact .inr (.inr (List.mem_append_left _ h))), S5, H5, RW5, t5, gA5⟩
          · skip
            go_upto_region 27 with fail
            replace S := S.set 0 (.string (secS (L + 1) z1 b1 f))
            replace G := G.far (p := ⟨SB, 0, none⟩) (by simp; omega) (.string (secS (L + 1) z1 b1 f))
            replace X := X.far (p := ⟨SB, 0, none⟩) (by simp; omega) (.string (secS (L + 1) z1 b1 f))
            replace RW := RW.set (p := ⟨SB, 0, none⟩) (by simp; omega) (.string (secS (L + 1) z1 b1 f))
            replace tp := tp.set (p := ⟨SB, 0, none⟩) (by simp; omega) (.string (secS (L + 1) z1 b1 f))
            replace gA := gA.set (p := ⟨SB, 0, none⟩) (by simp; omega) (.string (secS (L + 1) z1 b1 f))
            clear S0 S1 S2 S3 G0 G1 G2 G3 G4 G5 X0 X1 X2 X3 X4 X5
            generalize World.setCell y4 ⟨SB, 0, none⟩ (.string (secS (L + 1) z1 b1 f)) = y9 at *
            obtain ⟨X0, X1, X2, X3, X4, X5⟩ := X.three
            have l_X9 := X.lt
            have l_G9 := G.lt
            have l_S9 := S.lt
            have l_tp9 := tp.lt
            have ZX := Own.new y9 28 #[.int .i64 (L + 1), .int .i64 z1, .int .i64 b1]
            go_wp2_with (at_builtin; refine wpList_append_own _ rfl _ _ 48 rfl (GB + 1) 28 i0 (.agg #[.int .i64 0, .int .i64 0, .int .i64 0]) 3 24 Try.underlying48 hi hz0 hz1 hz2 rfl (by decide) _ _ _ rfl (World.ownsRow.alloc RW _) ⟨y9.heap.size, 0, none⟩ 1 1 [.int .i64 (L + 1), .int .i64 z1, .int .i64 b1] rfl rfl ?c1 ?c2 ?c3 ?c4 ?c5 ?_)
            case c1 =>
              intro j u hj
              have hj3 : j = 0 ∨ j = 1 ∨ j = 2 := by
                have := (List.getElem?_eq_some_iff.1 hj).1
                simp at this
                omega
              rcases hj3 with rfl | rfl | rfl
              · exact (ZX.cell 0).trans hj
              · exact (ZX.cell 1).trans hj
              · exact (ZX.cell 2).trans hj
            case c2 =>
              intro u hu
              simp at hu
              rcases hu with rfl | rfl | rfl <;> rfl
            case c3 => unfold maxLen; omega
            case c4 => omega
            case c5 => simp; omega
            intro v5 w5 hown5 hg5 _
            have hr5 := Rw.above RW
            have S5 := Own.keptA (S.alloc (.cells #[.int .i64 (L + 1), .int .i64 z1, .int .i64 b1] 28)) hg5 hr5 (by omega)
            have H5 := Own.keptA (G.alloc (.cells #[.int .i64 (L + 1), .int .i64 z1, .int .i64 b1] 28)) hg5 hr5 (by omega)
            have t5 := Tp.keptA (tp.alloc (.cells #[.int .i64 (L + 1), .int .i64 z1, .int .i64 b1] 28)) hg5 hr5 (by omega)
            have gA5 := Grew.keptA (gA.alloc (.cells #[.int .i64 (L + 1), .int .i64 z1, .int .i64 b1] 28)) hg5 hr5 (by omega)
            have RW5 := Rw.snoc (ts := ts) hown5
            clear hg5 hown5 hr5 ZX
            go_wp2_with fail
            go_meet
            exact ⟨1, q, z, b, (secS (L + 1) z1 b1 f), L + 1, z1, b1, ts ++ [((L : Int) + 1, z1, b1)], rfl, rfl, .inr rfl, by omega, by simp; omega, HV.out, HX.out, sec_size, (cont_sec HX.out), (.inr (.inr (List.mem_append_right _ (List.mem_singleton.2 rfl)))), S5, H5, RW5, t5, gA5⟩
          · skip
            go_wp2_with fail
            with_reducible refine (next_x _ _ _ _ (by omega) (by omega) tp).mono ?_
            rintro e y5 ⟨h, h0, h1, rfl, t_y5, g_y5⟩
            have s_y5 : y4.grownBy y5 (some (w.heap.size)) := by first | exact g_y5 | exact grown_trans (grown_alloc (grown_refl _ _) _) g_y5 | exact grown_trans (grown_alloc (grown_alloc (grown_refl _ _) _) _) g_y5 | exact grown_trans (grown_drew (grown_refl _ _)) g_y5 | exact grown_trans (grown_drew (grown_alloc (grown_refl _ _) _)) g_y5
            have z_y5 := s_y5.size
            replace S := S.past s_y5 (by omega)
            clear S0 S1 S2 S3
            have l_S_y5 := S.lt
            replace G := G.past s_y5 (by omega)
            clear G0 G1 G2 G3 G4 G5
            have l_G_y5 := G.lt
            replace RW := RW.past s_y5 (by omega)
            replace X := X.past s_y5 (by omega)
            clear X0 X1 X2 X3 X4 X5
            have l_X_y5 := X.lt
            obtain ⟨S0, S1, S2, S3⟩ := S.two
            obtain ⟨G0, G1, G2, G3, G4, G5⟩ := G.three
            obtain ⟨X0, X1, X2, X3, X4, X5⟩ := X.three
            replace gA := gA.past s_y5 hbA
            clear tp
            have tp := t_y5
            have l_tp_y5 := tp.lt
            clear g_y5 s_y5 t_y5
            have hhc : h = 0 ∨ h = 1 := by omega
            clear h0 h1
            rcases hhc with rfl | rfl
            · skip
              go_wp2_with fail
              with_reducible refine (torn_all _ _ _ _).mono ?_
              rintro e y6 ⟨rfl, g_y6⟩
              have s_y6 : Grew y5 y6 := by first | exact g_y6 | exact ((Grew.refl _).alloc _).trans g_y6 | exact (((Grew.refl _).alloc _).alloc _).trans g_y6 | exact (Grew.refl _).drew.trans g_y6 | exact ((Grew.refl _).alloc _).drew.trans g_y6 | exact ((Grew.refl _).drewN _).trans g_y6
              have z_y6 := s_y6.size
              replace S := S.grew s_y6
              clear S0 S1 S2 S3
              have l_S_y6 := S.lt
              replace G := G.grew s_y6
              clear G0 G1 G2 G3 G4 G5
              have l_G_y6 := G.lt
              replace RW := RW.grew s_y6
              replace X := X.grew s_y6
              clear X0 X1 X2 X3 X4 X5
              have l_X_y6 := X.lt
              obtain ⟨S0, S1, S2, S3⟩ := S.two
              obtain ⟨G0, G1, G2, G3, G4, G5⟩ := G.three
              obtain ⟨X0, X1, X2, X3, X4, X5⟩ := X.three
              replace gA := gA.trans s_y6
              replace tp := tp.grew s_y6
              clear g_y6 s_y6
              go_upto_region 30 with fail
              replace S := S.set 0 (.string (tnS s (secS (L + 1) z1 b1 f) 0))
              replace G := G.far (p := ⟨SB, 0, none⟩) (by simp; omega) (.string (tnS s (secS (L + 1) z1 b1 f) 0))
              replace X := X.far (p := ⟨SB, 0, none⟩) (by simp; omega) (.string (tnS s (secS (L + 1) z1 b1 f) 0))
              replace RW := RW.set (p := ⟨SB, 0, none⟩) (by simp; omega) (.string (tnS s (secS (L + 1) z1 b1 f) 0))
              replace tp := tp.set (p := ⟨SB, 0, none⟩) (by simp; omega) (.string (tnS s (secS (L + 1) z1 b1 f) 0))
              replace gA := gA.set (p := ⟨SB, 0, none⟩) (by simp; omega) (.string (tnS s (secS (L + 1) z1 b1 f) 0))
              clear S0 S1 S2 S3 G0 G1 G2 G3 G4 G5 X0 X1 X2 X3 X4 X5
              generalize World.setCell y6 ⟨SB, 0, none⟩ (.string (tnS s (secS (L + 1) z1 b1 f) 0)) = y9 at *
              obtain ⟨X0, X1, X2, X3, X4, X5⟩ := X.three
              have l_X9 := X.lt
              have l_G9 := G.lt
              have l_S9 := S.lt
              have l_tp9 := tp.lt
              have ZX := Own.new y9 28 #[.int .i64 (L + 1), .int .i64 z1, .int .i64 b1]
              go_wp2_with (at_builtin; refine wpList_append_own _ rfl _ _ 48 rfl (GB + 1) 28 i0 (.agg #[.int .i64 0, .int .i64 0, .int .i64 0]) 3 24 Try.underlying48 hi hz0 hz1 hz2 rfl (by decide) _ _ _ rfl (World.ownsRow.alloc RW _) ⟨y9.heap.size, 0, none⟩ 1 1 [.int .i64 (L + 1), .int .i64 z1, .int .i64 b1] rfl rfl ?c1 ?c2 ?c3 ?c4 ?c5 ?_)
              case c1 =>
                intro j u hj
                have hj3 : j = 0 ∨ j = 1 ∨ j = 2 := by
                  have := (List.getElem?_eq_some_iff.1 hj).1
                  simp at this
                  omega
                rcases hj3 with rfl | rfl | rfl
                · exact (ZX.cell 0).trans hj
                · exact (ZX.cell 1).trans hj
                · exact (ZX.cell 2).trans hj
              case c2 =>
                intro u hu
                simp at hu
                rcases hu with rfl | rfl | rfl <;> rfl
              case c3 => unfold maxLen; omega
              case c4 => omega
              case c5 => simp; omega
              intro v5 w5 hown5 hg5 _
              have hr5 := Rw.above RW
              have S5 := Own.keptA (S.alloc (.cells #[.int .i64 (L + 1), .int .i64 z1, .int .i64 b1] 28)) hg5 hr5 (by omega)
              have H5 := Own.keptA (G.alloc (.cells #[.int .i64 (L + 1), .int .i64 z1, .int .i64 b1] 28)) hg5 hr5 (by omega)
              have t5 := Tp.keptA (tp.alloc (.cells #[.int .i64 (L + 1), .int .i64 z1, .int .i64 b1] 28)) hg5 hr5 (by omega)
              have gA5 := Grew.keptA (gA.alloc (.cells #[.int .i64 (L + 1), .int .i64 z1, .int .i64 b1] 28)) hg5 hr5 (by omega)
              have RW5 := Rw.snoc (ts := ts) hown5
              clear hg5 hown5 hr5 ZX
              go_wp2_with fail
              go_meet
              exact ⟨1, q, z, b, (tnS s (secS (L + 1) z1 b1 f) 0), L + 1, z1, b1, ts ++ [((L : Int) + 1, z1, b1)], rfl, rfl, .inr rfl, by omega, by simp; omega, HV.out, HX.out, (torn_new HS.out HX.out).1, (torn_new HS.out HX.out).2.1, (.inr (.inr (List.mem_append_right _ (List.mem_singleton.2 rfl)))), S5, H5, RW5, t5, gA5⟩
            · skip
              go_wp2_with fail
              with_reducible refine (torn_all _ _ _ _).mono ?_
              rintro e y6 ⟨rfl, g_y6⟩
              have s_y6 : Grew y5 y6 := by first | exact g_y6 | exact ((Grew.refl _).alloc _).trans g_y6 | exact (((Grew.refl _).alloc _).alloc _).trans g_y6 | exact (Grew.refl _).drew.trans g_y6 | exact ((Grew.refl _).alloc _).drew.trans g_y6 | exact ((Grew.refl _).drewN _).trans g_y6
              have z_y6 := s_y6.size
              replace S := S.grew s_y6
              clear S0 S1 S2 S3
              have l_S_y6 := S.lt
              replace G := G.grew s_y6
              clear G0 G1 G2 G3 G4 G5
              have l_G_y6 := G.lt
              replace RW := RW.grew s_y6
              replace X := X.grew s_y6
              clear X0 X1 X2 X3 X4 X5
              have l_X_y6 := X.lt
              obtain ⟨S0, S1, S2, S3⟩ := S.two
              obtain ⟨G0, G1, G2, G3, G4, G5⟩ := G.three
              obtain ⟨X0, X1, X2, X3, X4, X5⟩ := X.three
              replace gA := gA.trans s_y6
              replace tp := tp.grew s_y6
              clear g_y6 s_y6
              go_upto_region 30 with fail
              replace S := S.set 0 (.string (tnS s (secS (L + 1) z1 b1 f) 1))
              replace G := G.far (p := ⟨SB, 0, none⟩) (by simp; omega) (.string (tnS s (secS (L + 1) z1 b1 f) 1))
              replace X := X.far (p := ⟨SB, 0, none⟩) (by simp; omega) (.string (tnS s (secS (L + 1) z1 b1 f) 1))
              replace RW := RW.set (p := ⟨SB, 0, none⟩) (by simp; omega) (.string (tnS s (secS (L + 1) z1 b1 f) 1))
              replace tp := tp.set (p := ⟨SB, 0, none⟩) (by simp; omega) (.string (tnS s (secS (L + 1) z1 b1 f) 1))
              replace gA := gA.set (p := ⟨SB, 0, none⟩) (by simp; omega) (.string (tnS s (secS (L + 1) z1 b1 f) 1))
              clear S0 S1 S2 S3 G0 G1 G2 G3 G4 G5 X0 X1 X2 X3 X4 X5
              generalize World.setCell y6 ⟨SB, 0, none⟩ (.string (tnS s (secS (L + 1) z1 b1 f) 1)) = y9 at *
              obtain ⟨X0, X1, X2, X3, X4, X5⟩ := X.three
              have l_X9 := X.lt
              have l_G9 := G.lt
              have l_S9 := S.lt
              have l_tp9 := tp.lt
              have ZX := Own.new y9 28 #[.int .i64 (L + 1), .int .i64 z1, .int .i64 b1]
              go_wp2_with (at_builtin; refine wpList_append_own _ rfl _ _ 48 rfl (GB + 1) 28 i0 (.agg #[.int .i64 0, .int .i64 0, .int .i64 0]) 3 24 Try.underlying48 hi hz0 hz1 hz2 rfl (by decide) _ _ _ rfl (World.ownsRow.alloc RW _) ⟨y9.heap.size, 0, none⟩ 1 1 [.int .i64 (L + 1), .int .i64 z1, .int .i64 b1] rfl rfl ?c1 ?c2 ?c3 ?c4 ?c5 ?_)
              case c1 =>
                intro j u hj
                have hj3 : j = 0 ∨ j = 1 ∨ j = 2 := by
                  have := (List.getElem?_eq_some_iff.1 hj).1
                  simp at this
                  omega
                rcases hj3 with rfl | rfl | rfl
                · exact (ZX.cell 0).trans hj
                · exact (ZX.cell 1).trans hj
                · exact (ZX.cell 2).trans hj
              case c2 =>
                intro u hu
                simp at hu
                rcases hu with rfl | rfl | rfl <;> rfl
              case c3 => unfold maxLen; omega
              case c4 => omega
              case c5 => simp; omega
              intro v5 w5 hown5 hg5 _
              have hr5 := Rw.above RW
              have S5 := Own.keptA (S.alloc (.cells #[.int .i64 (L + 1), .int .i64 z1, .int .i64 b1] 28)) hg5 hr5 (by omega)
              have H5 := Own.keptA (G.alloc (.cells #[.int .i64 (L + 1), .int .i64 z1, .int .i64 b1] 28)) hg5 hr5 (by omega)
              have t5 := Tp.keptA (tp.alloc (.cells #[.int .i64 (L + 1), .int .i64 z1, .int .i64 b1] 28)) hg5 hr5 (by omega)
              have gA5 := Grew.keptA (gA.alloc (.cells #[.int .i64 (L + 1), .int .i64 z1, .int .i64 b1] 28)) hg5 hr5 (by omega)
              have RW5 := Rw.snoc (ts := ts) hown5
              clear hg5 hown5 hr5 ZX
              go_wp2_with fail
              go_meet
              exact ⟨1, q, z, b, (tnS s (secS (L + 1) z1 b1 f) 1), cq, cz, cb, ts ++ [((L : Int) + 1, z1, b1)], rfl, rfl, .inr rfl, by omega, by simp; omega, HV.out, HC.out, (torn_old HS.out HCT.out).1, (torn_old HS.out HCT.out).2.1, (by rcases HCD.out with h | h | h <;> first | exact .inl h | exact .inr (.inl h) | exact .inr (.inr (List.mem_append_left _ h))), S5, H5, RW5, t5, gA5⟩
        case rest =>
          clear S G RW tp gA S0 S1 S2 S3 G0 G1 G2 G3 G4 G5 X X0 X1 X2 X3 X4 X5 HV HC HS HCT HCD HX hqL htL
          obtain ⟨W, q, z, b, s, cq, cz, cb, ts, rfl, -, hW, hqL, htL, hv, hc, hs, hct, hcond, S, G, RW, tp, gA⟩ := hcut
          have l_S := S.lt
          have l_G := G.lt
          have l_tp := tp.lt
          have HV := Lib.hid hv
          have HC := Lib.hid hc
          have HS := Lib.hid hs
          have HCT := Lib.hid hct
          have HCD := Lib.hid hcond
          clear hv hc hs hct hcond
          obtain ⟨G0, G1, G2, G3, G4, G5⟩ := G.three
          obtain ⟨S0, S1, S2, S3⟩ := S.two
          go_wp2_with fail
          with_reducible refine (choose_inv W hW q z b cq cz cb f s ts _ HV.out hf HC.out HCT.out HCD.out).mono ?_
          rintro e y6 ⟨gq, gz, gb, gi, rfl, hgot, g6⟩
          have HGOT := Lib.hid hgot
          clear hgot S0 S1 S2 S3 G0 G1 G2 G3 G4 G5
          replace S := S.grew g6
          replace G := G.grew g6
          replace RW := RW.grew g6
          replace tp := tp.grew g6
          replace gA := gA.trans g6
          clear g6
          have R := Own.new y6 28 #[.int .i64 gq, .int .i64 gz, .int .i64 gb]
          replace S := S.alloc (.cells #[.int .i64 gq, .int .i64 gz, .int .i64 gb] 28)
          replace G := G.alloc (.cells #[.int .i64 gq, .int .i64 gz, .int .i64 gb] 28)
          replace RW := RW.alloc (.cells #[.int .i64 gq, .int .i64 gz, .int .i64 gb] 28)
          replace tp := tp.alloc (.cells #[.int .i64 gq, .int .i64 gz, .int .i64 gb] 28)
          replace gA := gA.alloc (.cells #[.int .i64 gq, .int .i64 gz, .int .i64 gb] 28)
          go_upto_region 32 with fail
          generalize hy7 : World.alloc y6 _ = y7 at *
          clear hy7
          obtain ⟨G0, G1, G2, G3, G4, G5⟩ := G.three
          obtain ⟨R0, R1, R2, R3, R4, R5⟩ := R.three
          have hN1 : 1 ≤ (N : Int) := by omega
          have hN8 : (N : Int) ≤ 8 := by omega
          go_cut [18] (FineCut gq gz gb q z b y7)
          case first =>
            have hcase : (gq = q ∧ gz = z ∧ gb = b) ∨ ((gq == q) = false) ∨ (gq = q ∧ (gz == z) = false) ∨ (gq = q ∧ gz = z ∧ (gb == b) = false) := by
              by_cases h1 : gq = q
              · by_cases h2 : gz = z
                · by_cases h3 : gb = b
                  · exact .inl ⟨h1, h2, h3⟩
                  · exact .inr (.inr (.inr ⟨h1, h2, beq_eq_false_iff_ne.2 h3⟩))
                · exact .inr (.inr (.inl ⟨h1, beq_eq_false_iff_ne.2 h2⟩))
              · exact .inr (.inl (beq_eq_false_iff_ne.2 h1))
            rcases hcase with ⟨rfl, rfl, rfl⟩ | h | ⟨rfl, h⟩ | ⟨rfl, rfl, h⟩
            · go_wp2_with fail
              go_meet
              exact ⟨rfl, true, rfl, fun _ => rfl⟩
            · go_wp2_with fail
              go_meet
              exact ⟨rfl, false, rfl, fun k => absurd k.1 (beq_eq_false_iff_ne.1 h)⟩
            · go_wp2_with fail
              go_meet
              exact ⟨rfl, false, rfl, fun k => absurd k.2.1 (beq_eq_false_iff_ne.1 h)⟩
            · go_wp2_with fail
              go_meet
              exact ⟨rfl, false, rfl, fun k => absurd k.2.2 (beq_eq_false_iff_ne.1 h)⟩
          case rest =>
            obtain ⟨rfl, b0, rfl, hfine⟩ := hcut
            have HFI := Lib.hid hfine
            clear hfine
            rcases Rw.view RW with ⟨rfl, rfl⟩ | ⟨gt, cap, n, T0, T1, T2, rfl, hn, hcells, hmem⟩
            · have hg := HGOT.out
              have hg2 : gq = q ∧ gz = z ∧ gb = b := by
                rcases hg with h | h
                · exact h
                · simp at h
              obtain ⟨rfl, rfl, rfl⟩ := hg2
              clear hg
              have hb0 : b0 = true := HFI.out ⟨rfl, rfl, rfl⟩
              subst hb0
              go_wp2_with fail
              refine wp_loop_rounds 1 ?_; rw [rounds_succ]
              go_wp2_with fail
              go_roundw
              case rel => exact ⟨N - 1, L + 1, by rw [show ((N : Int) - 1) = ((N - 1 : Nat) : Int) from by omega], by omega, W, gq, gz, gb, s, cq, cz, cb, [], rfl, rfl, hW, hqL, htL, HV.out, HC.out, HS.out, HCT.out, HCD.out, S, G, RW, tp, gA⟩
              case measure => simp [intOf]; omega
            · have HM := Lib.hid hmem
              have HCL := Lib.hid hcells
              have hnL : n ≤ 9 := by omega
              have HN := Lib.hid hn
              clear hmem hcells hn
              go_wp2_with fail
              go_loopw [18, 19] (fun v18 v19 wk => ∃ (k : Nat) (bb : Bool) (d : Nat), v18 = .bool bb ∧ v19 = .int .i64 k ∧ k ≤ n ∧ (bb = true ∨ ∃ j, k ≤ j ∧ j < n ∧ T0 j = gq ∧ T1 j = gz ∧ T2 j = gb) ∧ wk = wc.drewN d) (fun _ v19 _ => n - (intOf v19).toNat)
              case atStart =>
                refine ⟨0, _, 0, rfl, rfl, by omega, ?_, rfl⟩
                rcases HGOT.out with h | h
                · exact .inl (HFI.out h)
                · right
                  obtain ⟨j, hj, e⟩ := HM.out _ _ _ h
                  exact ⟨j, by omega, hj, e⟩
              case round =>
                obtain ⟨k, bb, d, rfl, rfl, hk, hbb, rfl⟩ := hrel
                have HB := Lib.hid hbb
                clear hbb
                by_cases hlt : k < n
                · cases bb
                  · obtain ⟨c0, c1, c2⟩ := HCL.out k hlt
                    have hcase : (gq = T0 k ∧ gz = T1 k ∧ gb = T2 k) ∨ ((gq == T0 k) = false) ∨ (gq = T0 k ∧ (gz == T1 k) = false) ∨ (gq = T0 k ∧ gz = T1 k ∧ (gb == T2 k) = false) := by
                      by_cases h1 : gq = T0 k
                      · by_cases h2 : gz = T1 k
                        · by_cases h3 : gb = T2 k
                          · exact .inl ⟨h1, h2, h3⟩
                          · exact .inr (.inr (.inr ⟨h1, h2, beq_eq_false_iff_ne.2 h3⟩))
                        · exact .inr (.inr (.inl ⟨h1, beq_eq_false_iff_ne.2 h2⟩))
                      · exact .inr (.inl (beq_eq_false_iff_ne.2 h1))
                    rcases hcase with ⟨h1, h2, h3⟩ | h | ⟨h1, h⟩ | ⟨h1, h2, h⟩
                    all_goals
                      try rw [← h1] at c0
                      try rw [← h2] at c1
                      try rw [← h3] at c2
                      try have K1 := Lib.hid h1
                      try have K2 := Lib.hid h2
                      try have K3 := Lib.hid h3
                      try clear h1
                      try clear h2
                      try clear h3
                      go_wp2_with fail
                      go_quiet (fail)
                      go_wp2_with fail
                      go_roundw
                      case rel =>
                        refine ⟨k + 1, _, _, rfl, by go_num, by omega, ?_, rfl⟩
                        rcases HB.out with h' | ⟨j, hj, hjn, e0, e1, e2⟩
                        · exact absurd h' (by simp)
                        · by_cases hjk : j = k
                          · subst hjk
                            first
                              | exact .inl rfl
                              | exact absurd e0.symm (beq_eq_false_iff_ne.1 h)
                              | exact absurd e1.symm (beq_eq_false_iff_ne.1 h)
                              | exact absurd e2.symm (beq_eq_false_iff_ne.1 h)
                          · exact .inr ⟨j, by omega, hjn, e0, e1, e2⟩
                      case measure => simp [intOf]; omega
                  · go_wp2_with fail
                    go_quiet (fail)
                    go_wp2_with fail
                    go_roundw
                    case rel => exact ⟨k + 1, _, _, rfl, by go_num, by omega, .inl rfl, rfl⟩
                    case measure => simp [intOf]; omega
                · have hb : bb = true := by
                    rcases HB.out with h | ⟨j, hj, hjn, -⟩
                    · exact h
                    · omega
                  subst hb
                  go_wp2_with fail
                  go_roundw
                  case rel => exact ⟨N - 1, L + 1, by rw [show ((N : Int) - 1) = ((N - 1 : Nat) : Int) from by omega], by omega, W, q, z, b, s, cq, cz, cb, ts, rfl, rfl, hW, hqL, htL, HV.out, HC.out, HS.out, HCT.out, HCD.out, S.drewN _, G.drewN _, RW.drewN _, tp.drewN _, gA.drewN _⟩
                  case measure => simp [intOf]; omega
    · have hN0 : N = 0 := by omega
      subst hN0
      go_wp2_with fail
      with_reducible refine (awake_any _).mono ?_
      rintro e y9 ⟨rfl, g9⟩
      go_wp2
      go_ret
      exact ⟨rfl, gA.trans g9⟩

theorem Try.own : ownKnob Try.prog.godebug = none := by kernel_rfl
theorem Try.laidOut : laidOutB Try.prog = true := by kernel_rfl

theorem inodeWrites_contract (W : World) (base : Nat) (args : Array Value) (H : Type) (enc : TypeId × Value → H) (ds : List (DataW H)) (p : List MemPlace)
    (hval : ∀ (j : Nat) t v, Try.f7.params[j]? = some t → args[j]? = some v → Value.okWide Try.prog W .any base t v)
    (hA : DataW.TrodAll enc Try.prog W 0 (fun _ => true) true Try.f7.params.toList args.toList ds p) :
    (∃ d0, ds = [d0]) ∧ Calls Try.prog 7 args W fun e W' => e = .returned (.bool true) ∧ Below W.heap.size W W' := by
  rw [Try.params7] at hval hA
  obtain ⟨v0, d0, p0, ha, hd, hp, h0⟩ := args_1 hA
  subst ha hd
  obtain ⟨A0, c0, xs0, rfl, hr0, hm0⟩ := open_introw Try.underlying22 Try.underlying3 (by kernel_rfl) (hval 0 _ _ rfl rfl) h0
  exact ⟨⟨_, rfl⟩, (tries_core A0 c0 xs0 W hr0 hm0).mono fun _ _ h => h⟩

set_option maxRecDepth 100000 in
theorem inodeWrites_lifted (os : Os) (started : os.Started) (H : Type) (enc : TypeId × Value → H) :
    ReturnsInHanded {} Try.checked os 7 .any (Rows.inodeWritesSpec.pre6 enc Try.prog Try.f7 Rows.inodeWritesRow.domain false) (Rows.inodeWritesSpec.post enc Try.prog Try.f7 false true false false) := by
  refine returnsInHanded_of_change (C := Try.checked) Try.own started (by kernel_rfl) Try.func7
    (ChangeSpec.witness6 (enc := enc) (C := Try.checked) false ⟨#[], #[.slice none 0 0], []⟩ 8 (by kernel_rfl) (by kernel_rfl) (by kernel_rfl) (by kernel_rfl)) ?_
  intro W base args ds gs before hval hW _ _
  obtain ⟨p, q, hA, hV, hrest⟩ := id hW
  obtain ⟨⟨d0, rfl⟩, hc⟩ := inodeWrites_contract W base args H enc ds p hval hA
  obtain ⟨rfl, -⟩ := trodVars_none hV
  refine hc.mono fun e W' ⟨he, hb⟩ => ⟨_, he, ?_⟩
  exact law_close (tb := 4) Try.laidOut (by rw [Try.params7]; decide +kernel) Try.underlying4 rfl rfl hW rfl rfl rfl hb

theorem inodeWrites_holds : Rows.InodeWritesSaid :=
  OpenClaim.holds_of_wide 7 Try.f7 rfl rfl rfl rfl rfl rfl rfl ⟨rfl, rfl, rfl, rfl, rfl⟩ rfl rfl rfl rfl rfl (by kernel_rfl) Try.func7 (by kernel_rfl)
    (of_decide_eq_true (by kernel_rfl)) (by unfold Func.isWrapper; first | (rw [if_pos (by decide +kernel)]; kernel_rfl) | (rw [if_neg (by decide +kernel)]; exact ⟨rfl, rfl⟩))
    (fun os started H enc _ => inodeWrites_lifted os started H enc)
end Go.Proofs.Ytbcakadefineiaa
