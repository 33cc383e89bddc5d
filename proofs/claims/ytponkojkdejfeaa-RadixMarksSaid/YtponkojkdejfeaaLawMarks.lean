/- RadixMarks holds: a mark is there from Mark to Unmark or the next Set of its entry, and marks of other entries do not change. -/
import Derived.Test.YtponkojkdejfeaaRm5
import Derived.Test.YtponkojkdejfeaaRm6
import Derived.Test.YtponkojkdejfeaaRm7
import Derived.Test.YtponkojkdejfeaaRm8
import Derived.Test.YtponkojkdejfeaaRm9
import Derived.Test.YtponkojkdejfeaaRx15
import Derived.BigQuiet
import Derived.Deep.RegionHeld3
namespace Go.Proofs.Ytponkojkdejfeaa
open Go.ChangeShapes Go.WideShapes Go.ChangeAt Go.RowKit Go.Mine

theorem p4_le {h : Nat} (hh : h ≤ 4) : p4 h ≤ 256 := by
  have hc : h = 0 ∨ h = 1 ∨ h = 2 ∨ h = 3 ∨ h = 4 := by omega
  rcases hc with rfl | rfl | rfl | rfl | rfl <;> decide
/-! Marks as bits. -/
theorem mk_cases {mk : Int} (h : markB mk = true) : mk = 1 ∨ mk = 2 ∨ mk = 4 := of_decide_eq_true h
theorem mk_on {a mk : Int} (a0 : 0 ≤ a) (a1 : a ≤ 7) (h : markB mk = true) : (andI (orI a mk) mk == 0) = false := by
  have ha : a = 0 ∨ a = 1 ∨ a = 2 ∨ a = 3 ∨ a = 4 ∨ a = 5 ∨ a = 6 ∨ a = 7 := by omega
  rcases ha with rfl | rfl | rfl | rfl | rfl | rfl | rfl | rfl <;> rcases mk_cases h with rfl | rfl | rfl <;> decide +kernel
theorem mk_off {a mk : Int} (a0 : 0 ≤ a) (a1 : a ≤ 7) (h : markB mk = true) : (andI (anI (orI a mk) mk) mk == 0) = true := by
  have ha : a = 0 ∨ a = 1 ∨ a = 2 ∨ a = 3 ∨ a = 4 ∨ a = 5 ∨ a = 6 ∨ a = 7 := by omega
  rcases ha with rfl | rfl | rfl | rfl | rfl | rfl | rfl | rfl <;> rcases mk_cases h with rfl | rfl | rfl <;> decide +kernel
theorem mk_zero {mk : Int} (h : markB mk = true) : (andI 0 mk == 0) = true := by
  rcases mk_cases h with rfl | rfl | rfl <;> decide +kernel
theorem same_zero (w : World) : Calls Try.prog 34 #[.agg #[.int .i64 0, .slice none 0 0, .int .i64 0, .int .i64 0], .agg #[.int .i64 0, .slice none 0 0, .int .i64 0, .int .i64 0]] w (RetG (.bool true) w) :=
  Same_f 0 f0 _ _ 0 0 0 0 (fun _ => True) (fun _ => True) w (tree0 w _).node (tree0 w _).node good0
theorem marked_v {v : Bool} (h : Nat) (f : Fen) (s : Value) (x m mk : Int) (i : Nat) (p : Nat → Prop) (w : World) (n : TreeF w p h f s x m) (hi : i < 256) (hm : markB mk = true) (hv : markedB mk (f i) = v) :
    Calls Try.prog 19 #[treeV h s x m, .int .i64 i, .int .i64 mk] w (RetG (.bool v) w) := hv ▸ marked_f h f s x m mk i p w n hi hm
theorem updG_eq (f : Fen) (i : Nat) (l : Lef) : updG f i l i = l := if_pos rfl
theorem updG_ne (f : Fen) {i j : Nat} (l : Lef) (h : ¬j = i) : updG f i l j = f j := if_neg h
set_option maxRecDepth 100000 in
set_option maxHeartbeats 4000000 in
theorem marks_core (A : Option Addr) (c : Nat) (xs : List Int) (A2 : Option Addr) (c2 : Nat) (xs2 : List Int) (w : World) (hr : IntRow w A xs) (hm : xs.length ≤ maxLen) (hr2 : IntRow w A2 xs2) (hm2 : xs2.length ≤ maxLen) :
    Calls Try.prog 9 #[.slice A xs.length c, .slice A2 xs2.length c2] w (RetG (.bool true) w) := by
  have tp := Tp.made hr hm c 32
  have HR2 := Lib.hid hr2
  have HM2 := Lib.hid hm2
  clear hr hr2 hm2
  generalize hX : xs.length = X at *
  clear hX
  go_enter Try.func9, Try.ntmps9
  go_wp2_with fail
  have G0 : w.grownBy (w.alloc (.cells #[.slice A X c, .int .i64 0] 32)) (some w.heap.size) := grown_alloc (grown_refl _ _) _
  generalize World.alloc w _ = w0 at *
  have hsz0 : w.heap.size + 1 ≤ w0.heap.size := tp.lt
  with_reducible refine (tree_x _ _ _ tp hsz0).mono ?_
  rintro e w1 ⟨h, f, s, x, m, rfl, TF, T1, g1⟩
  have G1 := (Grew.refl w).past (grown_trans G0 g1) (Nat.le_refl _)
  obtain ⟨a, j, cc, rfl⟩ := TF.node.slice
  have hP0 : w.heap.size < w1.heap.size := by have := g1.size; omega
  have G2 := G1.alloc (.cells #[.int .i64 h, .slice a j cc, .int .i64 x, .int .i64 m] 28)
  have tp2 := Tp.made (HR2.out.grew G2) HM2.out c2 32
  have G3 := G2.alloc (.cells #[.slice A2 xs2.length c2, .int .i64 0] 32)
  have OT := (Own.new w1 28 #[.int .i64 h, .slice a j cc, .int .i64 x, .int .i64 m]).alloc (.cells #[.slice A2 xs2.length c2, .int .i64 0] 32)
  have TF2 := (TF.mono (q := fun b => b < w1.heap.size) (fun b _ hb => hb)).grew (((Grew.refl w1).alloc (.cells #[.int .i64 h, .slice a j cc, .int .i64 x, .int .i64 m] 28)).alloc (.cells #[.slice A2 xs2.length c2, .int .i64 0] 32))
  rw [World.size_alloc] at tp2
  have h4 : h ≤ 4 := TF.le
  clear TF tp G0 g1 T1 G1 G2
  generalize hX2 : xs2.length = X2 at *
  clear hX2
  go_upto_region 3 with fail
  generalize World.alloc (World.alloc w1 _) _ = w2 at *
  generalize w1.heap.size = P at *
  have HTF := Lib.hid TF2
  obtain ⟨t0, t1, t2, t3, -⟩ := OT.four
  have lT := OT.lt
  clear TF2
  go_wp2_with fail
  with_reducible refine (entries_f h f _ _ _ _ _ HTF.out).mono ?_
  rintro e w3 ⟨ve, rfl, RE, g3⟩
  have hP2 : P + 2 ≤ w2.heap.size := by have := tp2.lt; omega
  have OT3 := OT.grew g3
  have tp3 := tp2.grew g3
  have HTF3 := Lib.hid (HTF.out.grew g3)
  have G4 := G3.trans g3
  have RE3 := RE.wider hP2
  obtain ⟨ae, ne, ce, rfl, hne, -⟩ := RowE.ents RE3
  have HRE := Lib.hid RE3
  have HNE := Lib.hid hne
  have hnl : ne ≤ 256 := by
    have h1 := entR_len h f 0
    have h2 : p4 h ≤ 256 := p4_le h4
    omega
  clear t0 t1 t2 t3 lT OT tp2 HTF G3 g3 RE RE3 hne
  by_cases hn0 : ne = 0
  · subst hn0
    go_wp2_with fail
    with_reducible refine (awake_any _).mono ?_
    rintro e w4 ⟨rfl, g4⟩
    go_wp2
    go_ret
    exact ⟨rfl, G4.trans g4⟩
  · have e0 : ((ne : Int) == 0) = false := by simpa using hn0
    go_wp2_with fail
    with_reducible refine (next_x _ _ _ _ (by omega) (by omega) tp3).mono ?_
    rintro e w4 ⟨q, q0, q1, rfl, tp4, g4⟩
    obtain ⟨i, rfl⟩ := Int.eq_ofNat_of_zero_le q0
    have hi : i < ne := by omega
    have OT4 := OT3.past g4 (by omega)
    have HTF4 : Hid (TreeF w4 (fun b => b < P) h f (.slice a j cc) x m) := Lib.hid ⟨HTF3.out.1, HTF3.out.node.keep (fun _ a _ => a) (fun b hb hb2 => g4.block b hb2 (fun e => by injection e with e; have hb : b < P := hb; omega)), HTF3.out.2.2⟩
    have HRE4 := Lib.hid (HRE.out.past g4 (by omega))
    have G5 := G4.past g4 (by omega)
    clear OT3 tp3 HTF3 G4 g4 HRE
    obtain ⟨ge, rfl, hge, c0, c1, c2'⟩ := ent_cell HRE4.out (show i < (entR h f 0).length by have := HNE.out; omega)
    obtain ⟨ix, hix, hen, hnz⟩ := ent_at (h := h) (f := f) (show i < (entR h f 0).length by have := HNE.out; omega)
    rw [hen] at c0 c1 c2'
    have hix2 : ix < 256 := by
      have h2 : p4 h ≤ 256 := p4_le h4
      omega
    have hgd := HTF4.out.good ix
    obtain ⟨lv, hlv⟩ : ∃ lv, (f ix).1 = lv := ⟨_, rfl⟩
    obtain ⟨lm, hlm⟩ : ∃ lm, (f ix).2 = lm := ⟨_, rfl⟩
    dsimp only at c0 c1 c2'
    rw [hlv] at c1 hnz
    rw [hlm] at c2'
    have HGD := Lib.hid hgd
    have HLV := Lib.hid hlv
    have HLM := Lib.hid hlm
    have i0 : (0 : Int) ≤ (i : Int) := by omega
    have i1 : (i : Int) < (ne : Int) := by omega
    clear hen hgd hlv hlm
    go_upto_region 7 with fail
    have X := Own.new w4 51 #[.int .i64 ix, .int .i64 lv, .int .i64 lm]
    have OT6 := OT4.alloc (.cells #[.int .i64 ix, .int .i64 lv, .int .i64 lm] 51)
    have HTF6 := Lib.hid (HTF4.out.grew ((Grew.refl w4).alloc (.cells #[.int .i64 ix, .int .i64 lv, .int .i64 lm] 51)))
    have HRE6 := Lib.hid (HRE4.out.grew ((Grew.refl w4).alloc (.cells #[.int .i64 ix, .int .i64 lv, .int .i64 lm] 51)))
    have tp6 := tp4.alloc (.cells #[.int .i64 ix, .int .i64 lv, .int .i64 lm] 51)
    have G6 := G5.alloc (.cells #[.int .i64 ix, .int .i64 lv, .int .i64 lm] 51)
    have hP4 : P + 1 < w4.heap.size := tp4.lt
    clear OT4 HTF4 HRE4 tp4 G5 c0 c1 c2' hge
    generalize World.alloc w4 _ = w6 at *
    generalize w4.heap.size = sx at *
    go_cut [9] from 39 to 41 (fun v wx => ∃ mk : Int, v = .int .i64 mk ∧ markB mk = true ∧ Own wx sx 51 #[.int .i64 ix, .int .i64 lv, .int .i64 lm] ∧ Own wx P 28 #[.int .i64 h, .slice a j cc, .int .i64 x, .int .i64 m] ∧ TreeF wx (fun b => b < P) h f (.slice a j cc) x m ∧
      RowE 51 3 encE wx (P + 2) (.slice (some ⟨ge, 0, none⟩) ne ce) (entR h f 0) ∧ Grew w wx)
    case first =>
      go_wp2_with fail
      with_reducible refine (next_x _ _ _ _ (by omega) (by omega) tp6).mono ?_
      rintro e w7 ⟨q, q0, q1, rfl, tp7, g7⟩
      have X7 := X.past g7 (by omega)
      have OT7 := OT6.past g7 (by omega)
      have TF7 : TreeF w7 (fun b => b < P) h f (.slice a j cc) x m := ⟨HTF6.out.1, HTF6.out.node.keep (fun _ a _ => a) (fun b hb hb2 => g7.block b hb2 (fun e => by injection e with e; have hb : b < P := hb; omega)), HTF6.out.2.2⟩
      have RE7 := HRE6.out.past g7 (by omega)
      have G7 := G6.past g7 (by omega)
      have H7 := Lib.hid (show _ ∧ _ ∧ _ ∧ _ ∧ _ from ⟨X7, OT7, TF7, RE7, G7⟩)
      clear X7 OT7 TF7 RE7 G7 X OT6 HTF6 HRE6 tp6 G6 tp7 g7
      have hq : q = 0 ∨ q = 1 ∨ q = 2 := by omega
      rcases hq with rfl | rfl | rfl
      · go_wp2_with fail
        go_meet
        exact ⟨1, rfl, by decide, H7.out⟩
      · go_wp2_with fail
        go_meet
        exact ⟨2, rfl, by decide, H7.out⟩
      · go_wp2_with fail
        go_meet
        exact ⟨4, rfl, by decide, H7.out⟩
    case rest =>
      clear X OT6 HTF6 HRE6 tp6 G6
      obtain ⟨mk, rfl, hmk, X, OT, TF, RE, G⟩ := hcut
      have HTF := Lib.hid TF
      have HRE := Lib.hid RE
      obtain ⟨X0, X1, X2, X3, X4, X5⟩ := X.three
      obtain ⟨t0, t1, t2, t3, -⟩ := OT.four
      have lX := X.lt
      have lT := OT.lt
      have HMK := Lib.hid hmk
      clear TF RE hmk
      by_cases hv : 0 < lv
      · go_wp2_with fail
        with_reducible refine (mark_ok h f _ _ _ mk ix _ _ HTF.out hix2 HMK.out (by rw [HLV.out]; exact hv)).mono ?_
        rintro e w8 ⟨k1, s1, x1, m1, rfl, TF1, g8⟩
        rw [HLV.out, HLM.out] at TF1
        obtain ⟨F1, hF1⟩ : ∃ F1, updG f ix (lv, orI lm mk) = F1 := ⟨_, rfl⟩
        rw [hF1] at TF1
        have H1 := Lib.hid (show F1 ix = (lv, orI lm mk) from by rw [← hF1, updG_eq])
        have HO1 := Lib.hid (show ∀ n, ¬n = ix → F1 n = f n from fun n hn => by rw [← hF1, updG_ne f _ hn])
        clear hF1
        obtain ⟨a1, j1, cc1, rfl⟩ := TF1.node.slice
        have HT1 := Lib.hid TF1
        have X8 := X.grew g8
        have R8 := Lib.hid (HRE.out.grew g8)
        have G8 := G.trans g8
        clear X0 X1 X2 X3 X4 X5 t0 t1 t2 t3 lX lT X OT G g8 HTF HRE TF1
        have d9 : decide (lv < 0) = false := decide_eq_false (by omega)
        go_upto_region 9 with fail
        have A9 := Own.new w8 28 #[.int .i64 k1, .slice a1 j1 cc1, .int .i64 x1, .int .i64 m1]
        have g9 : Grew w8 (w8.alloc (.cells #[.int .i64 k1, .slice a1 j1 cc1, .int .i64 x1, .int .i64 m1] 28)) := (Grew.refl _).alloc _
        have X9 := X8.grew g9
        have R9 := Lib.hid (R8.out.grew g9)
        have HT9 := Lib.hid (HT1.out.grew g9)
        have G9 := G8.trans g9
        clear X8 R8 HT1 G8 g9
        generalize World.alloc w8 _ = w9 at *
        generalize w8.heap.size = sa at *
        obtain ⟨X0, X1, X2, X3, X4, X5⟩ := X9.three
        obtain ⟨t0, t1, t2, t3, -⟩ := A9.four
        have lX := X9.lt
        have lT := A9.lt
        go_wp2_with fail
        with_reducible refine (unmark_ok k1 F1 _ _ _ mk ix _ _ HT9.out hix2 HMK.out (by rw [H1.out]; exact hv)).mono ?_
        rintro e w10 ⟨k2, s2, x2, m2, rfl, TF2, g10⟩
        rw [H1.out] at TF2
        obtain ⟨F2, hF2⟩ : ∃ F2, updG F1 ix ((lv, orI lm mk).1, anI (lv, orI lm mk).2 mk) = F2 := ⟨_, rfl⟩
        rw [hF2] at TF2
        have H2 := Lib.hid (show F2 ix = (lv, anI (orI lm mk) mk) from by rw [← hF2, updG_eq])
        clear hF2
        obtain ⟨a2, j2, cc2, rfl⟩ := TF2.node.slice
        have HT2 := Lib.hid TF2
        have X10 := X9.grew g10
        have A10 := A9.grew g10
        have R10 := Lib.hid (R9.out.grew g10)
        have HT10 := Lib.hid (HT9.out.grew g10)
        have G10 := G9.trans g10
        clear X0 X1 X2 X3 X4 X5 t0 t1 t2 t3 lX lT X9 A9 R9 HT9 G9 g10 TF2
        go_upto_region 12 with fail
        have B11 := Own.new w10 28 #[.int .i64 k2, .slice a2 j2 cc2, .int .i64 x2, .int .i64 m2]
        have g11 : Grew w10 (w10.alloc (.cells #[.int .i64 k2, .slice a2 j2 cc2, .int .i64 x2, .int .i64 m2] 28)) := (Grew.refl _).alloc _
        have X11 := X10.grew g11
        have A11 := A10.grew g11
        have R11 := Lib.hid (R10.out.grew g11)
        have HT11 := Lib.hid (HT10.out.grew g11)
        have HU11 := Lib.hid (HT2.out.grew g11)
        have G11 := G10.trans g11
        clear X10 A10 R10 HT10 HT2 G10 g11
        generalize World.alloc w10 _ = w11 at *
        generalize w10.heap.size = sb at *
        obtain ⟨X0, X1, X2, X3, X4, X5⟩ := X11.three
        obtain ⟨t0, t1, t2, t3, -⟩ := A11.four
        have lX := X11.lt
        have lT := A11.lt
        go_wp2_with fail
        with_reducible refine (set_f k1 F1 _ _ _ 5 ix _ _ HT11.out hix2 (by decide)).mono ?_
        rintro e w12 ⟨k3, s3, x3, m3, rfl, TF3, g12⟩
        obtain ⟨F3, hF3⟩ : ∃ F3, updG F1 ix (5, 0) = F3 := ⟨_, rfl⟩
        rw [hF3] at TF3
        have H3 := Lib.hid (show F3 ix = (5, 0) from by rw [← hF3, updG_eq])
        have HO3 := Lib.hid (show ∀ n, ¬n = ix → F3 n = f n from fun n hn => by rw [← hF3, updG_ne F1 _ hn, HO1.out n hn])
        clear hF3
        obtain ⟨a3, j3, cc3, rfl⟩ := TF3.node.slice
        have HT3 := Lib.hid TF3
        have X12 := X11.grew g12
        have A12 := A11.grew g12
        have B12 := B11.grew g12
        have R12 := Lib.hid (R11.out.grew g12)
        have HT12 := Lib.hid (HT11.out.grew g12)
        have HU12 := Lib.hid (HU11.out.grew g12)
        have G12 := G11.trans g12
        clear X0 X1 X2 X3 X4 X5 t0 t1 t2 t3 lX lT X11 A11 B11 R11 HT11 HU11 G11 g12 TF3
        go_upto_region 13 with fail
        have C13 := Own.new w12 28 #[.int .i64 k3, .slice a3 j3 cc3, .int .i64 x3, .int .i64 m3]
        have g13 : Grew w12 (w12.alloc (.cells #[.int .i64 k3, .slice a3 j3 cc3, .int .i64 x3, .int .i64 m3] 28)) := (Grew.refl _).alloc _
        have X13 := X12.grew g13
        have A13 := A12.grew g13
        have B13 := B12.grew g13
        have R13 := Lib.hid (R12.out.grew g13)
        have HT13 := Lib.hid (HT12.out.grew g13)
        have HU13 := Lib.hid (HU12.out.grew g13)
        have HV13 := Lib.hid (HT3.out.grew g13)
        have G13 := G12.trans g13
        clear X12 A12 B12 R12 HT12 HU12 HT3 G12 g13
        generalize World.alloc w12 _ = w13 at *
        generalize w12.heap.size = sc at *
        obtain ⟨-, q7a, q7b, -⟩ := HGD.out
        rw [HLM.out] at q7a q7b
        have N1 := Lib.hid (show markedB mk (F1 ix) = true from by rw [H1.out]; unfold markedB; rw [mk_on q7a q7b HMK.out]; rfl)
        have N2 := Lib.hid (show markedB mk (F2 ix) = false from by rw [H2.out]; unfold markedB; rw [mk_off q7a q7b HMK.out]; rfl)
        have N3 := Lib.hid (show markedB mk (F3 ix) = false from by rw [H3.out]; unfold markedB; rw [mk_zero HMK.out]; rfl)
        clear q7a q7b
        obtain ⟨X0, X1, X2, X3, X4, X5⟩ := X13.three
        obtain ⟨t0, t1, t2, t3, -⟩ := A13.four
        obtain ⟨u0, u1, u2, u3, -⟩ := B13.four
        obtain ⟨v0, v1, v2, v3, -⟩ := C13.four
        have lX := X13.lt
        have lA := A13.lt
        have lB := B13.lt
        have lC := C13.lt
        go_wp2_with fail
        with_reducible refine (marked_v k1 F1 _ _ _ mk ix _ _ HT13.out hix2 HMK.out N1.out).mono ?_
        rintro e w14 ⟨rfl, g14⟩
        have X14 := X13.grew g14
        have A14 := A13.grew g14
        have B14 := B13.grew g14
        have C14 := C13.grew g14
        have R14 := Lib.hid (R13.out.grew g14)
        have HT14 := Lib.hid (HT13.out.grew g14)
        have HU14 := Lib.hid (HU13.out.grew g14)
        have HV14 := Lib.hid (HV13.out.grew g14)
        have G14 := G13.trans g14
        clear X0 X1 X2 X3 X4 X5 t0 t1 t2 t3 u0 u1 u2 u3 v0 v1 v2 v3 lX lA lB lC X13 A13 B13 C13 R13 HT13 HU13 HV13 G13 g14
        obtain ⟨X0, X1, X2, X3, X4, X5⟩ := X14.three
        obtain ⟨u0, u1, u2, u3, -⟩ := B14.four
        obtain ⟨v0, v1, v2, v3, -⟩ := C14.four
        have lX := X14.lt
        have lB := B14.lt
        have lC := C14.lt
        go_wp2_with fail
        with_reducible refine (marked_v k2 F2 _ _ _ mk ix _ _ HU14.out hix2 HMK.out N2.out).mono ?_
        rintro e w15 ⟨rfl, g15⟩
        have X15 := X14.grew g15
        have A15 := A14.grew g15
        have C15 := C14.grew g15
        have R15 := Lib.hid (R14.out.grew g15)
        have HT15 := Lib.hid (HT14.out.grew g15)
        have HV15 := Lib.hid (HV14.out.grew g15)
        have G15 := G14.trans g15
        clear X0 X1 X2 X3 X4 X5 u0 u1 u2 u3 v0 v1 v2 v3 lX lB lC X14 A14 B14 C14 R14 HT14 HU14 HV14 G14 g15
        obtain ⟨X0, X1, X2, X3, X4, X5⟩ := X15.three
        obtain ⟨v0, v1, v2, v3, -⟩ := C15.four
        have lX := X15.lt
        have lC := C15.lt
        go_wp2_with fail
        with_reducible refine (marked_v k3 F3 _ _ _ mk ix _ _ HV15.out hix2 HMK.out N3.out).mono ?_
        rintro e w16 ⟨rfl, g16⟩
        have X16 := X15.grew g16
        have A16 := A15.grew g16
        have C16 := C15.grew g16
        have R16 := Lib.hid (R15.out.grew g16)
        have HT16 := Lib.hid (HT15.out.grew g16)
        have HV16 := Lib.hid (HV15.out.grew g16)
        have G16 := G15.trans g16
        clear X0 X1 X2 X3 X4 X5 v0 v1 v2 v3 lX lC X15 A15 C15 R15 HT15 HV15 G15 g16 N1 N2 N3 H1 H2 H3
        go_wp2_with fail
        have TA0 := HT16.out.mono (q := fun _ => True) (fun _ _ _ => trivial)
        have TC0 := HV16.out.mono (q := fun _ => True) (fun _ _ _ => trivial)
        have HTA0 := Lib.hid TA0
        have HTC0 := Lib.hid TC0
        clear TA0 TC0 HT16 HV16
        go_loopw [16] (fun iv wr => ∃ n : Nat, iv = .int .i64 n ∧ n ≤ ne ∧ Own wr sx 51 #[.int .i64 ix, .int .i64 lv, .int .i64 lm] ∧ Own wr sa 28 #[.int .i64 k1, .slice a1 j1 cc1, .int .i64 x1, .int .i64 m1] ∧ Own wr sc 28 #[.int .i64 k3, .slice a3 j3 cc3, .int .i64 x3, .int .i64 m3] ∧ TreeF wr (fun _ => True) k1 F1 (.slice a1 j1 cc1) x1 m1 ∧ TreeF wr (fun _ => True) k3 F3 (.slice a3 j3 cc3) x3 m3 ∧ RowE 51 3 encE wr (P + 2) (.slice (some ⟨ge, 0, none⟩) ne ce) (entR h f 0) ∧ Grew w wr) (fun iv _ => ne - (intOf iv).toNat)
        case atStart => exact ⟨0, rfl, by omega, X16, A16, C16, HTA0.out, HTC0.out, R16.out, G16⟩
        case round =>
          clear X16 A16 C16 HTA0 HTC0 R16 G16
          obtain ⟨n, rfl, hn, X, A, C, TA, TC, R, G⟩ := hrel
          obtain ⟨wo, rfl⟩ : ∃ wo : World, wo = wr := ⟨_, rfl⟩
          have HTA := Lib.hid TA
          have HTC := Lib.hid TC
          have HR := Lib.hid R
          clear TA TC R
          by_cases hlt : n < ne
          · obtain ⟨jx, hjx, hen, -⟩ := ent_at (h := h) (f := f) (show n < (entR h f 0).length by have := HNE.out; omega)
            have HEN := Lib.hid hen
            have hjx2 : jx < 256 := by
              have h2 : p4 h ≤ 256 := p4_le h4
              omega
            have n0 : (0 : Int) ≤ (n : Int) := by omega
            have n1 : (n : Int) < (ne : Int) := by omega
            clear hen hjx
            go_wp2_with fail
            go_loopw [17] (fun kv wr => ∃ k : Int, kv = .int .i64 k ∧ (k = 1 ∨ k = 2 ∨ k = 4 ∨ k = 8) ∧ Own wr sx 51 #[.int .i64 ix, .int .i64 lv, .int .i64 lm] ∧ Own wr sa 28 #[.int .i64 k1, .slice a1 j1 cc1, .int .i64 x1, .int .i64 m1] ∧ Own wr sc 28 #[.int .i64 k3, .slice a3 j3 cc3, .int .i64 x3, .int .i64 m3] ∧ TreeF wr (fun _ => True) k1 F1 (.slice a1 j1 cc1) x1 m1 ∧ TreeF wr (fun _ => True) k3 F3 (.slice a3 j3 cc3) x3 m3 ∧ RowE 51 3 encE wr (P + 2) (.slice (some ⟨ge, 0, none⟩) ne ce) (entR h f 0) ∧ Grew w wr) (fun kv _ => (8 - intOf kv).toNat)
            case atStart => exact ⟨1, rfl, .inl rfl, X, A, C, HTA.out, HTC.out, HR.out, G⟩
            case round =>
              clear X A C HTA HTC HR G
              obtain ⟨k, rfl, hk, X, A, C, TA, TC, R, G⟩ := hrel
              obtain ⟨wi, rfl⟩ : ∃ wi : World, wi = wr := ⟨_, rfl⟩
              by_cases h4k : k ≤ 4
              · have HK := Lib.hid (show markB k = true from decide_eq_true (by omega))
                have k0 : 1 ≤ k := by omega
                have HKK := Lib.hid hk
                obtain ⟨ge', eg, hge, c0, -, c2'⟩ := ent_cell R (show n < (entR h f 0).length by have := HNE.out; omega)
                obtain rfl : ge = ge' := by injection eg with eg; injection eg
                rw [HEN.out] at c0 c2'
                dsimp only at c0 c2'
                obtain ⟨fm, hfm⟩ : ∃ fm, (f jx).2 = fm := ⟨_, rfl⟩
                rw [hfm] at c2'
                obtain ⟨b, hb⟩ : ∃ b, (bits .and .i64 fm k != 0) = b := ⟨_, rfl⟩
                have HGE := Lib.hid hge
                have HA1 := Lib.hid TA
                have HC1 := Lib.hid TC
                have HR1 := Lib.hid R
                have HTA := Lib.hid (TA.grew (Grew.refl wi).drew)
                have HTC := Lib.hid (TC.grew (Grew.refl wi).drew)
                have HR := Lib.hid (R.grew (Grew.refl wi).drew)
                have HFM := Lib.hid hfm
                have HB := Lib.hid hb
                have hMf : markedB k (f jx) = b := by rw [← hb, ← hfm]; rfl
                have HMF := Lib.hid hMf
                have lge := hge
                obtain ⟨X0, X1, X2, X3, X4, X5⟩ := X.three
                obtain ⟨t0, t1, t2, t3, -⟩ := A.four
                obtain ⟨v0, v1, v2, v3, -⟩ := C.four
                clear TA TC R hfm eg hMf hk
                by_cases hji : jx = ix
                · have hd : ((jx : Int) != (ix : Int)) = false := by simp [hji]
                  go_upto_region 22 with fail
                  go_quiet (fail)
                  revert nq; intro nq1
                  have X8 := X.drewN nq1
                  have A8 := A.drewN nq1
                  have C8 := C.drewN nq1
                  have TA8 : Hid (TreeF (wi.drewN nq1) (fun _ => True) k1 F1 (.slice a1 j1 cc1) x1 m1) := Lib.hid (HA1.out.grew ((Grew.refl wi).drewN nq1))
                  have TC8 : Hid (TreeF (wi.drewN nq1) (fun _ => True) k3 F3 (.slice a3 j3 cc3) x3 m3) := Lib.hid (HC1.out.grew ((Grew.refl wi).drewN nq1))
                  have R8 := Lib.hid (HR1.out.grew ((Grew.refl wi).drewN nq1))
                  have G8 := G.drewN nq1
                  clear c0 c2' X0 X1 X2 X3 X4 X5 t0 t1 t2 t3 v0 v1 v2 v3
                  generalize World.drewN wi nq1 = w30 at *
                  go_wp2
                  exact ⟨⟨k * 2, rfl, by have := HKK.out; omega, X8, A8, C8, TA8.out, TC8.out, R8.out, G8⟩, by simp [intOf]; omega⟩
                · have hd : ((jx : Int) != (ix : Int)) = true := by simp; omega
                  have M1 := Lib.hid (show markedB k (F1 jx) = b from by rw [HO1.out jx hji]; exact HMF.out)
                  have M3 := Lib.hid (show markedB k (F3 jx) = b from by rw [HO3.out jx hji]; exact HMF.out)
                  go_upto_region 22 with fail
                  replace X := X.drew
                  replace A := A.drew
                  replace C := C.drew
                  replace G := G.drew
                  clear c2'
                  go_region_held3 (fun w' => w'.cell? ⟨ge, n * 3, none⟩ = some (.int .i64 (jx : Int)) ∧ w'.cell? ⟨sx, 0, none⟩ = some (.int .i64 (ix : Int)) ∧ (w'.cell? ⟨sa, 0, none⟩ = some (.int .i64 (k1 : Int)) ∧ w'.cell? ⟨sa, 1, none⟩ = some (.slice a1 j1 cc1) ∧ w'.cell? ⟨sa, 2, none⟩ = some (.int .i64 x1) ∧ w'.cell? ⟨sa, 3, none⟩ = some (.int .i64 m1)) ∧ w'.cell? ⟨sc, 0, none⟩ = some (.int .i64 (k3 : Int)) ∧ w'.cell? ⟨sc, 1, none⟩ = some (.slice a3 j3 cc3) ∧ w'.cell? ⟨sc, 2, none⟩ = some (.int .i64 x3) ∧ w'.cell? ⟨sc, 3, none⟩ = some (.int .i64 m3))
                    (refine ⟨?_, ?_, ⟨?_, ?_, ?_, ?_⟩, ?_, ?_, ?_, ?_⟩ <;> (repeat (first | with_reducible assumption | with_reducible refine far_drew ?_)))
                    (first
                    | (go_at_call 19; (with_reducible refine (marked_v k1 F1 _ _ _ k jx _ _ HTA.out hjx2 HK.out M1.out).mono ?_); rintro e w20 ⟨rfl, g20⟩; replace X := X.grew g20; replace A := A.grew g20; replace C := C.grew g20; replace HTA := Lib.hid (HTA.out.grew g20); replace HTC := Lib.hid (HTC.out.grew g20); replace HR := Lib.hid (HR.out.grew g20); replace G := G.trans g20; have cc0 := (g20.cells.1 ge _ HGE.out).trans c0; replace HGE := Lib.hid (Nat.lt_of_lt_of_le HGE.out g20.size); clear c0 X0 X1 X2 X3 X4 X5 t0 t1 t2 t3 v0 v1 v2 v3; have c0 := cc0; clear cc0 g20; obtain ⟨X0, X1, X2, X3, X4, X5⟩ := X.three; obtain ⟨t0, t1, t2, t3, -⟩ := A.four; obtain ⟨v0, v1, v2, v3, -⟩ := C.four)
                    | (go_at_call 19; (with_reducible refine (marked_v k3 F3 _ _ _ k jx _ _ HTC.out hjx2 HK.out M3.out).mono ?_); rintro e w21 ⟨rfl, g20⟩; replace X := X.grew g20; replace A := A.grew g20; replace C := C.grew g20; replace HTA := Lib.hid (HTA.out.grew g20); replace HTC := Lib.hid (HTC.out.grew g20); replace HR := Lib.hid (HR.out.grew g20); replace G := G.trans g20; have cc0 := (g20.cells.1 ge _ HGE.out).trans c0; replace HGE := Lib.hid (Nat.lt_of_lt_of_le HGE.out g20.size); clear c0 X0 X1 X2 X3 X4 X5 t0 t1 t2 t3 v0 v1 v2 v3; have c0 := cc0; clear cc0 g20; obtain ⟨X0, X1, X2, X3, X4, X5⟩ := X.three; obtain ⟨t0, t1, t2, t3, -⟩ := A.four; obtain ⟨v0, v1, v2, v3, -⟩ := C.four))
                  go_wp2
                  exact ⟨⟨k * 2, rfl, by have := HKK.out; omega, X, A, C, HTA.out, HTC.out, HR.out, G⟩, by simp [intOf]; omega⟩
              · have hk8 : k = 8 := by omega
                subst hk8
                have HTA := Lib.hid TA
                have HTC := Lib.hid TC
                have HR := Lib.hid R
                clear TA TC R
                go_wp2
                exact ⟨⟨n + 1, by go_num, by omega, X, A, C, HTA.out, HTC.out, HR.out, G⟩, by simp [intOf]; omega⟩
          · have hnn : n = ne := by omega
            subst hnn
            go_wp2_with fail
            with_reducible refine (awake_any _).mono ?_
            rintro e w40 ⟨rfl, g40⟩
            go_wp2
            go_ret
            exact ⟨rfl, G.trans g40⟩
      · have hv2 : lv < 0 := by omega
        go_wp2_with fail
        with_reducible refine (mark_no h f _ _ _ mk ix _ _ HTF.out hix2 HMK.out (by rw [HLV.out]; omega)).mono ?_
        rintro e w8 ⟨rfl, g8⟩
        have X8 := X.grew g8
        have G8 := G.trans g8
        clear X0 X1 X2 X3 X4 X5 t0 t1 t2 t3 lX lT X OT G g8 HTF HRE
        go_upto_region 9 with fail
        have A8 := Own.new w8 28 #[.int .i64 0, .slice none 0 0, .int .i64 0, .int .i64 0]
        have X9 := X8.alloc (.cells #[.int .i64 0, .slice none 0 0, .int .i64 0, .int .i64 0] 28)
        have G9 := G8.alloc (.cells #[.int .i64 0, .slice none 0 0, .int .i64 0, .int .i64 0] 28)
        generalize World.alloc w8 _ = w9 at *
        generalize w8.heap.size = sa at *
        obtain ⟨X0, X1, X2, X3, X4, X5⟩ := X9.three
        obtain ⟨t0, t1, t2, t3, -⟩ := A8.four
        have lX := X9.lt
        have lT := A8.lt
        go_wp2_with fail
        with_reducible refine (same_zero _).mono ?_
        rintro e w10 ⟨rfl, g10⟩
        have G10 := G9.trans g10
        clear X0 X1 X2 X3 X4 X5 t0 t1 t2 t3 lX lT
        go_wp2_with fail
        with_reducible refine (awake_any _).mono ?_
        rintro e w11 ⟨rfl, g11⟩
        go_wp2
        go_ret
        exact ⟨rfl, G10.trans g11⟩

theorem Try.own : ownKnob Try.prog.godebug = none := by kernel_rfl
theorem Try.laidOut : laidOutB Try.prog = true := by kernel_rfl

theorem radixMarks_contract (W : World) (base : Nat) (args : Array Value) (H : Type) (enc : TypeId × Value → H) (ds : List (DataW H)) (p : List MemPlace)
    (hval : ∀ (j : Nat) t v, Try.f9.params[j]? = some t → args[j]? = some v → Value.okWide Try.prog W .any base t v)
    (hA : DataW.TrodAll enc Try.prog W 0 (fun _ => true) true Try.f9.params.toList args.toList ds p) :
    (∃ d0 d1, ds = [d0, d1]) ∧ Calls Try.prog 9 args W fun e W' => e = .returned (.bool true) ∧ Below W.heap.size W W' := by
  rw [Try.params9] at hval hA
  obtain ⟨v0, v1, d0, d1, p0, p1, ha, hd, hp, h0, h1⟩ := args_2 hA
  subst ha hd
  obtain ⟨A0, c0, xs0, rfl, hr0, hm0⟩ := open_introw Try.underlying22 Try.underlying3 (by kernel_rfl) (hval 0 _ _ rfl rfl) h0
  obtain ⟨A1, c1, xs1, rfl, hr1, hm1⟩ := open_introw Try.underlying22 Try.underlying3 (by kernel_rfl) (hval 1 _ _ rfl rfl) h1
  exact ⟨⟨_, _, rfl⟩, (marks_core A0 c0 xs0 A1 c1 xs1 W hr0 hm0 hr1 hm1).mono fun _ _ h => h⟩

set_option maxRecDepth 100000 in
theorem radixMarks_lifted (os : Os) (started : os.Started) (H : Type) (enc : TypeId × Value → H) :
    ReturnsInHanded {} Try.checked os 9 .any (Rows.radixMarksSpec.pre6 enc Try.prog Try.f9 Rows.radixMarksRow.domain false) (Rows.radixMarksSpec.post enc Try.prog Try.f9 false true false false) := by
  refine returnsInHanded_of_change (C := Try.checked) Try.own started (by kernel_rfl) Try.func9
    (ChangeSpec.witness6 (enc := enc) (C := Try.checked) false ⟨#[], #[.slice none 0 0, .slice none 0 0], []⟩ 8 (by kernel_rfl) (by kernel_rfl) (by kernel_rfl) (by kernel_rfl)) ?_
  intro W base args ds gs before hval hW _ _
  obtain ⟨p, q, hA, hV, hrest⟩ := id hW
  obtain ⟨⟨d0, d1, rfl⟩, hc⟩ := radixMarks_contract W base args H enc ds p hval hA
  obtain ⟨rfl, -⟩ := trodVars_none hV
  refine hc.mono fun e W' ⟨he, hb⟩ => ⟨_, he, ?_⟩
  exact law_close (tb := 4) Try.laidOut (by rw [Try.params9]; decide +kernel) Try.underlying4 rfl rfl hW rfl rfl rfl hb

theorem radixMarks_holds : Rows.RadixMarksSaid :=
  OpenClaim.holds_of_wide 9 Try.f9 rfl rfl rfl rfl rfl rfl rfl ⟨rfl, rfl, rfl, rfl, rfl⟩ rfl rfl rfl rfl rfl (by kernel_rfl) Try.func9 (by kernel_rfl)
    (of_decide_eq_true (by kernel_rfl)) (by unfold Func.isWrapper; first | (rw [if_pos (by decide +kernel)]; kernel_rfl) | (rw [if_neg (by decide +kernel)]; exact ⟨rfl, rfl⟩))
    (fun os started H enc _ => radixMarks_lifted os started H enc)
end Go.Proofs.Ytponkojkdejfeaa
