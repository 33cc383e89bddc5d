/- Page tables (layer 17): made lists, drawn lists; the package is awake. -/
import Derived.Test.YtjkkhfionmdmpaaPq2
import Derived.Test.YtjkkhfionmdmpaaPt10
import Derived.Test.YtjkkhfionmdmpaaOdd
namespace Go.Mine
open Go Go.RowKit
abbrev w1T : Pt := ⟨1, 2, 3, true, true⟩
abbrev w2T : Pt := ⟨0, 5, 3, false, false⟩
abbrev w3T : Pt := ⟨1, 2, 3, false, true⟩
abbrev w4T : Pt := ⟨1, 2, 3, true, false⟩
theorem wkT1 : entT [] w1T = ([w1T], 0) := by decide +kernel
theorem wkT2 : entT [w1T] w2T = ([w2T, w1T], 0) := by decide +kernel
theorem wkT3 : prtT [w2T, w1T] 3 = [w2T, w3T] := by decide +kernel
theorem wkT4 : getT [w2T, w3T] 1 2 = (w3T, true) := by decide +kernel
theorem wkT5 : yngT [w2T, w1T] 3 = ([w2T, w4T], true) := by decide +kernel
theorem wkT6 : ofT [w2T, w1T] 3 = [w2T, w1T] := by decide +kernel
theorem wkT7 : drpT [w2T, w1T] 3 = [] := by decide +kernel
theorem wkT8 : zapT [w2T, w1T] 1 0 9 = [w2T] := by decide +kernel
theorem wkT9 : okT [w2T, w1T] = true := by decide +kernel
theorem wkT0 : okT [zT] = false := by decide +kernel
theorem Grew.grownS {a b : World} (h : Grew a b) (r : Nat) : a.grownBy b (some r) := ⟨h.grown.os, h.grown.tape, h.grown.output, h.grown.size, fun i hi _ => h.grown.block i hi (by simp)⟩
/-- A made list. -/
def RetMp (B b : Nat) (w : World) (e : Ending) (w' : World) : Prop := ∃ v L, e = .returned v ∧ okT L = true ∧ L.length ≤ 8 ∧ RdS 5 encT w' w.heap.size v L ∧ Tp B w' b ∧ w.grownBy w' (some b)
/-- A drawn list. -/
def RetDp (B b : Nat) (w : World) (e : Ending) (w' : World) : Prop := ∃ v L, e = .returned v ∧ L.length ≤ 8 ∧ RdS 5 encT w' w.heap.size v L ∧ Tp B w' b ∧ w.grownBy w' (some b)
end Go.Mine
namespace Go.Proofs.Ytjkkhfionmdmpaa
open Go.RowKit Go.Mine

set_option maxRecDepth 100000 in
set_option maxHeartbeats 4000000 in
theorem ptes_x (B b : Nat) (w : World) (ht : Tp B w b) (hbw : B ≤ w.heap.size) : Calls Try.prog 28 #[.pointer (some ⟨b, 0, none⟩)] w (RetMp B b w) := by
  have hb := ht.ltB
  go_enter Try.func28, Try.ntmps28
  go_wp2_with fail
  with_reducible refine (next_x _ _ _ _ (by omega) (by omega) ht).mono ?_
  rintro e w1 ⟨q, q0, q1, rfl, T1, g1⟩
  obtain ⟨m, rfl⟩ := Int.eq_ofNat_of_zero_le q0
  go_wp2_with fail
  go_loopw [3, 4] (fun v k wr => ∃ (N : Nat) (L : List Pt) (r : Value), r = v ∧ k = .int .i64 N ∧ N + L.length ≤ 8 ∧ Hid (okT L = true) ∧ RdS 5 encT wr w.heap.size r L ∧ Tp B wr b ∧ w.grownBy wr (some b)) (fun _ k _ => (intOf k).toNat)
  case atStart => exact ⟨m, [], _, rfl, rfl, by simp; omega, Lib.hid okT_nil, RdS.nil _ _ _ _ (Nat.zero_le _), T1, g1⟩
  case round =>
    clear T1 g1 q0 q1
    obtain ⟨N, L, v, rfl, rfl, hN5, HOK, R, T, g⟩ := hrel
    obtain ⟨wo, rfl⟩ : ∃ wo : World, wo = wr := ⟨_, rfl⟩
    have hsz := g.size
    rcases N with _ | N
    · rw [show ((0 : Nat) : Int) = 0 from rfl]
      have HR := Lib.hid R
      have HG := Lib.hid g
      clear R g
      go_wp2
      go_ret
      exact ⟨_, L, rfl, HOK.out, by omega, HR.out, T, HG.out⟩
    · go_wp2_with fail
      with_reducible refine (next_x _ _ _ _ (by omega) (by omega) T).mono ?_
      rintro e w2 ⟨q2, a0, a1, rfl, T2, g2⟩
      go_wp2_with fail
      with_reducible refine (next_x _ _ _ _ (by omega) (by omega) T2).mono ?_
      rintro e w3 ⟨q3, b0, b1, rfl, T3, g3⟩
      go_wp2_with fail
      with_reducible refine (next_x _ _ _ _ (by omega) (by omega) T3).mono ?_
      rintro e w4 ⟨q4, c0, c1, rfl, T4, g4⟩
      go_wp2_with fail
      with_reducible refine (next_x _ _ _ _ (by omega) (by omega) T4).mono ?_
      rintro e w5 ⟨q5, d0, d1, rfl, T5, g5⟩
      go_wp2_with fail
      with_reducible refine (next_x _ _ _ _ (by omega) (by omega) T5).mono ?_
      rintro e w6 ⟨q6, e0, e1, rfl, T6, g6⟩
      have g26 := grown_trans (grown_trans (grown_trans (grown_trans g2 g3) g4) g5) g6
      have HR6 := Lib.hid (R.past g26 (by omega))
      have HG6 := Lib.hid (grown_trans g g26)
      have HT6 := Lib.hid T6
      have hs6 := HG6.out.size
      have hw4 : IntKind.i64.wrap (1 + q4) = 1 + q4 := IntWalk.i64_in _ (by omega)
      have hrt : rtT ⟨q2, q3, 1 + q4, q5 == 0, q6 == 0⟩ = true := rtT_iff.2 ⟨⟨a0, by show q2 ≤ 7; omega⟩, ⟨b0, by show q3 ≤ 63; omega⟩, by show 1 ≤ 1 + q4; omega, by show 1 + q4 ≤ 64; omega⟩
      have HE := Lib.hid (entT_0 HOK.out hrt)
      have HOK2 := Lib.hid (okT_ins HOK.out hrt)
      have hle := @insT_le L ⟨q2, q3, 1 + q4, q5 == 0, q6 == 0⟩
      clear R T g T2 T3 T4 T5 T6 g2 g3 g4 g5 g6 g26 hrt
      go_wp2_with fail
      with_reducible refine (enter_q (x := ⟨q2, q3, 1 + q4, q5 == 0, q6 == 0⟩) HR6.out hs6 (by omega)).mono ?_
      rintro e w7 ⟨v7, rfl, R7, g7⟩
      have HR7 := Lib.hid R7
      have HT7 := Lib.hid (HT6.out.grew g7)
      have HG7 := Lib.hid (grown_trans HG6.out (g7.grownS b))
      rw [HE.out] at HR7 ⊢
      clear R7 g7
      generalize insT L ⟨q2, q3, 1 + q4, q5 == 0, q6 == 0⟩ = L2 at *
      go_wp2
      exact ⟨⟨N, L2, v7, rfl, by go_num, by omega, HOK2, HR7.out, HT7.out, HG7.out⟩, by simp [intOf] <;> omega⟩
set_option maxRecDepth 100000 in
set_option maxHeartbeats 8000000 in
theorem drawn_x (B b : Nat) (w : World) (ht : Tp B w b) (hbw : B ≤ w.heap.size) : Calls Try.prog 7 #[.pointer (some ⟨b, 0, none⟩)] w (RetDp B b w) := by
  have hb := ht.ltB
  go_enter Try.func7, Try.ntmps7
  go_upto_region 2 with (first
    | (go_at_call 28
       with_reducible refine (ptes_x _ _ _ ht hbw).mono ?_
       rintro e w1 ⟨v, L, rfl, hok, hl8, R1, T1, g1⟩
       obtain ⟨a, c, rfl, -, -⟩ := R1.slice
       obtain ⟨-, hs, hlies⟩ := R1.lies encT_len
       have HL2 := Lib.hid hlies
       have hx6 : ([] : List Pt).length + L.length < 1000000 := by simp; omega
       have hz2 := g1.size
       have HG1 := Lib.hid g1
       clear R1 hlies g1)
    | (at_builtin; go_loud (
       refine wpList_append_src _ rfl _ _ 26 rfl w.heap.size info_pt Try.underlying26 (by decide) (by decide) encT_len (fun z => encT_one) (.slice none 0 0) [] rfl (RowE.nil _ _) _ _ _ L rfl rfl HL2.out hx6 (by decide) hz2 ?_
       intro v3 w3 R3 G3 o3
       rw [List.nil_append] at R3
       have HR3 := Lib.hid R3
       have g3 : w1.grownBy w3 none := G3
       have HG3 := Lib.hid (grown_above HG1.out g3 (fun x e => by cases e))
       have T3 : Tp B w3 b := Tp.keptA T1 g3 (B := w.heap.size) (fun x e => by cases e) hbw
       clear o3 R3 G3 g3))
    | fail)
  obtain ⟨a3, c3, rfl⟩ := HR3.out.len
  have hs3 := HG3.out.size
  clear hx6 hz2 hs HL2 hok HG1 T1
  cases L with
  | nil =>
    rw [List.length_nil] at *
    go_wp2
    go_ret
    exact ⟨_, [], rfl, Nat.zero_le _, RowE.rdS encT_len HR3.out, T3, HG3.out⟩
  | cons x L =>
    obtain ⟨p, hln⟩ : ∃ p, (x :: L).length = p := ⟨_, rfl⟩
    have HLN := Lib.hid hln
    have hp1 : 0 < p := by rw [← hln]; simp
    rw [hln] at hl8 HR3 ⊢
    have hp0 : (0 : Int) < (p : Int) := by omega
    clear hln
    go_wp2_with fail
    with_reducible refine (next_x _ _ _ _ (by omega) (by omega) T3).mono ?_
    rintro e w4 ⟨q, a0, a1, rfl, T4, g4⟩
    have HR4 := Lib.hid (HR3.out.past g4 (by omega))
    have HG4 := Lib.hid (grown_trans HG3.out g4)
    have hs4 := HG4.out.size
    clear T3 g4 HR3 HG3 hs3
    by_cases hq : q = 0
    · subst hq
      have hpi0 : (1 : Int) ≤ (p : Int) := by omega
      have hpi1 : (p : Int) ≤ 1000000 := by omega
      go_wp2_with fail
      with_reducible refine (next_x _ _ _ _ hpi0 hpi1 T4).mono ?_
      rintro e w5 ⟨q5, b0, b1, rfl, T5, g5⟩
      obtain ⟨k, rfl⟩ := Int.eq_ofNat_of_zero_le b0
      go_wp2_with fail
      with_reducible refine (next_x _ _ _ _ (by omega) (by omega) T5).mono ?_
      rintro e w6 ⟨q6, c0, c1, rfl, T6, g6⟩
      have g46 := grown_trans g5 g6
      have HR6 := Lib.hid (HR4.out.past g46 (by omega))
      have HG6 := Lib.hid (grown_trans HG4.out g46)
      have hs6 := HG6.out.size
      clear T4 T5 g5 g6 g46 HR4 HG4 hs4
      have hkl : k < (x :: L).length := by rw [HLN.out]; omega
      have hk0 : (0 : Int) ≤ (k : Int) := by omega
      have hk1 : (k : Int) < (p : Int) := by omega
      obtain ⟨d, hd⟩ : ∃ d, (x :: L).getD k zT = d := ⟨_, rfl⟩
      rcases (show q6 = 0 ∨ q6 = 1 ∨ q6 = 2 by omega) with rfl | rfl | rfl
      · go_wp2_with fail
        with_reducible refine (odd_x _ _ _ T6 (by omega)).mono ?_
        rintro e w7 ⟨z, rfl, T7, g7⟩
        have HR7 := Lib.hid (HR6.out.past g7 (by omega))
        have HG7 := Lib.hid (grown_trans HG6.out g7)
        rcases HR7.out.shape encT_len with ⟨e9, -⟩ | ⟨gr, cap, e9, hBg, hg, -, -, -, hfr⟩
        · injection e9 with e8 e9 e10; omega
        · injection e9 with e8 e9 e10
          subst e8
          have f0 := hfr (k * 5 + 2)
          have HPUT := Lib.hid (HR7.out.put1T hkl 2 (by decide) (.int .i64 z) ⟨d.p, d.v, z, d.w, d.a⟩ (by rw [hd]; rfl))
          have HTP := Lib.hid (T7.set (p := ⟨gr, k * 5 + 2, none⟩) (show B ≤ gr by omega) (.int .i64 z))
          have HGP := Lib.hid (grown_set HG7.out (p := ⟨gr, k * 5 + 2, none⟩) (.inr hBg) (.int .i64 z))
          obtain ⟨gq, oq, e7, -, -, y0, y1, y2, y3, y4⟩ := (RowE.rdS encT_len HR7.out).atT hkl
          injection e7 with e7
          injection e7 with e7 e6
          subst e7 e6
          rw [Nat.zero_add] at y0 y1 y2 y3 y4
          clear g7 T6 T7 hfr HR6 HG6 e9 e10 hd
          go_wp2
          go_ret
          exact ⟨_, (x :: L).set k ⟨d.p, d.v, z, d.w, d.a⟩, rfl, by rw [List.length_set, HLN.out]; exact hl8, RowE.rdS encT_len HPUT.out, HTP.out, HGP.out⟩
      · go_wp2_with fail
        with_reducible refine (odd_x _ _ _ T6 (by omega)).mono ?_
        rintro e w7 ⟨z, rfl, T7, g7⟩
        have HR7 := Lib.hid (HR6.out.past g7 (by omega))
        have HG7 := Lib.hid (grown_trans HG6.out g7)
        rcases HR7.out.shape encT_len with ⟨e9, -⟩ | ⟨gr, cap, e9, hBg, hg, -, -, -, hfr⟩
        · injection e9 with e8 e9 e10; omega
        · injection e9 with e8 e9 e10
          subst e8
          have f0 := hfr (k * 5 + 1)
          have HPUT := Lib.hid (HR7.out.put1T hkl 1 (by decide) (.int .i64 z) ⟨d.p, z, d.f, d.w, d.a⟩ (by rw [hd]; rfl))
          have HTP := Lib.hid (T7.set (p := ⟨gr, k * 5 + 1, none⟩) (show B ≤ gr by omega) (.int .i64 z))
          have HGP := Lib.hid (grown_set HG7.out (p := ⟨gr, k * 5 + 1, none⟩) (.inr hBg) (.int .i64 z))
          obtain ⟨gq, oq, e7, -, -, y0, y1, y2, y3, y4⟩ := (RowE.rdS encT_len HR7.out).atT hkl
          injection e7 with e7
          injection e7 with e7 e6
          subst e7 e6
          rw [Nat.zero_add] at y0 y1 y2 y3 y4
          clear g7 T6 T7 hfr HR6 HG6 e9 e10 hd
          go_wp2
          go_ret
          exact ⟨_, (x :: L).set k ⟨d.p, z, d.f, d.w, d.a⟩, rfl, by rw [List.length_set, HLN.out]; exact hl8, RowE.rdS encT_len HPUT.out, HTP.out, HGP.out⟩
      · go_wp2_with fail
        with_reducible refine (odd_x _ _ _ T6 (by omega)).mono ?_
        rintro e w7 ⟨z, rfl, T7, g7⟩
        have HR7 := Lib.hid (HR6.out.past g7 (by omega))
        have HG7 := Lib.hid (grown_trans HG6.out g7)
        rcases HR7.out.shape encT_len with ⟨e9, -⟩ | ⟨gr, cap, e9, hBg, hg, -, -, -, hfr⟩
        · injection e9 with e8 e9 e10; omega
        · injection e9 with e8 e9 e10
          subst e8
          have f0 := hfr (k * 5)
          have HPUT := Lib.hid (HR7.out.put1T hkl 0 (by decide) (.int .i64 z) ⟨z, d.v, d.f, d.w, d.a⟩ (by rw [hd]; rfl))
          have HTP := Lib.hid (T7.set (p := ⟨gr, k * 5, none⟩) (show B ≤ gr by omega) (.int .i64 z))
          have HGP := Lib.hid (grown_set HG7.out (p := ⟨gr, k * 5, none⟩) (.inr hBg) (.int .i64 z))
          obtain ⟨gq, oq, e7, -, -, y0, y1, y2, y3, y4⟩ := (RowE.rdS encT_len HR7.out).atT hkl
          injection e7 with e7
          injection e7 with e7 e6
          subst e7 e6
          rw [Nat.zero_add] at y0 y1 y2 y3 y4
          clear g7 T6 T7 hfr HR6 HG6 e9 e10 hd
          go_wp2
          go_ret
          exact ⟨_, (x :: L).set k ⟨z, d.v, d.f, d.w, d.a⟩, rfl, by rw [List.length_set, HLN.out]; exact hl8, RowE.rdS encT_len HPUT.out, HTP.out, HGP.out⟩
    · have hq0 : (q == 0) = false := by simp [hq]
      go_wp2
      go_ret
      exact ⟨_, x :: L, rfl, by rw [HLN.out]; exact hl8, RowE.rdS encT_len HR4.out, T4, HG4.out⟩
set_option maxRecDepth 100000 in
set_option maxHeartbeats 4000000 in
theorem awake_any (w : World) : Calls Try.prog 27 #[] w (RetG (.bool true) w) := by
  have h0 : RdS 5 encT w 0 (.slice none 0 0) ([] : List Pt) := RdS.nil _ _ _ _ (Nat.zero_le _)
  go_enter Try.func27, Try.ntmps27
  go_wp2_with fail
  with_reducible refine (enter_p (x := w1T) h0 (Nat.zero_le _) (by decide)).mono ?_
  rw [wkT1]
  rintro e w1 ⟨v1, rfl, R1, g1⟩
  have HG1 := Lib.hid g1
  go_wp2_with fail
  with_reducible refine (enter_p (x := w2T) R1 (Nat.zero_le _) (by decide)).mono ?_
  rw [wkT2]
  rintro e w2 ⟨v2, rfl, R2, g2⟩
  have HR2 := Lib.hid R2
  have HG2 := Lib.hid (HG1.out.trans g2)
  clear h0 R1 R2 g1 g2 HG1
  go_wp2_with fail
  with_reducible refine (protect_p HR2.out (by decide)).mono ?_
  rw [wkT3]
  rintro e w3 ⟨v3, rfl, R3, g3⟩
  have HR3 := Lib.hid (HR2.out.grew g3)
  have HP3 := Lib.hid R3
  have HG3 := Lib.hid (HG2.out.trans g3)
  clear R3 g3 HR2 HG2
  go_wp2_with fail
  with_reducible refine (get_p HP3.out (by decide) wkT4).mono ?_
  rintro e w4 ⟨rfl, g4⟩
  have HR4 := Lib.hid ((HR3.out.grew g4).alloc (.cells #[.int .i64 1, .int .i64 2, .int .i64 3, .bool false, .bool true] 30))
  have HG4 := Lib.hid ((HG3.out.trans g4).alloc (.cells #[.int .i64 1, .int .i64 2, .int .i64 3, .bool false, .bool true] 30))
  have HO4 := Lib.hid (Mine.Own.new w4 30 #[.int .i64 1, .int .i64 2, .int .i64 3, .bool false, .bool true])
  clear HR3 HP3 HG3 g4
  go_wp2_with fail
  with_reducible refine (young_p HR4.out (by decide)).mono ?_
  rw [wkT5]
  rintro e w5 ⟨v5, rfl, R5, g5⟩
  have HR5 := Lib.hid (HR4.out.grew g5)
  have HY5 := Lib.hid R5
  have HG5 := Lib.hid (HG4.out.trans g5)
  obtain ⟨x0, x1, x2, x3, x4⟩ := (HO4.out.grew g5).fiveT
  obtain ⟨a5, c5, rfl⟩ : ∃ a c, v5 = .slice a 2 c := by obtain ⟨a, c, e, -, -⟩ := HY5.out.slice; exact ⟨a, c, e⟩
  obtain ⟨y, o, rfl, -, hy, d0, d1, d2, d3, d4⟩ := HY5.out.atT (k := 1) (show 1 < 2 by decide)
  have d4' : w5.cell? ⟨y, o + 5 + 4, none⟩ = some (.bool false) := d4
  clear HR4 HG4 g5 d0 d1 d2 d3 d4 R5 HO4
  go_wp2_with fail
  with_reducible refine (of_p HR5.out (by decide)).mono ?_
  rw [wkT6]
  rintro e w6 ⟨v6, rfl, R6, g6⟩
  have HR6 := Lib.hid (HR5.out.grew g6)
  have HG6 := Lib.hid (HG5.out.trans g6)
  obtain ⟨a6, c6, rfl⟩ : ∃ a c, v6 = .slice a 2 c := by obtain ⟨a, c, e, -, -⟩ := R6.slice; exact ⟨a, c, e⟩
  clear R6 g6 HR5 HG5 x0 x1 x2 x3 x4 d4' HY5
  go_wp2_with fail
  with_reducible refine (drop_p HR6.out (by decide)).mono ?_
  rw [wkT7]
  rintro e w7 ⟨v7, rfl, R7, g7⟩
  have HR7 := Lib.hid (HR6.out.grew g7)
  have HG7 := Lib.hid (HG6.out.trans g7)
  obtain ⟨a7, c7, rfl⟩ : ∃ a c, v7 = .slice a 0 c := by obtain ⟨a, c, e, -, -⟩ := R7.slice; exact ⟨a, c, e⟩
  clear R7 g7 HR6 HG6
  go_wp2_with fail
  with_reducible refine (zap_p HR7.out (by decide) (by decide)).mono ?_
  rw [wkT8]
  rintro e w8 ⟨v8, rfl, R8, g8⟩
  have HR8 := Lib.hid (HR7.out.grew g8)
  have HG8 := Lib.hid (HG7.out.trans g8)
  obtain ⟨a8, c8, rfl⟩ : ∃ a c, v8 = .slice a 1 c := by obtain ⟨a, c, e, -, -⟩ := R8.slice; exact ⟨a, c, e⟩
  clear R8 g8 HR7 HG7
  go_wp2_with fail
  with_reducible refine (check_p HR8.out (by decide) wkT9).mono ?_
  rintro e w9 ⟨rfl, g9⟩
  have HG9 := Lib.hid ((HG8.out.trans g9).alloc (.cells #[.int .i64 0, .int .i64 0, .int .i64 0, .bool false, .bool false] 30))
  have HZ9 : Hid (RdS 5 encT (w9.alloc (.cells #[.int .i64 0, .int .i64 0, .int .i64 0, .bool false, .bool false] 30)) 0 (.slice (some ⟨w9.heap.size, 0, none⟩) 1 1) [zT]) := Lib.hid (RowE.rdS (T := 30) encT_len (RowE.lit w9 _ rfl rfl (show 1 ≤ maxLen by decide) (Nat.zero_le _)))
  clear HR8 HG8 g9
  go_wp2_with fail
  with_reducible refine (check_p HZ9.out (by decide) wkT0).mono ?_
  rintro e w10 ⟨rfl, g10⟩
  have HG10 := Lib.hid (HG9.out.trans g10)
  clear g10
  go_wp2
  go_ret
  exact ⟨rfl, HG10.out⟩
end Go.Proofs.Ytjkkhfionmdmpaa
