/- PagetableCalls holds: what becomes of entries, and what is found in them, and the errors, are those of the document's answer. -/
import Derived.Test.YtjkkhfionmdmpaaPs1
import Derived.Deep.CutBlock
namespace Go.Mine
open Go Go.RowKit
/-- From block B on nothing that was there has turned. -/
structure KpT (B : Nat) (w w' : World) : Prop where
  size : w.heap.size ≤ w'.heap.size
  same : ∀ i, B ≤ i → i < w.heap.size → w'.heap[i]? = w.heap[i]?
theorem KpT.refl (B : Nat) (w : World) : KpT B w w := ⟨Nat.le_refl _, fun _ _ _ => rfl⟩
theorem KpT.past {B b : Nat} {w a c : World} (h : KpT B w a) (g : a.grownBy c (some b)) (hb : b < B) : KpT B w c :=
  ⟨Nat.le_trans h.size g.size, fun i h1 h2 => (g.block i (Nat.lt_of_lt_of_le h2 h.size) (fun e => by injection e with e; omega)).trans (h.same i h1 h2)⟩
theorem KpT.far {B b : Nat} {w a c : World} (h : KpT B w a) (g : a.grownBy c (some b)) (hb : w.heap.size ≤ b) : KpT B w c :=
  ⟨Nat.le_trans h.size g.size, fun i h1 h2 => (g.block i (Nat.lt_of_lt_of_le h2 h.size) (fun e => by injection e with e; omega)).trans (h.same i h1 h2)⟩
theorem KpT.alloc {B : Nat} {w a : World} (h : KpT B w a) (o : Obj) : KpT B w (a.alloc o) := h.far (b := a.heap.size) (grown_alloc (grown_refl _ _) o) h.size
theorem KpT.set {B : Nat} {w a : World} (h : KpT B w a) {p : Addr} (hp : w.heap.size ≤ p.block) (u : Value) : KpT B w (a.setCell p u) := h.far (b := p.block) (grown_set (p := p) (grown_refl _ _) (.inl rfl) u) hp
theorem RdS.keptT {α : Type} {sz : Nat} {enc : α → List Value} {w w' : World} {B : Nat} {v : Value} {L : List α} (h : RdS sz enc w B v L) (g : KpT B w w') : RdS sz enc w' B v L := by
  obtain ⟨a, c, rfl, h1, h2, h3⟩ := h
  refine ⟨a, c, rfl, h1, h2, ?_⟩
  rcases h3 with h3 | ⟨b, o, rfl, hB, hb, hc⟩
  · exact .inl h3
  · exact .inr ⟨b, o, rfl, hB, Nat.lt_of_lt_of_le hb g.size, fun k hk j hj => (World.cell?_of_block (a := ⟨b, o + (k * sz + j), none⟩) (g.same b hB hb)).trans (hc k hk j hj)⟩
/-- The list; the entry's box; a number of pages, a frame. -/
def PcCut (w : World) (v : Value) (L : List Pt) (b5 : Nat) (T : TypeId) (v6 v7 : Value) (wx : World) : Prop := ∃ (m f : Int) (x : Pt), v6 = .int .i64 m ∧ v7 = .int .i64 f ∧ m ≤ 9223372036854775807 ∧ RdS 5 encT wx w.heap.size v L ∧
  Own wx b5 T #[.int .i64 x.p, .int .i64 x.v, .int .i64 x.f, .bool x.w, .bool x.a] ∧ Grew w wx
theorem entT_len (L : List Pt) (x : Pt) : (entT L x).1.length ≤ L.length + 1 := by
  unfold entT
  cases okT L
  · exact Nat.le_succ _
  · cases rtT x
    · exact Nat.le_succ _
    · exact insT_le
theorem zapT_len (L : List Pt) (p v c : Int) : (zapT L p v c).length ≤ L.length := by
  unfold zapT
  cases (decide (1 ≤ c) && okT L)
  · exact Nat.le_refl _
  · exact List.length_filter_le _ _
theorem ofT_len (L : List Pt) (f : Int) : (ofT L f).length ≤ L.length := by
  unfold ofT
  cases okT L
  · exact Nat.zero_le _
  · exact List.length_filter_le _ _
theorem drpT_len (L : List Pt) (f : Int) : (drpT L f).length ≤ L.length := by
  unfold drpT
  cases okT L
  · exact Nat.le_refl _
  · exact List.length_filter_le _ _
theorem prtT_len (L : List Pt) (f : Int) : (prtT L f).length = L.length := by
  unfold prtT
  cases okT L
  · rfl
  · exact List.length_map ..
theorem yngT_len (L : List Pt) (f : Int) : (yngT L f).1.length = L.length := by
  unfold yngT
  cases okT L
  · rfl
  · exact List.length_map ..
end Go.Mine
namespace Go.Proofs.Ytjkkhfionmdmpaa
open Go.ChangeShapes Go.WideShapes Go.ChangeAt Go.RowKit Go.Mine

set_option maxRecDepth 100000 in
set_option maxHeartbeats 16000000 in
theorem calls_core (A : Option Addr) (c : Nat) (xs : List Int) (w : World) (hr : IntRow w A xs) (hm : xs.length ≤ maxLen) :
    Calls Try.prog 3 #[.slice A xs.length c] w (RetG (.bool true) w) := by
  have tp := Tp.made hr hm c 25
  have gA := (Grew.refl w).alloc (.cells #[.slice A xs.length c, .int .i64 0] 25)
  have hbw : w.heap.size + 1 ≤ (w.alloc (.cells #[.slice A xs.length c, .int .i64 0] 25)).heap.size := by simp
  have hB0 : w.heap.size < w.heap.size + 1 := Nat.lt_succ_self _
  clear hr hm
  generalize hX : xs.length = X at *
  clear hX
  go_enter Try.func3, Try.ntmps3
  go_wp2_with fail
  with_reducible refine (drawn_x _ _ _ tp hbw).mono ?_
  rintro e w1 ⟨v, L, rfl, hl8, R1, T1, g1⟩
  have HG1 := Lib.hid (gA.past g1 (Nat.le_refl _))
  have HR1 := Lib.hid (R1.wider hbw)
  have hb1 := Nat.le_trans hbw g1.size
  clear gA tp g1 R1 hbw
  go_wp2_with fail
  with_reducible refine (next_x _ _ _ _ (by omega) (by omega) T1).mono ?_
  rintro e w2 ⟨q2, a2, b2, rfl, T2, g2⟩
  go_wp2_with fail
  with_reducible refine (next_x _ _ _ _ (by omega) (by omega) T2).mono ?_
  rintro e w3 ⟨q3, a3, b3, rfl, T3, g3⟩
  go_wp2_with fail
  with_reducible refine (next_x _ _ _ _ (by omega) (by omega) T3).mono ?_
  rintro e w4 ⟨q4, a4, b4, rfl, T4, g4⟩
  go_wp2_with fail
  with_reducible refine (next_x _ _ _ _ (by omega) (by omega) T4).mono ?_
  rintro e w5 ⟨q5, a5, b5, rfl, T5, g5⟩
  go_wp2_with fail
  with_reducible refine (next_x _ _ _ _ (by omega) (by omega) T5).mono ?_
  rintro e w6 ⟨q6, a6, b6, rfl, T6, g6⟩
  have g26 := grown_trans (grown_trans (grown_trans (grown_trans g2 g3) g4) g5) g6
  have HR6 := Lib.hid (HR1.out.past g26 hB0)
  have HG6 := Lib.hid (HG1.out.past g26 (Nat.le_refl _))
  have hb6 := Nat.le_trans hb1 g26.size
  have hw4 : IntKind.i64.wrap (1 + q4) = 1 + q4 := IntWalk.i64_in _ (by omega)
  have HO6 := Lib.hid (Mine.Own.new w6 30 #[.int .i64 q2, .int .i64 q3, .int .i64 (1 + q4), .bool (q5 == 0), .bool (q6 == 0)])
  have HK7 := Lib.hid ((KpT.refl (w.heap.size + 1) w6).alloc (.cells #[.int .i64 q2, .int .i64 q3, .int .i64 (1 + q4), .bool (q5 == 0), .bool (q6 == 0)] 30))
  have HG7 := Lib.hid (HG6.out.alloc (.cells #[.int .i64 q2, .int .i64 q3, .int .i64 (1 + q4), .bool (q5 == 0), .bool (q6 == 0)] 30))
  have T7 := T6.alloc (.cells #[.int .i64 q2, .int .i64 q3, .int .i64 (1 + q4), .bool (q5 == 0), .bool (q6 == 0)] 30)
  have hbx : w.heap.size < w6.heap.size := by omega
  have hb7 : w.heap.size + 1 ≤ (w6.alloc (.cells #[.int .i64 q2, .int .i64 q3, .int .i64 (1 + q4), .bool (q5 == 0), .bool (q6 == 0)] 30)).heap.size := by simp; omega
  clear g2 g3 g4 g5 g6 g26 T1 T2 T3 T4 T5 T6 HG1 HR1 hb1 HG6 hb6
  go_wp2_with fail
  with_reducible refine (next_x _ _ _ _ (by omega) (by omega) T7).mono ?_
  rintro e w8 ⟨q8, a8, b8, rfl, T8, g8⟩
  go_wp2_with fail
  with_reducible refine (next_x _ _ _ _ (by omega) (by omega) T8).mono ?_
  rintro e w9 ⟨q9, a9, b9, rfl, T9, g9⟩
  have hw8 : IntKind.i64.wrap (q8 - 1) = q8 - 1 := IntWalk.i64_in _ (by omega)
  have hw9 : IntKind.i64.wrap (1 + q9) = 1 + q9 := IntWalk.i64_in _ (by omega)
  go_wp2_with fail
  with_reducible refine (next_x _ _ _ _ (by omega) (by omega) T9).mono ?_
  rintro e w10 ⟨q10, a10, b10, rfl, T10, g10⟩
  have g810 := grown_trans (grown_trans g8 g9) g10
  have HK10 := Lib.hid (HK7.out.past g810 hB0)
  have HG10 := Lib.hid (HG7.out.past g810 (Nat.le_refl _))
  have HO10 := Lib.hid (HO6.out.past g810 (by omega))
  have hb10 := Nat.le_trans hb7 g810.size
  have hq8 : q8 - 1 ≤ 9223372036854775807 := by omega
  clear g8 g9 g10 g810 T7 T8 T9 HK7 HG7 HO6 hb7
  go_upto_block 0 with fail
  go_cut [6, 7] from 48 to 66 (PcCut w v L w6.heap.size 30)
  case first =>
    by_cases h0 : q10 = 0
    · subst h0
      go_wp2_with fail
      with_reducible refine (odd_x _ _ _ T10 (by omega)).mono ?_
      rintro e w11 ⟨z1, rfl, T11, g11⟩
      have hb11 := Nat.le_trans hb10 g11.size
      go_wp2_with fail
      with_reducible refine (odd_w _ _ _ T11 (by omega)).mono ?_
      rintro e w12 ⟨z2, hz2, rfl, T12, g12⟩
      have g1112 := grown_trans g11 g12
      have HG13 := Lib.hid (HG10.out.past g1112 (Nat.le_refl _))
      have HO13 := Lib.hid (HO10.out.past g1112 (by omega))
      obtain ⟨x0, x1, x2, x3, x4⟩ := HO13.out.fiveT
      obtain ⟨y0, y1, y2, y3, y4⟩ := HO13.out.five0
      have HOS := Lib.hid (HO13.out.set 2 (.int .i64 z1))
      have HRS := Lib.hid (HR6.out.keptT ((HK10.out.past g1112 hB0).set (p := ⟨w6.heap.size, 2, none⟩) (Nat.le_refl _) (.int .i64 z1)))
      have HGS := Lib.hid (HG13.out.set (p := ⟨w6.heap.size, 2, none⟩) (by show w.heap.size ≤ w6.heap.size; omega) (.int .i64 z1))
      clear g11 g12 g1112 HK10 HG10 HO10
      go_wp2_with fail
      go_meet
      exact ⟨_, _, ⟨q2, q3, z1, q5 == 0, q6 == 0⟩, rfl, rfl, (wf_le hz2).2, HRS.out.wider (Nat.le_succ _), HOS.out, HGS.out⟩
    · have e0 : (q10 == 0) = false := by simpa using h0
      by_cases h1 : q10 = 1
      · subst h1
        go_wp2_with fail
        with_reducible refine (odd_x _ _ _ T10 (by omega)).mono ?_
        rintro e w11 ⟨z1, rfl, T11, g11⟩
        have HG13 := Lib.hid (HG10.out.past g11 (Nat.le_refl _))
        have HO13 := Lib.hid (HO10.out.past g11 (by omega))
        obtain ⟨x0, x1, x2, x3, x4⟩ := HO13.out.fiveT
        obtain ⟨y0, y1, y2, y3, y4⟩ := HO13.out.five0
        have HOS := Lib.hid (HO13.out.set 1 (.int .i64 z1))
        have HRS := Lib.hid (HR6.out.keptT ((HK10.out.past g11 hB0).set (p := ⟨w6.heap.size, 1, none⟩) (Nat.le_refl _) (.int .i64 z1)))
        have HGS := Lib.hid (HG13.out.set (p := ⟨w6.heap.size, 1, none⟩) (by show w.heap.size ≤ w6.heap.size; omega) (.int .i64 z1))
        clear g11 HK10 HG10 HO10
        go_wp2_with fail
        go_meet
        exact ⟨_, _, ⟨q2, z1, 1 + q4, q5 == 0, q6 == 0⟩, rfl, rfl, hq8, HRS.out.wider (Nat.le_succ _), HOS.out, HGS.out⟩
      · have e1 : (q10 == 1) = false := by simpa using h1
        by_cases h2 : q10 = 2
        · subst h2
          go_wp2_with fail
          with_reducible refine (odd_x _ _ _ T10 (by omega)).mono ?_
          rintro e w11 ⟨z1, rfl, T11, g11⟩
          have hb11 := Nat.le_trans hb10 g11.size
          go_wp2_with fail
          with_reducible refine (odd_x _ _ _ T11 (by omega)).mono ?_
          rintro e w12 ⟨z2, rfl, T12, g12⟩
          have g1112 := grown_trans g11 g12
          have HG13 := Lib.hid (HG10.out.past g1112 (Nat.le_refl _))
          have HO13 := Lib.hid (HO10.out.past g1112 (by omega))
          obtain ⟨x0, x1, x2, x3, x4⟩ := HO13.out.fiveT
          obtain ⟨y0, y1, y2, y3, y4⟩ := HO13.out.five0
          have HOS := Lib.hid (HO13.out.set 0 (.int .i64 z1))
          have HRS := Lib.hid (HR6.out.keptT ((HK10.out.past g1112 hB0).set (p := ⟨w6.heap.size, 0, none⟩) (Nat.le_refl _) (.int .i64 z1)))
          have HGS := Lib.hid (HG13.out.set (p := ⟨w6.heap.size, 0, none⟩) (by show w.heap.size ≤ w6.heap.size; omega) (.int .i64 z1))
          clear g11 g12 g1112 HK10 HG10 HO10
          go_wp2_with fail
          go_meet
          exact ⟨_, _, ⟨z1, q3, 1 + q4, q5 == 0, q6 == 0⟩, rfl, rfl, hq8, HRS.out.wider (Nat.le_succ _), HOS.out, HGS.out⟩
        · have e2 : (q10 == 2) = false := by simpa using h2
          go_wp2_with fail
          go_meet
          exact ⟨_, _, ⟨q2, q3, 1 + q4, q5 == 0, q6 == 0⟩, rfl, rfl, hq8, (HR6.out.keptT HK10.out).wider (Nat.le_succ _), HO10.out, HG10.out⟩
  case rest =>
    obtain ⟨m, f, x, rfl, rfl, hmx, R, O, G⟩ := hcut
    have HR0 := Lib.hid R
    have HO0 := Lib.hid O
    have HG0 := Lib.hid G
    have hz0 := G.size
    clear R O G HR6 HO10 HK10 HG10 hb10 hbx hw4 hw8 hw9 hq8 T10 a2 b2 a3 b3 a4 b4 a5 b5 a6 b6 a8 b8 a9 b9 a10 b10
    generalize w6.heap.size = bb at *
    have hl1 : L.length ≤ 1000 := by omega
    have HA1 := Lib.hid (show (entT L x).1.length ≤ 1000 by have := entT_len L x; omega)
    have HA2 := Lib.hid (show (yngT L f).1.length ≤ 1000 by have := yngT_len L f; omega)
    have HA3 := Lib.hid (show (zapT L x.p x.v m).length ≤ 1000 by have := zapT_len L x.p x.v m; omega)
    have HA4 := Lib.hid (show (ofT L f).length ≤ 1000 by have := ofT_len L f; omega)
    have HA5 := Lib.hid (show (drpT L f).length ≤ 1000 by have := drpT_len L f; omega)
    have HA6 := Lib.hid (show (prtT L f).length ≤ 1000 by have := prtT_len L f; omega)
    obtain ⟨⟨le, ee⟩, hxe⟩ : ∃ y, entT L x = y := ⟨_, rfl⟩
    obtain ⟨⟨gd, gb⟩, hxg⟩ : ∃ y, getT L x.p x.v = y := ⟨_, rfl⟩
    obtain ⟨⟨ly, yb⟩, hxy⟩ : ∃ y, yngT L f = y := ⟨_, rfl⟩
    obtain ⟨lz, hxz⟩ : ∃ y, zapT L x.p x.v m = y := ⟨_, rfl⟩
    obtain ⟨lo, hxo⟩ : ∃ y, ofT L f = y := ⟨_, rfl⟩
    obtain ⟨ld, hxd⟩ : ∃ y, drpT L f = y := ⟨_, rfl⟩
    obtain ⟨lp, hxp⟩ : ∃ y, prtT L f = y := ⟨_, rfl⟩
    obtain ⟨kb, hkb⟩ : ∃ y, okT L = y := ⟨_, rfl⟩
    rw [hxe] at HA1
    rw [hxy] at HA2
    rw [hxz] at HA3
    rw [hxo] at HA4
    rw [hxd] at HA5
    rw [hxp] at HA6
    simp only at HA1 HA2
    have HXE := Lib.hid hxe
    have HXG := Lib.hid hxg
    have HXY := Lib.hid hxy
    have HXZ := Lib.hid hxz
    have HXO := Lib.hid hxo
    have HXD := Lib.hid hxd
    have HXP := Lib.hid hxp
    have HKB := Lib.hid hkb
    have hee : ∀ (w : World) (d : Pt), (binOp .eql 30 (ptV d) (ptV d)).run Try.prog w = .ok (.bool true) w := fun w d => (run_eqlT w d d).trans (by simp)
    clear hxe hxg hxy hxz hxo hxd hxp hkb
    obtain ⟨x0, x1, x2, x3, x4⟩ := HO0.out.fiveT
    go_wp2_with fail
    with_reducible refine (enter_p HR0.out hz0 hl1).mono ?_
    rw [HXE.out]
    rintro e9 w21 ⟨va, rfl, R9, g⟩
    have HR1 := Lib.hid (HR0.out.grew g)
    have HO1 := Lib.hid (HO0.out.grew g)
    have HG1 := Lib.hid (HG0.out.trans g)
    have HA1 := Lib.hid R9
    have hz1 := HG1.out.size
    clear g hz0 HR0 HO0 HG0 R9
    clear x0 x1 x2 x3 x4
    obtain ⟨x0, x1, x2, x3, x4⟩ := HO1.out.fiveT
    go_wp2_with fail
    with_reducible refine (enter_q HR1.out hz1 hl1).mono ?_
    rw [HXE.out]
    rintro e9 w22 ⟨vb, rfl, R9, g⟩
    have HR2 := Lib.hid (HR1.out.grew g)
    have HO2 := Lib.hid (HO1.out.grew g)
    have HG2 := Lib.hid (HG1.out.trans g)
    have HA2 := Lib.hid (HA1.out.grew g)
    have HB2 := Lib.hid R9
    have hz2 := HG2.out.size
    clear g hz1 HR1 HO1 HG1 HA1 R9
    clear x0 x1 x2 x3 x4
    obtain ⟨x0, x1, x2, x3, x4⟩ := HO2.out.fiveT
    go_wp2_with fail
    with_reducible refine (get_p HR2.out hl1 HXG.out).mono ?_
    rintro e9 w23 ⟨rfl, g⟩
    have HR3 := Lib.hid ((HR2.out.grew g).alloc (.cells #[.int .i64 gd.p, .int .i64 gd.v, .int .i64 gd.f, .bool gd.w, .bool gd.a] 30))
    have HO3 := Lib.hid ((HO2.out.grew g).alloc (.cells #[.int .i64 gd.p, .int .i64 gd.v, .int .i64 gd.f, .bool gd.w, .bool gd.a] 30))
    have HG3 := Lib.hid ((HG2.out.trans g).alloc (.cells #[.int .i64 gd.p, .int .i64 gd.v, .int .i64 gd.f, .bool gd.w, .bool gd.a] 30))
    have HA3 := Lib.hid ((HA2.out.grew g).alloc (.cells #[.int .i64 gd.p, .int .i64 gd.v, .int .i64 gd.f, .bool gd.w, .bool gd.a] 30))
    have HB3 := Lib.hid ((HB2.out.grew g).alloc (.cells #[.int .i64 gd.p, .int .i64 gd.v, .int .i64 gd.f, .bool gd.w, .bool gd.a] 30))
    have HP3 := Lib.hid (Mine.Own.new w23 30 #[.int .i64 gd.p, .int .i64 gd.v, .int .i64 gd.f, .bool gd.w, .bool gd.a])
    have hz3 := HG3.out.size
    clear g hz2 HR2 HO2 HG2 HA2 HB2
    clear x0 x1 x2 x3 x4
    obtain ⟨x0, x1, x2, x3, x4⟩ := HO3.out.fiveT
    go_wp2_with fail
    with_reducible refine (get_q HR3.out hl1 HXG.out).mono ?_
    rintro e9 w24 ⟨rfl, g⟩
    have HR4 := Lib.hid ((HR3.out.grew g).alloc (.cells #[.int .i64 gd.p, .int .i64 gd.v, .int .i64 gd.f, .bool gd.w, .bool gd.a] 30))
    have HO4 := Lib.hid ((HO3.out.grew g).alloc (.cells #[.int .i64 gd.p, .int .i64 gd.v, .int .i64 gd.f, .bool gd.w, .bool gd.a] 30))
    have HG4 := Lib.hid ((HG3.out.trans g).alloc (.cells #[.int .i64 gd.p, .int .i64 gd.v, .int .i64 gd.f, .bool gd.w, .bool gd.a] 30))
    have HA4 := Lib.hid ((HA3.out.grew g).alloc (.cells #[.int .i64 gd.p, .int .i64 gd.v, .int .i64 gd.f, .bool gd.w, .bool gd.a] 30))
    have HB4 := Lib.hid ((HB3.out.grew g).alloc (.cells #[.int .i64 gd.p, .int .i64 gd.v, .int .i64 gd.f, .bool gd.w, .bool gd.a] 30))
    have HP4 := Lib.hid ((HP3.out.grew g).alloc (.cells #[.int .i64 gd.p, .int .i64 gd.v, .int .i64 gd.f, .bool gd.w, .bool gd.a] 30))
    have HQ4 := Lib.hid (Mine.Own.new w24 30 #[.int .i64 gd.p, .int .i64 gd.v, .int .i64 gd.f, .bool gd.w, .bool gd.a])
    have hz4 := HG4.out.size
    clear g hz3 HR3 HO3 HG3 HA3 HB3 HP3
    clear x0 x1 x2 x3 x4
    obtain ⟨x0, x1, x2, x3, x4⟩ := HO4.out.fiveT
    go_wp2_with fail
    with_reducible refine (young_p HR4.out hl1).mono ?_
    rw [HXY.out]
    rintro e9 w25 ⟨vu, rfl, R9, g⟩
    have HR5 := Lib.hid (HR4.out.grew g)
    have HO5 := Lib.hid (HO4.out.grew g)
    have HG5 := Lib.hid (HG4.out.trans g)
    have HA5 := Lib.hid (HA4.out.grew g)
    have HB5 := Lib.hid (HB4.out.grew g)
    have HP5 := Lib.hid (HP4.out.grew g)
    have HQ5 := Lib.hid (HQ4.out.grew g)
    have HU5 := Lib.hid R9
    have hz5 := HG5.out.size
    clear g hz4 HR4 HO4 HG4 HA4 HB4 HP4 HQ4 R9
    go_wp2_with fail
    with_reducible refine (young_q HR5.out hz5 hl1).mono ?_
    rw [HXY.out]
    rintro e9 w26 ⟨vv, rfl, R9, g⟩
    have HR6 := Lib.hid (HR5.out.grew g)
    have HO6 := Lib.hid (HO5.out.grew g)
    have HG6 := Lib.hid (HG5.out.trans g)
    have HA6 := Lib.hid (HA5.out.grew g)
    have HB6 := Lib.hid (HB5.out.grew g)
    have HP6 := Lib.hid (HP5.out.grew g)
    have HQ6 := Lib.hid (HQ5.out.grew g)
    have HU6 := Lib.hid (HU5.out.grew g)
    have HV6 := Lib.hid R9
    have hz6 := HG6.out.size
    clear g hz5 HR5 HO5 HG5 HA5 HB5 HP5 HQ5 HU5 R9
    go_wp2_with fail
    with_reducible refine (check_p HR6.out hl1 HKB.out).mono ?_
    rintro e9 w27 ⟨rfl, g⟩
    have HR7 := Lib.hid (HR6.out.grew g)
    have HO7 := Lib.hid (HO6.out.grew g)
    have HG7 := Lib.hid (HG6.out.trans g)
    have HA7 := Lib.hid (HA6.out.grew g)
    have HB7 := Lib.hid (HB6.out.grew g)
    have HP7 := Lib.hid (HP6.out.grew g)
    have HQ7 := Lib.hid (HQ6.out.grew g)
    have HU7 := Lib.hid (HU6.out.grew g)
    have HV7 := Lib.hid (HV6.out.grew g)
    have hz7 := HG7.out.size
    clear g hz6 HR6 HO6 HG6 HA6 HB6 HP6 HQ6 HU6 HV6
    go_wp2_with fail
    with_reducible refine (check_q HR7.out hl1 HKB.out).mono ?_
    rintro e9 w28 ⟨rfl, g⟩
    have HR8 := Lib.hid (HR7.out.grew g)
    have HO8 := Lib.hid (HO7.out.grew g)
    have HG8 := Lib.hid (HG7.out.trans g)
    have HA8 := Lib.hid (HA7.out.grew g)
    have HB8 := Lib.hid (HB7.out.grew g)
    have HP8 := Lib.hid (HP7.out.grew g)
    have HQ8 := Lib.hid (HQ7.out.grew g)
    have HU8 := Lib.hid (HU7.out.grew g)
    have HV8 := Lib.hid (HV7.out.grew g)
    have hz8 := HG8.out.size
    clear g hz7 HR7 HO7 HG7 HA7 HB7 HP7 HQ7 HU7 HV7
    go_wp2_with fail
    with_reducible refine (same_q HA8.out HB8.out HA1.out).mono ?_
    rintro e9 w29 ⟨rfl, g⟩
    have HR9 := Lib.hid (HR8.out.grew g)
    have HO9 := Lib.hid (HO8.out.grew g)
    have HG9 := Lib.hid (HG8.out.trans g)
    have HA9 := Lib.hid (HA8.out.grew g)
    have HB9 := Lib.hid (HB8.out.grew g)
    have HP9 := Lib.hid (HP8.out.grew g)
    have HQ9 := Lib.hid (HQ8.out.grew g)
    have HU9 := Lib.hid (HU8.out.grew g)
    have HV9 := Lib.hid (HV8.out.grew g)
    have hz9 := HG9.out.size
    clear g hz8 HR8 HO8 HG8 HA8 HB8 HP8 HQ8 HU8 HV8
    clear HA9
    clear HB9
    obtain ⟨u0, u1, u2, u3, u4⟩ := HP9.out.fiveT
    obtain ⟨v0, v1, v2, v3, v4⟩ := HQ9.out.fiveT
    go_wp2_with fail
    with_reducible refine (same_q HU9.out HV9.out HA2.out).mono ?_
    rintro e9 w30 ⟨rfl, g⟩
    have HR10 := Lib.hid (HR9.out.grew g)
    have HO10 := Lib.hid (HO9.out.grew g)
    have HG10 := Lib.hid (HG9.out.trans g)
    have HP10 := Lib.hid (HP9.out.grew g)
    have HQ10 := Lib.hid (HQ9.out.grew g)
    have HU10 := Lib.hid (HU9.out.grew g)
    have HV10 := Lib.hid (HV9.out.grew g)
    have hz10 := HG10.out.size
    clear g hz9 HR9 HO9 HG9 HP9 HQ9 HU9 HV9
    clear HU10
    clear HV10
    clear HP10
    clear HQ10
    clear u0 u1 u2 u3 u4 v0 v1 v2 v3 v4 x0 x1 x2 x3 x4
    obtain ⟨x0, x1, -, -, -⟩ := HO10.out.fiveT
    have l0 := HO10.out.lt
    have HR := HR10
    have HG := HG10
    go_upto_region 19 with fail
    refine wp_region_held_drew (S := fun w' => w'.cell? ⟨bb, 0, none⟩ = some (.int .i64 x.p) ∧ w'.cell? ⟨bb, 1, none⟩ = some (.int .i64 x.v)) (by kernel_rfl) ?_ (fun hHeld => ?_)
    · (try dsimp only); (refine ⟨?_, ?_⟩ <;> (repeat (first | (with_reducible assumption) | (with_reducible refine far_drew ?_))))
    first | refine wpAnyH_take (i := 0) (v := undef) rfl (by kernel_rfl) (by kernel_rfl) (by kernel_rfl) (fun _ _ _ h => h) (Or.inr ⟨by rfl, rfl⟩) (by assumption) ?_ | (refine' wpAnyH_take (i := 0) (v := _) rfl (by kernel_rfl) (by kernel_rfl) (by kernel_rfl) (fun _ _ _ h => h) (Or.inl ⟨by rfl, ?hy0a⟩) (by assumption) ?rest0a; case hy0a => (intro w hSw; (try dsimp only at hSw); (first | (go_simp; done) | (go_simp; with_reducible rfl))))
    try simp only [Act.put, List.setIfInBounds_toArray, List.set_cons_zero, List.set_cons_succ, List.getElem_toArray, List.getElem_cons_zero, List.getElem_cons_succ]
    first | refine wpAnyH_take (i := 1) (v := undef) rfl (by kernel_rfl) (by kernel_rfl) (by kernel_rfl) (fun _ _ _ h => h) (Or.inr ⟨by rfl, rfl⟩) (by assumption) ?_ | (refine' wpAnyH_take (i := 1) (v := _) rfl (by kernel_rfl) (by kernel_rfl) (by kernel_rfl) (fun _ _ _ h => h) (Or.inl ⟨by rfl, ?hy1a⟩) (by assumption) ?rest1a; case hy1a => (intro w hSw; (try dsimp only at hSw); (first | (go_simp; done) | (go_simp; with_reducible rfl))))
    try simp only [Act.put, List.setIfInBounds_toArray, List.set_cons_zero, List.set_cons_succ, List.getElem_toArray, List.getElem_cons_zero, List.getElem_cons_succ]
    first | refine wpAnyH_take (i := 2) (v := undef) rfl (by kernel_rfl) (by kernel_rfl) (by kernel_rfl) (fun _ _ _ h => h) (Or.inr ⟨by rfl, rfl⟩) (by assumption) ?_ | (refine' wpAnyH_take (i := 2) (v := _) rfl (by kernel_rfl) (by kernel_rfl) (by kernel_rfl) (fun _ _ _ h => h) (Or.inl ⟨by rfl, ?hy2a⟩) (by assumption) ?rest2a; case hy2a => (intro w hSw; (try dsimp only at hSw); (first | (go_simp; done) | (go_simp; with_reducible rfl))))
    try simp only [Act.put, List.setIfInBounds_toArray, List.set_cons_zero, List.set_cons_succ, List.getElem_toArray, List.getElem_cons_zero, List.getElem_cons_succ]
    first | refine wpAnyH_take (i := 3) (v := undef) rfl (by kernel_rfl) (by kernel_rfl) (by kernel_rfl) (fun _ _ _ h => h) (Or.inr ⟨by rfl, rfl⟩) (by assumption) ?_ | (refine' wpAnyH_take (i := 3) (v := _) rfl (by kernel_rfl) (by kernel_rfl) (by kernel_rfl) (fun _ _ _ h => h) (Or.inl ⟨by rfl, ?hy3a⟩) (by assumption) ?rest3a; case hy3a => (intro w hSw; (try dsimp only at hSw); (first | (go_simp; done) | (go_simp; with_reducible rfl))))
    try simp only [Act.put, List.setIfInBounds_toArray, List.set_cons_zero, List.set_cons_succ, List.getElem_toArray, List.getElem_cons_zero, List.getElem_cons_succ]
    first | refine wpAnyH_take (i := 4) (v := undef) rfl (by kernel_rfl) (by kernel_rfl) (by kernel_rfl) (fun _ _ _ h => h) (Or.inr ⟨by rfl, rfl⟩) (by assumption) ?_ | (refine' wpAnyH_take (i := 4) (v := _) rfl (by kernel_rfl) (by kernel_rfl) (by kernel_rfl) (fun _ _ _ h => h) (Or.inl ⟨by rfl, ?hy4a⟩) (by assumption) ?rest4a; case hy4a => (intro w hSw; (try dsimp only at hSw); (first | (go_simp; done) | (go_simp; with_reducible rfl))))
    try simp only [Act.put, List.setIfInBounds_toArray, List.set_cons_zero, List.set_cons_succ, List.getElem_toArray, List.getElem_cons_zero, List.getElem_cons_succ]
    first | refine wpAnyH_take (i := 5) (v := undef) rfl (by kernel_rfl) (by kernel_rfl) (by kernel_rfl) (fun _ _ _ h => h) (Or.inr ⟨by rfl, rfl⟩) (by assumption) ?_ | (refine' wpAnyH_take (i := 5) (v := _) rfl (by kernel_rfl) (by kernel_rfl) (by kernel_rfl) (fun _ _ _ h => h) (Or.inl ⟨by rfl, ?hy5a⟩) (by assumption) ?rest5a; case hy5a => (intro w hSw; (try dsimp only at hSw); (first | (go_simp; done) | (go_simp; with_reducible rfl))))
    try simp only [Act.put, List.setIfInBounds_toArray, List.set_cons_zero, List.set_cons_succ, List.getElem_toArray, List.getElem_cons_zero, List.getElem_cons_succ]
    first | refine wpAnyH_take (i := 6) (v := undef) rfl (by kernel_rfl) (by kernel_rfl) (by kernel_rfl) (fun _ _ _ h => h) (Or.inr ⟨by rfl, rfl⟩) (by assumption) ?_ | (refine' wpAnyH_take (i := 6) (v := _) rfl (by kernel_rfl) (by kernel_rfl) (by kernel_rfl) (fun _ _ _ h => h) (Or.inl ⟨by rfl, ?hy6a⟩) (by assumption) ?rest6a; case hy6a => (intro w hSw; (try dsimp only at hSw); (first | (go_simp; done) | (go_simp; with_reducible rfl))))
    try simp only [Act.put, List.setIfInBounds_toArray, List.set_cons_zero, List.set_cons_succ, List.getElem_toArray, List.getElem_cons_zero, List.getElem_cons_succ]
    first | refine wpAnyH_take (i := 7) (v := undef) rfl (by kernel_rfl) (by kernel_rfl) (by kernel_rfl) (fun _ _ _ h => h) (Or.inr ⟨by rfl, rfl⟩) (by assumption) ?_ | (refine' wpAnyH_take (i := 7) (v := _) rfl (by kernel_rfl) (by kernel_rfl) (by kernel_rfl) (fun _ _ _ h => h) (Or.inl ⟨by rfl, ?hy7a⟩) (by assumption) ?rest7a; case hy7a => (intro w hSw; (try dsimp only at hSw); (first | (go_simp; done) | (go_simp; with_reducible rfl))))
    try simp only [Act.put, List.setIfInBounds_toArray, List.set_cons_zero, List.set_cons_succ, List.getElem_toArray, List.getElem_cons_zero, List.getElem_cons_succ]
    first | refine wpAnyH_take (i := 9) (v := undef) rfl (by kernel_rfl) (by kernel_rfl) (by kernel_rfl) (fun _ _ _ h => h) (Or.inr ⟨by rfl, rfl⟩) (by assumption) ?_ | (refine' wpAnyH_take (i := 9) (v := _) rfl (by kernel_rfl) (by kernel_rfl) (by kernel_rfl) (fun _ _ _ h => h) (Or.inl ⟨by rfl, ?hy9a⟩) (by assumption) ?rest9a; case hy9a => (intro w hSw; (try dsimp only at hSw); (first | (go_simp; done) | (go_simp; with_reducible rfl))))
    try simp only [Act.put, List.setIfInBounds_toArray, List.set_cons_zero, List.set_cons_succ, List.getElem_toArray, List.getElem_cons_zero, List.getElem_cons_succ]
    first | refine wpAnyH_take (i := 10) (v := undef) rfl (by kernel_rfl) (by kernel_rfl) (by kernel_rfl) (fun _ _ _ h => h) (Or.inr ⟨by rfl, rfl⟩) (by assumption) ?_ | (refine' wpAnyH_take (i := 10) (v := _) rfl (by kernel_rfl) (by kernel_rfl) (by kernel_rfl) (fun _ _ _ h => h) (Or.inl ⟨by rfl, ?hy10a⟩) (by assumption) ?rest10a; case hy10a => (intro w hSw; (try dsimp only at hSw); (first | (go_simp; done) | (go_simp; with_reducible rfl))))
    try simp only [Act.put, List.setIfInBounds_toArray, List.set_cons_zero, List.set_cons_succ, List.getElem_toArray, List.getElem_cons_zero, List.getElem_cons_succ]
    first | refine wpAnyH_take (i := 11) (v := undef) rfl (by kernel_rfl) (by kernel_rfl) (by kernel_rfl) (fun _ _ _ h => h) (Or.inr ⟨by rfl, rfl⟩) (by assumption) ?_ | (refine' wpAnyH_take (i := 11) (v := _) rfl (by kernel_rfl) (by kernel_rfl) (by kernel_rfl) (fun _ _ _ h => h) (Or.inl ⟨by rfl, ?hy11a⟩) (by assumption) ?rest11a; case hy11a => (intro w hSw; (try dsimp only at hSw); (first | (go_simp; done) | (go_simp; with_reducible rfl))))
    try simp only [Act.put, List.setIfInBounds_toArray, List.set_cons_zero, List.set_cons_succ, List.getElem_toArray, List.getElem_cons_zero, List.getElem_cons_succ]
    first | refine wpAnyH_take (i := 12) (v := undef) rfl (by kernel_rfl) (by kernel_rfl) (by kernel_rfl) (fun _ _ _ h => h) (Or.inr ⟨by rfl, rfl⟩) (by assumption) ?_ | (refine' wpAnyH_take (i := 12) (v := _) rfl (by kernel_rfl) (by kernel_rfl) (by kernel_rfl) (fun _ _ _ h => h) (Or.inl ⟨by rfl, ?hy12a⟩) (by assumption) ?rest12a; case hy12a => (intro w hSw; (try dsimp only at hSw); (first | (go_simp; done) | (go_simp; with_reducible rfl))))
    try simp only [Act.put, List.setIfInBounds_toArray, List.set_cons_zero, List.set_cons_succ, List.getElem_toArray, List.getElem_cons_zero, List.getElem_cons_succ]
    first | refine wpAnyH_take (i := 13) (v := undef) rfl (by kernel_rfl) (by kernel_rfl) (by kernel_rfl) (fun _ _ _ h => h) (Or.inr ⟨by rfl, rfl⟩) (by assumption) ?_ | (refine' wpAnyH_take (i := 13) (v := _) rfl (by kernel_rfl) (by kernel_rfl) (by kernel_rfl) (fun _ _ _ h => h) (Or.inl ⟨by rfl, ?hy13a⟩) (by assumption) ?rest13a; case hy13a => (intro w hSw; (try dsimp only at hSw); (first | (go_simp; done) | (go_simp; with_reducible rfl))))
    try simp only [Act.put, List.setIfInBounds_toArray, List.set_cons_zero, List.set_cons_succ, List.getElem_toArray, List.getElem_cons_zero, List.getElem_cons_succ]
    first | refine wpAnyH_take (i := 14) (v := undef) rfl (by kernel_rfl) (by kernel_rfl) (by kernel_rfl) (fun _ _ _ h => h) (Or.inr ⟨by rfl, rfl⟩) (by assumption) ?_ | (refine' wpAnyH_take (i := 14) (v := _) rfl (by kernel_rfl) (by kernel_rfl) (by kernel_rfl) (fun _ _ _ h => h) (Or.inl ⟨by rfl, ?hy14a⟩) (by assumption) ?rest14a; case hy14a => (intro w hSw; (try dsimp only at hSw); (first | (go_simp; done) | (go_simp; with_reducible rfl))))
    try simp only [Act.put, List.setIfInBounds_toArray, List.set_cons_zero, List.set_cons_succ, List.getElem_toArray, List.getElem_cons_zero, List.getElem_cons_succ]
    refine wpAnyH_ready (rs := [8]) (by kernel_rfl) (by simp) ?_
    refine AllReadyH.cons rfl (fun K hK => ?_) AllReadyH.nil
    try simp only [Act.put, List.setIfInBounds_toArray, List.set_cons_zero, List.set_cons_succ, List.getElem_toArray, List.getElem_cons_zero, List.getElem_cons_succ]
    go_simp; go_at_call 19; (with_reducible refine (zap_p HR.out.drew hl1 hmx).mono ?_); rintro e9 t1 ⟨f1, rfl, R1, g1⟩; rw [HXZ.out] at R1; have l1 : bb < t1.heap.size := Nat.lt_of_lt_of_le l0 g1.size; have c1_0 := (g1.cells.1 bb _ l0).trans (far_drew x0); have c1_1 := (g1.cells.1 bb _ l0).trans (far_drew x1); replace HR := Lib.hid (HR.out.drew.grew g1); replace HG := Lib.hid (HG.out.drew.trans g1); have hy1 := HG.out.size
    refine hK.out _ _ ?_ (fun hHeld => ?_)
    · (try dsimp only); (refine ⟨?_, ?_⟩ <;> (repeat (first | (with_reducible assumption) | (with_reducible refine far_drew ?_))))
    clear hK K
    try simp only [Act.put, List.setIfInBounds_toArray, List.set_cons_zero, List.set_cons_succ, List.getElem_toArray, List.getElem_cons_zero, List.getElem_cons_succ]
    refine wpAnyH_ready (rs := [15]) (by kernel_rfl) (by simp) ?_
    refine AllReadyH.cons rfl (fun K hK => ?_) AllReadyH.nil
    try simp only [Act.put, List.setIfInBounds_toArray, List.set_cons_zero, List.set_cons_succ, List.getElem_toArray, List.getElem_cons_zero, List.getElem_cons_succ]
    go_simp; go_at_call 20; (with_reducible refine (zap_q HR.out hy1 hl1 hmx).mono ?_); rintro e9 t2 ⟨f2, rfl, R2, g2⟩; rw [HXZ.out] at R2; have l2 : bb < t2.heap.size := Nat.lt_of_lt_of_le l1 g2.size; have c2_0 := (g2.cells.1 bb _ l1).trans c1_0; have c2_1 := (g2.cells.1 bb _ l1).trans c1_1; replace HR := Lib.hid (HR.out.grew g2); replace HG := Lib.hid (HG.out.trans g2); have hy2 := HG.out.size
    refine hK.out _ _ ?_ (fun hHeld => ?_)
    · (try dsimp only); (refine ⟨?_, ?_⟩ <;> (repeat (first | (with_reducible assumption) | (with_reducible refine far_drew ?_))))
    clear hK K
    try simp only [Act.put, List.setIfInBounds_toArray, List.set_cons_zero, List.set_cons_succ, List.getElem_toArray, List.getElem_cons_zero, List.getElem_cons_succ]
    refine wpAnyH_ready (rs := [16]) (by kernel_rfl) (by simp) ?_
    refine AllReadyH.cons rfl (fun K hK => ?_) AllReadyH.nil
    try simp only [Act.put, List.setIfInBounds_toArray, List.set_cons_zero, List.set_cons_succ, List.getElem_toArray, List.getElem_cons_zero, List.getElem_cons_succ]
    go_simp; go_at_call 18; (with_reducible refine (same_q (R1.grew g2) R2 HA3.out).mono ?_); rintro e9 t3 ⟨rfl, g3⟩; have l3 : bb < t3.heap.size := Nat.lt_of_lt_of_le l2 g3.size; have c3_0 := (g3.cells.1 bb _ l2).trans c2_0; have c3_1 := (g3.cells.1 bb _ l2).trans c2_1; replace HR := Lib.hid (HR.out.grew g3); replace HG := Lib.hid (HG.out.trans g3); have hy3 := HG.out.size
    refine hK.out _ _ ?_ (fun hHeld => ?_)
    · (try dsimp only); (refine ⟨?_, ?_⟩ <;> (repeat (first | (with_reducible assumption) | (with_reducible refine far_drew ?_))))
    clear hK K
    try simp only [Act.put, List.setIfInBounds_toArray, List.set_cons_zero, List.set_cons_succ, List.getElem_toArray, List.getElem_cons_zero, List.getElem_cons_succ]
    first | refine wpAnyH_take (i := 17) (v := undef) rfl (by kernel_rfl) (by kernel_rfl) (by kernel_rfl) (fun _ _ _ h => h) (Or.inr ⟨by rfl, rfl⟩) (by assumption) ?_ | (refine' wpAnyH_take (i := 17) (v := _) rfl (by kernel_rfl) (by kernel_rfl) (by kernel_rfl) (fun _ _ _ h => h) (Or.inl ⟨by rfl, ?hy17a⟩) (by assumption) ?rest17a; case hy17a => (intro w hSw; (try dsimp only at hSw); (first | (go_simp; done) | (go_simp; with_reducible rfl))))
    try simp only [Act.put, List.setIfInBounds_toArray, List.set_cons_zero, List.set_cons_succ, List.getElem_toArray, List.getElem_cons_zero, List.getElem_cons_succ]
    first | refine wpAnyH_take (i := 18) (v := undef) rfl (by kernel_rfl) (by kernel_rfl) (by kernel_rfl) (fun _ _ _ h => h) (Or.inr ⟨by rfl, rfl⟩) (by assumption) ?_ | (refine' wpAnyH_take (i := 18) (v := _) rfl (by kernel_rfl) (by kernel_rfl) (by kernel_rfl) (fun _ _ _ h => h) (Or.inl ⟨by rfl, ?hy18a⟩) (by assumption) ?rest18a; case hy18a => (intro w hSw; (try dsimp only at hSw); (first | (go_simp; done) | (go_simp; with_reducible rfl))))
    try simp only [Act.put, List.setIfInBounds_toArray, List.set_cons_zero, List.set_cons_succ, List.getElem_toArray, List.getElem_cons_zero, List.getElem_cons_succ]
    first | refine wpAnyH_take (i := 19) (v := undef) rfl (by kernel_rfl) (by kernel_rfl) (by kernel_rfl) (fun _ _ _ h => h) (Or.inr ⟨by rfl, rfl⟩) (by assumption) ?_ | (refine' wpAnyH_take (i := 19) (v := _) rfl (by kernel_rfl) (by kernel_rfl) (by kernel_rfl) (fun _ _ _ h => h) (Or.inl ⟨by rfl, ?hy19a⟩) (by assumption) ?rest19a; case hy19a => (intro w hSw; (try dsimp only at hSw); (first | (go_simp; done) | (go_simp; with_reducible rfl))))
    try simp only [Act.put, List.setIfInBounds_toArray, List.set_cons_zero, List.set_cons_succ, List.getElem_toArray, List.getElem_cons_zero, List.getElem_cons_succ]
    first | refine wpAnyH_take (i := 20) (v := undef) rfl (by kernel_rfl) (by kernel_rfl) (by kernel_rfl) (fun _ _ _ h => h) (Or.inr ⟨by rfl, rfl⟩) (by assumption) ?_ | (refine' wpAnyH_take (i := 20) (v := _) rfl (by kernel_rfl) (by kernel_rfl) (by kernel_rfl) (fun _ _ _ h => h) (Or.inl ⟨by rfl, ?hy20a⟩) (by assumption) ?rest20a; case hy20a => (intro w hSw; (try dsimp only at hSw); (first | (go_simp; done) | (go_simp; with_reducible rfl))))
    try simp only [Act.put, List.setIfInBounds_toArray, List.set_cons_zero, List.set_cons_succ, List.getElem_toArray, List.getElem_cons_zero, List.getElem_cons_succ]
    first | refine wpAnyH_take (i := 22) (v := undef) rfl (by kernel_rfl) (by kernel_rfl) (by kernel_rfl) (fun _ _ _ h => h) (Or.inr ⟨by rfl, rfl⟩) (by assumption) ?_ | (refine' wpAnyH_take (i := 22) (v := _) rfl (by kernel_rfl) (by kernel_rfl) (by kernel_rfl) (fun _ _ _ h => h) (Or.inl ⟨by rfl, ?hy22a⟩) (by assumption) ?rest22a; case hy22a => (intro w hSw; (try dsimp only at hSw); (first | (go_simp; done) | (go_simp; with_reducible rfl))))
    try simp only [Act.put, List.setIfInBounds_toArray, List.set_cons_zero, List.set_cons_succ, List.getElem_toArray, List.getElem_cons_zero, List.getElem_cons_succ]
    first | refine wpAnyH_take (i := 23) (v := undef) rfl (by kernel_rfl) (by kernel_rfl) (by kernel_rfl) (fun _ _ _ h => h) (Or.inr ⟨by rfl, rfl⟩) (by assumption) ?_ | (refine' wpAnyH_take (i := 23) (v := _) rfl (by kernel_rfl) (by kernel_rfl) (by kernel_rfl) (fun _ _ _ h => h) (Or.inl ⟨by rfl, ?hy23a⟩) (by assumption) ?rest23a; case hy23a => (intro w hSw; (try dsimp only at hSw); (first | (go_simp; done) | (go_simp; with_reducible rfl))))
    try simp only [Act.put, List.setIfInBounds_toArray, List.set_cons_zero, List.set_cons_succ, List.getElem_toArray, List.getElem_cons_zero, List.getElem_cons_succ]
    refine wpAnyH_ready (rs := [21]) (by kernel_rfl) (by simp) ?_
    refine AllReadyH.cons rfl (fun K hK => ?_) AllReadyH.nil
    try simp only [Act.put, List.setIfInBounds_toArray, List.set_cons_zero, List.set_cons_succ, List.getElem_toArray, List.getElem_cons_zero, List.getElem_cons_succ]
    go_simp; go_at_call 21; (with_reducible refine (of_p HR.out hl1).mono ?_); rintro e9 t4 ⟨f4, rfl, R4, g4⟩; rw [HXO.out] at R4; have l4 : bb < t4.heap.size := Nat.lt_of_lt_of_le l3 g4.size; have c4_0 := (g4.cells.1 bb _ l3).trans c3_0; have c4_1 := (g4.cells.1 bb _ l3).trans c3_1; replace HR := Lib.hid (HR.out.grew g4); replace HG := Lib.hid (HG.out.trans g4); have hy4 := HG.out.size
    refine hK.out _ _ ?_ (fun hHeld => ?_)
    · (try dsimp only); (refine ⟨?_, ?_⟩ <;> (repeat (first | (with_reducible assumption) | (with_reducible refine far_drew ?_))))
    clear hK K
    try simp only [Act.put, List.setIfInBounds_toArray, List.set_cons_zero, List.set_cons_succ, List.getElem_toArray, List.getElem_cons_zero, List.getElem_cons_succ]
    refine wpAnyH_ready (rs := [24]) (by kernel_rfl) (by simp) ?_
    refine AllReadyH.cons rfl (fun K hK => ?_) AllReadyH.nil
    try simp only [Act.put, List.setIfInBounds_toArray, List.set_cons_zero, List.set_cons_succ, List.getElem_toArray, List.getElem_cons_zero, List.getElem_cons_succ]
    go_simp; go_at_call 22; (with_reducible refine (of_q HR.out hy4 hl1).mono ?_); rintro e9 t5 ⟨f5, rfl, R5, g5⟩; rw [HXO.out] at R5; have l5 : bb < t5.heap.size := Nat.lt_of_lt_of_le l4 g5.size; have c5_0 := (g5.cells.1 bb _ l4).trans c4_0; have c5_1 := (g5.cells.1 bb _ l4).trans c4_1; replace HR := Lib.hid (HR.out.grew g5); replace HG := Lib.hid (HG.out.trans g5); have hy5 := HG.out.size
    refine hK.out _ _ ?_ (fun hHeld => ?_)
    · (try dsimp only); (refine ⟨?_, ?_⟩ <;> (repeat (first | (with_reducible assumption) | (with_reducible refine far_drew ?_))))
    clear hK K
    try simp only [Act.put, List.setIfInBounds_toArray, List.set_cons_zero, List.set_cons_succ, List.getElem_toArray, List.getElem_cons_zero, List.getElem_cons_succ]
    refine wpAnyH_ready (rs := [25]) (by kernel_rfl) (by simp) ?_
    refine AllReadyH.cons rfl (fun K hK => ?_) AllReadyH.nil
    try simp only [Act.put, List.setIfInBounds_toArray, List.set_cons_zero, List.set_cons_succ, List.getElem_toArray, List.getElem_cons_zero, List.getElem_cons_succ]
    go_simp; go_at_call 18; (with_reducible refine (same_q (R4.grew g5) R5 HA4.out).mono ?_); rintro e9 t6 ⟨rfl, g6⟩; have l6 : bb < t6.heap.size := Nat.lt_of_lt_of_le l5 g6.size; have c6_0 := (g6.cells.1 bb _ l5).trans c5_0; have c6_1 := (g6.cells.1 bb _ l5).trans c5_1; replace HR := Lib.hid (HR.out.grew g6); replace HG := Lib.hid (HG.out.trans g6); have hy6 := HG.out.size
    refine hK.out _ _ ?_ (fun hHeld => ?_)
    · (try dsimp only); (refine ⟨?_, ?_⟩ <;> (repeat (first | (with_reducible assumption) | (with_reducible refine far_drew ?_))))
    clear hK K
    try simp only [Act.put, List.setIfInBounds_toArray, List.set_cons_zero, List.set_cons_succ, List.getElem_toArray, List.getElem_cons_zero, List.getElem_cons_succ]
    first | refine wpAnyH_take (i := 26) (v := undef) rfl (by kernel_rfl) (by kernel_rfl) (by kernel_rfl) (fun _ _ _ h => h) (Or.inr ⟨by rfl, rfl⟩) (by assumption) ?_ | (refine' wpAnyH_take (i := 26) (v := _) rfl (by kernel_rfl) (by kernel_rfl) (by kernel_rfl) (fun _ _ _ h => h) (Or.inl ⟨by rfl, ?hy26a⟩) (by assumption) ?rest26a; case hy26a => (intro w hSw; (try dsimp only at hSw); (first | (go_simp; done) | (go_simp; with_reducible rfl))))
    try simp only [Act.put, List.setIfInBounds_toArray, List.set_cons_zero, List.set_cons_succ, List.getElem_toArray, List.getElem_cons_zero, List.getElem_cons_succ]
    first | refine wpAnyH_take (i := 27) (v := undef) rfl (by kernel_rfl) (by kernel_rfl) (by kernel_rfl) (fun _ _ _ h => h) (Or.inr ⟨by rfl, rfl⟩) (by assumption) ?_ | (refine' wpAnyH_take (i := 27) (v := _) rfl (by kernel_rfl) (by kernel_rfl) (by kernel_rfl) (fun _ _ _ h => h) (Or.inl ⟨by rfl, ?hy27a⟩) (by assumption) ?rest27a; case hy27a => (intro w hSw; (try dsimp only at hSw); (first | (go_simp; done) | (go_simp; with_reducible rfl))))
    try simp only [Act.put, List.setIfInBounds_toArray, List.set_cons_zero, List.set_cons_succ, List.getElem_toArray, List.getElem_cons_zero, List.getElem_cons_succ]
    first | refine wpAnyH_take (i := 28) (v := undef) rfl (by kernel_rfl) (by kernel_rfl) (by kernel_rfl) (fun _ _ _ h => h) (Or.inr ⟨by rfl, rfl⟩) (by assumption) ?_ | (refine' wpAnyH_take (i := 28) (v := _) rfl (by kernel_rfl) (by kernel_rfl) (by kernel_rfl) (fun _ _ _ h => h) (Or.inl ⟨by rfl, ?hy28a⟩) (by assumption) ?rest28a; case hy28a => (intro w hSw; (try dsimp only at hSw); (first | (go_simp; done) | (go_simp; with_reducible rfl))))
    try simp only [Act.put, List.setIfInBounds_toArray, List.set_cons_zero, List.set_cons_succ, List.getElem_toArray, List.getElem_cons_zero, List.getElem_cons_succ]
    first | refine wpAnyH_take (i := 29) (v := undef) rfl (by kernel_rfl) (by kernel_rfl) (by kernel_rfl) (fun _ _ _ h => h) (Or.inr ⟨by rfl, rfl⟩) (by assumption) ?_ | (refine' wpAnyH_take (i := 29) (v := _) rfl (by kernel_rfl) (by kernel_rfl) (by kernel_rfl) (fun _ _ _ h => h) (Or.inl ⟨by rfl, ?hy29a⟩) (by assumption) ?rest29a; case hy29a => (intro w hSw; (try dsimp only at hSw); (first | (go_simp; done) | (go_simp; with_reducible rfl))))
    try simp only [Act.put, List.setIfInBounds_toArray, List.set_cons_zero, List.set_cons_succ, List.getElem_toArray, List.getElem_cons_zero, List.getElem_cons_succ]
    first | refine wpAnyH_take (i := 31) (v := undef) rfl (by kernel_rfl) (by kernel_rfl) (by kernel_rfl) (fun _ _ _ h => h) (Or.inr ⟨by rfl, rfl⟩) (by assumption) ?_ | (refine' wpAnyH_take (i := 31) (v := _) rfl (by kernel_rfl) (by kernel_rfl) (by kernel_rfl) (fun _ _ _ h => h) (Or.inl ⟨by rfl, ?hy31a⟩) (by assumption) ?rest31a; case hy31a => (intro w hSw; (try dsimp only at hSw); (first | (go_simp; done) | (go_simp; with_reducible rfl))))
    try simp only [Act.put, List.setIfInBounds_toArray, List.set_cons_zero, List.set_cons_succ, List.getElem_toArray, List.getElem_cons_zero, List.getElem_cons_succ]
    first | refine wpAnyH_take (i := 32) (v := undef) rfl (by kernel_rfl) (by kernel_rfl) (by kernel_rfl) (fun _ _ _ h => h) (Or.inr ⟨by rfl, rfl⟩) (by assumption) ?_ | (refine' wpAnyH_take (i := 32) (v := _) rfl (by kernel_rfl) (by kernel_rfl) (by kernel_rfl) (fun _ _ _ h => h) (Or.inl ⟨by rfl, ?hy32a⟩) (by assumption) ?rest32a; case hy32a => (intro w hSw; (try dsimp only at hSw); (first | (go_simp; done) | (go_simp; with_reducible rfl))))
    try simp only [Act.put, List.setIfInBounds_toArray, List.set_cons_zero, List.set_cons_succ, List.getElem_toArray, List.getElem_cons_zero, List.getElem_cons_succ]
    refine wpAnyH_ready (rs := [30]) (by kernel_rfl) (by simp) ?_
    refine AllReadyH.cons rfl (fun K hK => ?_) AllReadyH.nil
    try simp only [Act.put, List.setIfInBounds_toArray, List.set_cons_zero, List.set_cons_succ, List.getElem_toArray, List.getElem_cons_zero, List.getElem_cons_succ]
    go_simp; go_at_call 23; (with_reducible refine (drop_p HR.out hl1).mono ?_); rintro e9 t7 ⟨f7, rfl, R7, g7⟩; rw [HXD.out] at R7; have l7 : bb < t7.heap.size := Nat.lt_of_lt_of_le l6 g7.size; have c7_0 := (g7.cells.1 bb _ l6).trans c6_0; have c7_1 := (g7.cells.1 bb _ l6).trans c6_1; replace HR := Lib.hid (HR.out.grew g7); replace HG := Lib.hid (HG.out.trans g7); have hy7 := HG.out.size
    refine hK.out _ _ ?_ (fun hHeld => ?_)
    · (try dsimp only); (refine ⟨?_, ?_⟩ <;> (repeat (first | (with_reducible assumption) | (with_reducible refine far_drew ?_))))
    clear hK K
    try simp only [Act.put, List.setIfInBounds_toArray, List.set_cons_zero, List.set_cons_succ, List.getElem_toArray, List.getElem_cons_zero, List.getElem_cons_succ]
    refine wpAnyH_ready (rs := [33]) (by kernel_rfl) (by simp) ?_
    refine AllReadyH.cons rfl (fun K hK => ?_) AllReadyH.nil
    try simp only [Act.put, List.setIfInBounds_toArray, List.set_cons_zero, List.set_cons_succ, List.getElem_toArray, List.getElem_cons_zero, List.getElem_cons_succ]
    go_simp; go_at_call 24; (with_reducible refine (drop_q HR.out hy7 hl1).mono ?_); rintro e9 t8 ⟨f8, rfl, R8, g8⟩; rw [HXD.out] at R8; have l8 : bb < t8.heap.size := Nat.lt_of_lt_of_le l7 g8.size; have c8_0 := (g8.cells.1 bb _ l7).trans c7_0; have c8_1 := (g8.cells.1 bb _ l7).trans c7_1; replace HR := Lib.hid (HR.out.grew g8); replace HG := Lib.hid (HG.out.trans g8); have hy8 := HG.out.size
    refine hK.out _ _ ?_ (fun hHeld => ?_)
    · (try dsimp only); (refine ⟨?_, ?_⟩ <;> (repeat (first | (with_reducible assumption) | (with_reducible refine far_drew ?_))))
    clear hK K
    try simp only [Act.put, List.setIfInBounds_toArray, List.set_cons_zero, List.set_cons_succ, List.getElem_toArray, List.getElem_cons_zero, List.getElem_cons_succ]
    refine wpAnyH_ready (rs := [34]) (by kernel_rfl) (by simp) ?_
    refine AllReadyH.cons rfl (fun K hK => ?_) AllReadyH.nil
    try simp only [Act.put, List.setIfInBounds_toArray, List.set_cons_zero, List.set_cons_succ, List.getElem_toArray, List.getElem_cons_zero, List.getElem_cons_succ]
    go_simp; go_at_call 18; (with_reducible refine (same_q (R7.grew g8) R8 HA5.out).mono ?_); rintro e9 t9 ⟨rfl, g9⟩; have l9 : bb < t9.heap.size := Nat.lt_of_lt_of_le l8 g9.size; have c9_0 := (g9.cells.1 bb _ l8).trans c8_0; have c9_1 := (g9.cells.1 bb _ l8).trans c8_1; replace HR := Lib.hid (HR.out.grew g9); replace HG := Lib.hid (HG.out.trans g9); have hy9 := HG.out.size
    refine hK.out _ _ ?_ (fun hHeld => ?_)
    · (try dsimp only); (refine ⟨?_, ?_⟩ <;> (repeat (first | (with_reducible assumption) | (with_reducible refine far_drew ?_))))
    clear hK K
    try simp only [Act.put, List.setIfInBounds_toArray, List.set_cons_zero, List.set_cons_succ, List.getElem_toArray, List.getElem_cons_zero, List.getElem_cons_succ]
    first | refine wpAnyH_take (i := 35) (v := undef) rfl (by kernel_rfl) (by kernel_rfl) (by kernel_rfl) (fun _ _ _ h => h) (Or.inr ⟨by rfl, rfl⟩) (by assumption) ?_ | (refine' wpAnyH_take (i := 35) (v := _) rfl (by kernel_rfl) (by kernel_rfl) (by kernel_rfl) (fun _ _ _ h => h) (Or.inl ⟨by rfl, ?hy35a⟩) (by assumption) ?rest35a; case hy35a => (intro w hSw; (try dsimp only at hSw); (first | (go_simp; done) | (go_simp; with_reducible rfl))))
    try simp only [Act.put, List.setIfInBounds_toArray, List.set_cons_zero, List.set_cons_succ, List.getElem_toArray, List.getElem_cons_zero, List.getElem_cons_succ]
    first | refine wpAnyH_take (i := 36) (v := undef) rfl (by kernel_rfl) (by kernel_rfl) (by kernel_rfl) (fun _ _ _ h => h) (Or.inr ⟨by rfl, rfl⟩) (by assumption) ?_ | (refine' wpAnyH_take (i := 36) (v := _) rfl (by kernel_rfl) (by kernel_rfl) (by kernel_rfl) (fun _ _ _ h => h) (Or.inl ⟨by rfl, ?hy36a⟩) (by assumption) ?rest36a; case hy36a => (intro w hSw; (try dsimp only at hSw); (first | (go_simp; done) | (go_simp; with_reducible rfl))))
    try simp only [Act.put, List.setIfInBounds_toArray, List.set_cons_zero, List.set_cons_succ, List.getElem_toArray, List.getElem_cons_zero, List.getElem_cons_succ]
    first | refine wpAnyH_take (i := 37) (v := undef) rfl (by kernel_rfl) (by kernel_rfl) (by kernel_rfl) (fun _ _ _ h => h) (Or.inr ⟨by rfl, rfl⟩) (by assumption) ?_ | (refine' wpAnyH_take (i := 37) (v := _) rfl (by kernel_rfl) (by kernel_rfl) (by kernel_rfl) (fun _ _ _ h => h) (Or.inl ⟨by rfl, ?hy37a⟩) (by assumption) ?rest37a; case hy37a => (intro w hSw; (try dsimp only at hSw); (first | (go_simp; done) | (go_simp; with_reducible rfl))))
    try simp only [Act.put, List.setIfInBounds_toArray, List.set_cons_zero, List.set_cons_succ, List.getElem_toArray, List.getElem_cons_zero, List.getElem_cons_succ]
    first | refine wpAnyH_take (i := 38) (v := undef) rfl (by kernel_rfl) (by kernel_rfl) (by kernel_rfl) (fun _ _ _ h => h) (Or.inr ⟨by rfl, rfl⟩) (by assumption) ?_ | (refine' wpAnyH_take (i := 38) (v := _) rfl (by kernel_rfl) (by kernel_rfl) (by kernel_rfl) (fun _ _ _ h => h) (Or.inl ⟨by rfl, ?hy38a⟩) (by assumption) ?rest38a; case hy38a => (intro w hSw; (try dsimp only at hSw); (first | (go_simp; done) | (go_simp; with_reducible rfl))))
    try simp only [Act.put, List.setIfInBounds_toArray, List.set_cons_zero, List.set_cons_succ, List.getElem_toArray, List.getElem_cons_zero, List.getElem_cons_succ]
    first | refine wpAnyH_take (i := 40) (v := undef) rfl (by kernel_rfl) (by kernel_rfl) (by kernel_rfl) (fun _ _ _ h => h) (Or.inr ⟨by rfl, rfl⟩) (by assumption) ?_ | (refine' wpAnyH_take (i := 40) (v := _) rfl (by kernel_rfl) (by kernel_rfl) (by kernel_rfl) (fun _ _ _ h => h) (Or.inl ⟨by rfl, ?hy40a⟩) (by assumption) ?rest40a; case hy40a => (intro w hSw; (try dsimp only at hSw); (first | (go_simp; done) | (go_simp; with_reducible rfl))))
    try simp only [Act.put, List.setIfInBounds_toArray, List.set_cons_zero, List.set_cons_succ, List.getElem_toArray, List.getElem_cons_zero, List.getElem_cons_succ]
    first | refine wpAnyH_take (i := 41) (v := undef) rfl (by kernel_rfl) (by kernel_rfl) (by kernel_rfl) (fun _ _ _ h => h) (Or.inr ⟨by rfl, rfl⟩) (by assumption) ?_ | (refine' wpAnyH_take (i := 41) (v := _) rfl (by kernel_rfl) (by kernel_rfl) (by kernel_rfl) (fun _ _ _ h => h) (Or.inl ⟨by rfl, ?hy41a⟩) (by assumption) ?rest41a; case hy41a => (intro w hSw; (try dsimp only at hSw); (first | (go_simp; done) | (go_simp; with_reducible rfl))))
    try simp only [Act.put, List.setIfInBounds_toArray, List.set_cons_zero, List.set_cons_succ, List.getElem_toArray, List.getElem_cons_zero, List.getElem_cons_succ]
    refine wpAnyH_ready (rs := [39]) (by kernel_rfl) (by simp) ?_
    refine AllReadyH.cons rfl (fun K hK => ?_) AllReadyH.nil
    try simp only [Act.put, List.setIfInBounds_toArray, List.set_cons_zero, List.set_cons_succ, List.getElem_toArray, List.getElem_cons_zero, List.getElem_cons_succ]
    go_simp; go_at_call 25; (with_reducible refine (protect_p HR.out hl1).mono ?_); rintro e9 t10 ⟨f10, rfl, R10, g10⟩; rw [HXP.out] at R10; have l10 : bb < t10.heap.size := Nat.lt_of_lt_of_le l9 g10.size; have c10_0 := (g10.cells.1 bb _ l9).trans c9_0; have c10_1 := (g10.cells.1 bb _ l9).trans c9_1; replace HR := Lib.hid (HR.out.grew g10); replace HG := Lib.hid (HG.out.trans g10); have hy10 := HG.out.size
    refine hK.out _ _ ?_ (fun hHeld => ?_)
    · (try dsimp only); (refine ⟨?_, ?_⟩ <;> (repeat (first | (with_reducible assumption) | (with_reducible refine far_drew ?_))))
    clear hK K
    try simp only [Act.put, List.setIfInBounds_toArray, List.set_cons_zero, List.set_cons_succ, List.getElem_toArray, List.getElem_cons_zero, List.getElem_cons_succ]
    refine wpAnyH_ready (rs := [42]) (by kernel_rfl) (by simp) ?_
    refine AllReadyH.cons rfl (fun K hK => ?_) AllReadyH.nil
    try simp only [Act.put, List.setIfInBounds_toArray, List.set_cons_zero, List.set_cons_succ, List.getElem_toArray, List.getElem_cons_zero, List.getElem_cons_succ]
    go_simp; go_at_call 26; (with_reducible refine (protect_q HR.out hy10 hl1).mono ?_); rintro e9 t11 ⟨f11, rfl, R11, g11⟩; rw [HXP.out] at R11; have l11 : bb < t11.heap.size := Nat.lt_of_lt_of_le l10 g11.size; have c11_0 := (g11.cells.1 bb _ l10).trans c10_0; have c11_1 := (g11.cells.1 bb _ l10).trans c10_1; replace HR := Lib.hid (HR.out.grew g11); replace HG := Lib.hid (HG.out.trans g11); have hy11 := HG.out.size
    refine hK.out _ _ ?_ (fun hHeld => ?_)
    · (try dsimp only); (refine ⟨?_, ?_⟩ <;> (repeat (first | (with_reducible assumption) | (with_reducible refine far_drew ?_))))
    clear hK K
    try simp only [Act.put, List.setIfInBounds_toArray, List.set_cons_zero, List.set_cons_succ, List.getElem_toArray, List.getElem_cons_zero, List.getElem_cons_succ]
    refine wpAnyH_ready (rs := [43]) (by kernel_rfl) (by simp) ?_
    refine AllReadyH.cons rfl (fun K hK => ?_) AllReadyH.nil
    try simp only [Act.put, List.setIfInBounds_toArray, List.set_cons_zero, List.set_cons_succ, List.getElem_toArray, List.getElem_cons_zero, List.getElem_cons_succ]
    go_simp; go_at_call 18; (with_reducible refine (same_q (R10.grew g11) R11 HA6.out).mono ?_); rintro e9 t12 ⟨rfl, g12⟩; have l12 : bb < t12.heap.size := Nat.lt_of_lt_of_le l11 g12.size; have c12_0 := (g12.cells.1 bb _ l11).trans c11_0; have c12_1 := (g12.cells.1 bb _ l11).trans c11_1; replace HR := Lib.hid (HR.out.grew g12); replace HG := Lib.hid (HG.out.trans g12); have hy12 := HG.out.size
    refine hK.out _ _ ?_ (fun hHeld => ?_)
    · (try dsimp only); (refine ⟨?_, ?_⟩ <;> (repeat (first | (with_reducible assumption) | (with_reducible refine far_drew ?_))))
    clear hK K
    try simp only [Act.put, List.setIfInBounds_toArray, List.set_cons_zero, List.set_cons_succ, List.getElem_toArray, List.getElem_cons_zero, List.getElem_cons_succ]
    first | refine wpAnyH_take (i := 44) (v := undef) rfl (by kernel_rfl) (by kernel_rfl) (by kernel_rfl) (fun _ _ _ h => h) (Or.inr ⟨by rfl, rfl⟩) (by assumption) ?_ | (refine' wpAnyH_take (i := 44) (v := _) rfl (by kernel_rfl) (by kernel_rfl) (by kernel_rfl) (fun _ _ _ h => h) (Or.inl ⟨by rfl, ?hy44a⟩) (by assumption) ?rest44a; case hy44a => (intro w hSw; (try dsimp only at hSw); (first | (go_simp; done) | (go_simp; with_reducible rfl))))
    try simp only [Act.put, List.setIfInBounds_toArray, List.set_cons_zero, List.set_cons_succ, List.getElem_toArray, List.getElem_cons_zero, List.getElem_cons_succ]
    first | refine wpAnyH_take (i := 45) (v := undef) rfl (by kernel_rfl) (by kernel_rfl) (by kernel_rfl) (fun _ _ _ h => h) (Or.inr ⟨by rfl, rfl⟩) (by assumption) ?_ | (refine' wpAnyH_take (i := 45) (v := _) rfl (by kernel_rfl) (by kernel_rfl) (by kernel_rfl) (fun _ _ _ h => h) (Or.inl ⟨by rfl, ?hy45a⟩) (by assumption) ?rest45a; case hy45a => (intro w hSw; (try dsimp only at hSw); (first | (go_simp; done) | (go_simp; with_reducible rfl))))
    try simp only [Act.put, List.setIfInBounds_toArray, List.set_cons_zero, List.set_cons_succ, List.getElem_toArray, List.getElem_cons_zero, List.getElem_cons_succ]
    refine wpAnyH_ready (rs := [46]) (by kernel_rfl) (by simp) ?_
    refine AllReadyH.cons rfl (fun K hK => ?_) AllReadyH.nil
    try simp only [Act.put, List.setIfInBounds_toArray, List.set_cons_zero, List.set_cons_succ, List.getElem_toArray, List.getElem_cons_zero, List.getElem_cons_succ]
    go_simp; go_at_call 27; (with_reducible refine (awake_any _).mono ?_); rintro e9 t13 ⟨rfl, g13⟩; have l13 : bb < t13.heap.size := Nat.lt_of_lt_of_le l12 g13.size; have c13_0 := (g13.cells.1 bb _ l12).trans c12_0; have c13_1 := (g13.cells.1 bb _ l12).trans c12_1; replace HR := Lib.hid (HR.out.grew g13); replace HG := Lib.hid (HG.out.trans g13); have hy13 := HG.out.size
    refine hK.out _ _ ?_ (fun hHeld => ?_)
    · (try dsimp only); (refine ⟨?_, ?_⟩ <;> (repeat (first | (with_reducible assumption) | (with_reducible refine far_drew ?_))))
    clear hK K
    try simp only [Act.put, List.setIfInBounds_toArray, List.set_cons_zero, List.set_cons_succ, List.getElem_toArray, List.getElem_cons_zero, List.getElem_cons_succ]
    first | refine wpAnyH_take (i := 47) (v := undef) rfl (by kernel_rfl) (by kernel_rfl) (by kernel_rfl) (fun _ _ _ h => h) (Or.inr ⟨by rfl, rfl⟩) (by assumption) ?_ | (refine' wpAnyH_take (i := 47) (v := _) rfl (by kernel_rfl) (by kernel_rfl) (by kernel_rfl) (fun _ _ _ h => h) (Or.inl ⟨by rfl, ?hy47a⟩) (by assumption) ?rest47a; case hy47a => (intro w hSw; (try dsimp only at hSw); (first | (go_simp; done) | (go_simp; with_reducible rfl))))
    try simp only [Act.put, List.setIfInBounds_toArray, List.set_cons_zero, List.set_cons_succ, List.getElem_toArray, List.getElem_cons_zero, List.getElem_cons_succ]
    first | refine wpAnyH_take (i := 48) (v := undef) rfl (by kernel_rfl) (by kernel_rfl) (by kernel_rfl) (fun _ _ _ h => h) (Or.inr ⟨by rfl, rfl⟩) (by assumption) ?_ | (refine' wpAnyH_take (i := 48) (v := _) rfl (by kernel_rfl) (by kernel_rfl) (by kernel_rfl) (fun _ _ _ h => h) (Or.inl ⟨by rfl, ?hy48a⟩) (by assumption) ?rest48a; case hy48a => (intro w hSw; (try dsimp only at hSw); (first | (go_simp; done) | (go_simp; with_reducible rfl))))
    try simp only [Act.put, List.setIfInBounds_toArray, List.set_cons_zero, List.set_cons_succ, List.getElem_toArray, List.getElem_cons_zero, List.getElem_cons_succ]
    refine wpAnyH_done (by kernel_rfl) ?_ _
    go_wp2
    go_ret
    exact ⟨rfl, HG.out⟩

theorem Try.own : ownKnob Try.prog.godebug = none := by kernel_rfl
theorem Try.laidOut : laidOutB Try.prog = true := by kernel_rfl

theorem pagetableCalls_contract (W : World) (base : Nat) (args : Array Value) (H : Type) (enc : TypeId × Value → H) (ds : List (DataW H)) (p : List MemPlace)
    (hval : ∀ (j : Nat) t v, Try.f3.params[j]? = some t → args[j]? = some v → Value.okWide Try.prog W .any base t v)
    (hA : DataW.TrodAll enc Try.prog W 0 (fun _ => true) true Try.f3.params.toList args.toList ds p) :
    (∃ d0, ds = [d0]) ∧ Calls Try.prog 3 args W fun e W' => e = .returned (.bool true) ∧ Below W.heap.size W W' := by
  rw [Try.params3] at hval hA
  obtain ⟨v0, d0, p0, ha, hd, hp, h0⟩ := args_1 hA
  subst ha hd
  obtain ⟨A0, c0, xs0, rfl, hr0, hm0⟩ := open_introw Try.underlying22 Try.underlying3 (by kernel_rfl) (hval 0 _ _ rfl rfl) h0
  exact ⟨⟨_, rfl⟩, (calls_core A0 c0 xs0 W hr0 hm0).mono fun _ _ h => h⟩

set_option maxRecDepth 100000 in
theorem pagetableCalls_lifted (os : Os) (started : os.Started) (H : Type) (enc : TypeId × Value → H) :
    ReturnsInHanded {} Try.checked os 3 .any (Rows.pagetableCallsSpec.pre6 enc Try.prog Try.f3 Rows.pagetableCallsRow.domain false) (Rows.pagetableCallsSpec.post enc Try.prog Try.f3 false true false false) := by
  refine returnsInHanded_of_change (C := Try.checked) Try.own started (by kernel_rfl) Try.func3
    (ChangeSpec.witness6 (enc := enc) (C := Try.checked) false ⟨#[], #[.slice none 0 0], []⟩ 8 (by kernel_rfl) (by kernel_rfl) (by kernel_rfl) (by kernel_rfl)) ?_
  intro W base args ds gs before hval hW _ _
  obtain ⟨p, q, hA, hV, hrest⟩ := id hW
  obtain ⟨⟨d0, rfl⟩, hc⟩ := pagetableCalls_contract W base args H enc ds p hval hA
  obtain ⟨rfl, -⟩ := trodVars_none hV
  refine hc.mono fun e W' ⟨he, hb⟩ => ⟨_, he, ?_⟩
  exact law_close (tb := 4) Try.laidOut (by rw [Try.params3]; decide +kernel) Try.underlying4 rfl rfl hW rfl rfl rfl hb

theorem pagetableCalls_holds : Rows.PagetableCallsSaid :=
  OpenClaim.holds_of_wide 3 Try.f3 rfl rfl rfl rfl rfl rfl rfl ⟨rfl, rfl, rfl, rfl, rfl⟩ rfl rfl rfl rfl rfl (by kernel_rfl) Try.func3 (by kernel_rfl)
    (of_decide_eq_true (by kernel_rfl)) (by unfold Func.isWrapper; first | (rw [if_pos (by decide +kernel)]; kernel_rfl) | (rw [if_neg (by decide +kernel)]; exact ⟨rfl, rfl⟩))
    (fun os started H enc _ => pagetableCalls_lifted os started H enc)
end Go.Proofs.Ytjkkhfionmdmpaa
