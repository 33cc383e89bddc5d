/- AreaCalls holds: what mapping and unmapping make of areas, and what is found in them, and the errors, are those of the document's answer. -/
import Derived.Test.YtnlhdbengppnpaaAs2
import Derived.Deep.CutBlock
namespace Go.Mine
open Go Go.RowKit
theorem RdS.at1c {w : World} {B : Nat} {L : List Int} {a : Option Addr} {n c : Nat} (h : RdS 1 enc1 w B (.slice a n c) L) {k : Nat} (hk : k < L.length) : ∃ g o, a = some ⟨g, o, none⟩ ∧ B ≤ g ∧ g < w.heap.size ∧ w.cell? ⟨g, o + k, none⟩ = some (.int .i64 (L.getD k 0)) := by
  obtain ⟨g, o, e, hB, hg, hc⟩ := h.at_ hk
  refine ⟨g, o, e, hB, hg, ?_⟩
  have := hc 0 (by omega)
  rw [getD_get hk]
  rw [Nat.mul_one, Nat.add_zero] at this
  exact this
/-- From block B on nothing that was there has turned. -/
structure Kp (B : Nat) (w w' : World) : Prop where
  size : w.heap.size ≤ w'.heap.size
  same : ∀ i, B ≤ i → i < w.heap.size → w'.heap[i]? = w.heap[i]?
theorem Kp.refl (B : Nat) (w : World) : Kp B w w := ⟨Nat.le_refl _, fun _ _ _ => rfl⟩
theorem Kp.past {B b : Nat} {w a c : World} (h : Kp B w a) (g : a.grownBy c (some b)) (hb : b < B) : Kp B w c :=
  ⟨Nat.le_trans h.size g.size, fun i h1 h2 => (g.block i (Nat.lt_of_lt_of_le h2 h.size) (fun e => by injection e with e; omega)).trans (h.same i h1 h2)⟩
theorem Kp.far {B b : Nat} {w a c : World} (h : Kp B w a) (g : a.grownBy c (some b)) (hb : w.heap.size ≤ b) : Kp B w c :=
  ⟨Nat.le_trans h.size g.size, fun i h1 h2 => (g.block i (Nat.lt_of_lt_of_le h2 h.size) (fun e => by injection e with e; omega)).trans (h.same i h1 h2)⟩
theorem Kp.alloc {B : Nat} {w a : World} (h : Kp B w a) (o : Obj) : Kp B w (a.alloc o) := h.far (b := a.heap.size) (grown_alloc (grown_refl _ _) o) h.size
theorem Kp.set {B : Nat} {w a : World} (h : Kp B w a) {p : Addr} (hp : w.heap.size ≤ p.block) (u : Value) : Kp B w (a.setCell p u) := h.far (b := p.block) (grown_set (p := p) (grown_refl _ _) (.inl rfl) u) hp
theorem RdS.keptK {α : Type} {sz : Nat} {enc : α → List Value} {w w' : World} {B : Nat} {v : Value} {L : List α} (h : RdS sz enc w B v L) (g : Kp B w w') : RdS sz enc w' B v L := by
  obtain ⟨a, c, rfl, h1, h2, h3⟩ := h
  refine ⟨a, c, rfl, h1, h2, ?_⟩
  rcases h3 with h3 | ⟨b, o, rfl, hB, hb, hc⟩
  · exact .inl h3
  · exact .inr ⟨b, o, rfl, hB, Nat.lt_of_lt_of_le hb g.size, fun k hk j hj => (World.cell?_of_block (a := ⟨b, o + (k * sz + j), none⟩) (g.same b hB hb)).trans (hc k hk j hj)⟩
/-- The list; the area's box; a start and a count. -/
def ArCut (w : World) (v : Value) (L : List Ar) (b5 : Nat) (T : TypeId) (v6 v7 : Value) (wx : World) : Prop := ∃ (s n : Int) (a : Ar), v6 = .int .i64 s ∧ v7 = .int .i64 n ∧ n ≤ 9223372036854775807 ∧ a.n ≤ 9223372036854775807 ∧ RdS 5 enc5 wx w.heap.size v L ∧
  Own wx b5 T #[.int .i64 a.s, .int .i64 a.n, .int .i64 a.f, .int .i64 a.p, .bool a.w] ∧ Grew w wx
end Go.Mine
namespace Go.Proofs.Ytnlhdbengppnpaa
open Go.ChangeShapes Go.WideShapes Go.ChangeAt Go.RowKit Go.Mine

set_option maxRecDepth 100000 in
set_option maxHeartbeats 16000000 in
theorem calls_core (A : Option Addr) (c : Nat) (xs : List Int) (w : World) (hr : IntRow w A xs) (hm : xs.length ≤ maxLen) :
    Calls Try.prog 3 #[.slice A xs.length c] w (RetG (.bool true) w) := by
  have tp := Tp.made hr hm c 25
  have gA := (Grew.refl w).alloc (.cells #[.slice A xs.length c, .int .i64 0] 25)
  have hbw : w.heap.size + 1 ≤ (w.alloc (.cells #[.slice A xs.length c, .int .i64 0] 25)).heap.size := by simp
  have hB0 : w.heap.size < w.heap.size + 1 := Nat.lt_succ_self _
  clear hr hm
  generalize hX : xs.length = X at *
  clear hX
  go_enter Try.func3, Try.ntmps3
  go_wp2_with fail
  with_reducible refine (drawn_x _ _ _ tp hbw).mono ?_
  rintro e w1 ⟨v, L, rfl, hsm, hl8, R1, T1, g1⟩
  have HG1 := Lib.hid (gA.past g1 (Nat.le_refl _))
  have HR1 := Lib.hid (R1.wider hbw)
  have hb1 := Nat.le_trans hbw g1.size
  have HS := Lib.hid hsm
  clear gA tp g1 R1 hbw hsm
  go_wp2_with fail
  with_reducible refine (next_x _ _ _ _ (by omega) (by omega) T1).mono ?_
  rintro e w2 ⟨q2, a2, b2, rfl, T2, g2⟩
  go_wp2_with fail
  with_reducible refine (next_x _ _ _ _ (by omega) (by omega) T2).mono ?_
  rintro e w3 ⟨q3, a3, b3, rfl, T3, g3⟩
  go_wp2_with fail
  with_reducible refine (next_x _ _ _ _ (by omega) (by omega) T3).mono ?_
  rintro e w4 ⟨q4, a4, b4, rfl, T4, g4⟩
  go_wp2_with fail
  with_reducible refine (next_x _ _ _ _ (by omega) (by omega) T4).mono ?_
  rintro e w5 ⟨q5, a5, b5, rfl, T5, g5⟩
  go_wp2_with fail
  with_reducible refine (next_x _ _ _ _ (by omega) (by omega) T5).mono ?_
  rintro e w6 ⟨q6, a6, b6, rfl, T6, g6⟩
  have g26 := grown_trans (grown_trans (grown_trans (grown_trans g2 g3) g4) g5) g6
  have HR6 := Lib.hid (HR1.out.past g26 hB0)
  have HG6 := Lib.hid (HG1.out.past g26 (Nat.le_refl _))
  have hb6 := Nat.le_trans hb1 g26.size
  have hw2 : IntKind.i64.wrap (q2 - 1) = q2 - 1 := IntWalk.i64_in _ (by omega)
  have hw3 : IntKind.i64.wrap (q3 - 1) = q3 - 1 := IntWalk.i64_in _ (by omega)
  have HO6 := Lib.hid (Own.new w6 30 #[.int .i64 (q2 - 1), .int .i64 (q3 - 1), .int .i64 q4, .int .i64 q5, .bool (q6 == 0)])
  have HK7 := Lib.hid ((Kp.refl (w.heap.size + 1) w6).alloc (.cells #[.int .i64 (q2 - 1), .int .i64 (q3 - 1), .int .i64 q4, .int .i64 q5, .bool (q6 == 0)] 30))
  have HG7 := Lib.hid (HG6.out.alloc (.cells #[.int .i64 (q2 - 1), .int .i64 (q3 - 1), .int .i64 q4, .int .i64 q5, .bool (q6 == 0)] 30))
  have T7 := T6.alloc (.cells #[.int .i64 (q2 - 1), .int .i64 (q3 - 1), .int .i64 q4, .int .i64 q5, .bool (q6 == 0)] 30)
  have hbx : w.heap.size < w6.heap.size := by omega
  have hb7 : w.heap.size + 1 ≤ (w6.alloc (.cells #[.int .i64 (q2 - 1), .int .i64 (q3 - 1), .int .i64 q4, .int .i64 q5, .bool (q6 == 0)] 30)).heap.size := by simp; omega
  have hq3 : q3 - 1 ≤ 9223372036854775807 := by omega
  clear g2 g3 g4 g5 g6 g26 T1 T2 T3 T4 T5 T6 HG1 HR1 hb1 HG6 hb6
  go_wp2_with fail
  with_reducible refine (next_x _ _ _ _ (by omega) (by omega) T7).mono ?_
  rintro e w8 ⟨q8, a8, b8, rfl, T8, g8⟩
  go_wp2_with fail
  with_reducible refine (next_x _ _ _ _ (by omega) (by omega) T8).mono ?_
  rintro e w9 ⟨q9, a9, b9, rfl, T9, g9⟩
  go_wp2_with fail
  with_reducible refine (next_x _ _ _ _ (by omega) (by omega) T9).mono ?_
  rintro e w10 ⟨q10, a10, b10, rfl, T10, g10⟩
  have g810 := grown_trans (grown_trans g8 g9) g10
  have HK10 := Lib.hid (HK7.out.past g810 hB0)
  have HG10 := Lib.hid (HG7.out.past g810 (Nat.le_refl _))
  have HO10 := Lib.hid (HO6.out.past g810 (by omega))
  have hb10 := Nat.le_trans hb7 g810.size
  have hw8 : IntKind.i64.wrap (q8 - 1) = q8 - 1 := IntWalk.i64_in _ (by omega)
  have hw9 : IntKind.i64.wrap (q9 - 1) = q9 - 1 := IntWalk.i64_in _ (by omega)
  have hq9 : q9 - 1 ≤ 9223372036854775807 := by omega
  clear g8 g9 g10 g810 T7 T8 T9 HK7 HG7 HO6 hb7
  go_upto_if 54 with fail
  go_cut [6, 7] from 54 to 63 (ArCut w v L w6.heap.size 30)
  case first =>
    by_cases hq : q10 = 0
    · subst hq
      go_wp2_with fail
      with_reducible refine (odd_w _ _ _ T10 (by omega)).mono ?_
      rintro e w11 ⟨z1, hz1, rfl, T11, g11⟩
      have hb11 := Nat.le_trans hb10 g11.size
      go_wp2_with fail
      with_reducible refine (odd_x _ _ _ T11 (by omega)).mono ?_
      rintro e w12 ⟨z2, rfl, T12, g12⟩
      have hb12 := Nat.le_trans hb11 g12.size
      go_wp2_with fail
      with_reducible refine (odd_w _ _ _ T12 (by omega)).mono ?_
      rintro e w13 ⟨z3, hz3, rfl, T13, g13⟩
      have g1113 := grown_trans (grown_trans g11 g12) g13
      have HG13 := Lib.hid (HG10.out.past g1113 (Nat.le_refl _))
      have HO13 := Lib.hid (HO10.out.past g1113 (by omega))
      obtain ⟨x0, x1, x2, x3, x4⟩ := HO13.out.five
      obtain ⟨y0, y1, y2, y3, y4⟩ := HO13.out.five0
      have HOS := Lib.hid (HO13.out.set 1 (.int .i64 z1))
      have HRS := Lib.hid (HR6.out.keptK ((HK10.out.past g1113 hB0).set (p := ⟨w6.heap.size, 1, none⟩) (Nat.le_refl _) (.int .i64 z1)))
      have HGS := Lib.hid (HG13.out.set (p := ⟨w6.heap.size, 1, none⟩) (by show w.heap.size ≤ w6.heap.size; omega) (.int .i64 z1))
      clear g11 g12 g13 g1113 HK10 HG10 HO10
      go_wp2_with fail
      go_meet
      exact ⟨_, _, ⟨q2 - 1, z1, q4, q5, q6 == 0⟩, rfl, rfl, (wf_le hz3).2, (wf_le hz1).2, HRS.out.wider (Nat.le_succ _), HOS.out, HGS.out⟩
    · have e0 : (q10 == 0) = false := by simpa using hq
      go_wp2_with fail
      go_meet
      exact ⟨_, _, ⟨q2 - 1, q3 - 1, q4, q5, q6 == 0⟩, rfl, rfl, hq9, hq3, (HR6.out.keptK HK10.out).wider (Nat.le_succ _), HO10.out, HG10.out⟩
  case rest =>
    obtain ⟨sx, nx, a, rfl, rfl, hnx, hna, R, O, G⟩ := hcut
    have HR0 := Lib.hid R
    have HO0 := Lib.hid O
    have HG0 := Lib.hid G
    have hbx0 := G.size
    clear R O G HR6 HO10 HK10 HG10 hb10 hbx hw2 hw3 hw8 hw9 hq3 hq9 T10 a2 b2 a3 b3 a4 b4 a5 b5 a6 b6 a8 b8 a9 b9 a10 b10
    generalize w6.heap.size = bb at *
    have hl1 : L.length ≤ 1000 := by omega
    have HA1 := Lib.hid (show (mapR L a).1.length ≤ 1000 by have := mapR_len L a; omega)
    have HA2 := Lib.hid (show (unmR L sx nx).1.length ≤ 1000 by have := unmR_len L sx nx; omega)
    have HA3 := Lib.hid (show (shwR L a.f a.p).length ≤ 1000 by have := shwR_len L a.f a.p; omega)
    obtain ⟨⟨lb, eb⟩, hxa⟩ : ∃ x, mapR L a = x := ⟨_, rfl⟩
    obtain ⟨⟨ld, ed⟩, hxc⟩ : ∃ x, unmR L sx nx = x := ⟨_, rfl⟩
    obtain ⟨⟨fa, fb⟩, hxf⟩ : ∃ x, fdX L sx = x := ⟨_, rfl⟩
    obtain ⟨⟨ra, rb⟩, hxr⟩ : ∃ x, rmR L nx = x := ⟨_, rfl⟩
    obtain ⟨P, hxp⟩ : ∃ x, shwR L a.f a.p = x := ⟨_, rfl⟩
    obtain ⟨kb, hkb⟩ : ∃ x, okR L = x := ⟨_, rfl⟩
    rw [hxa] at HA1
    rw [hxc] at HA2
    rw [hxp] at HA3
    simp only at HA1 HA2
    have HXA := Lib.hid hxa
    have HXC := Lib.hid hxc
    have HXF := Lib.hid hxf
    have HXR := Lib.hid hxr
    have HXP := Lib.hid hxp
    have HKB := Lib.hid hkb
    have hee : ∀ (w : World) (d : Ar), (binOp .eql 30 (arV d) (arV d)).run Try.prog w = .ok (.bool true) w := fun w d => (run_eql5 w d d).trans (by simp)
    clear hxa hxc hxf hxr hxp hkb
    have hlb0 := HO0.out.lt
    obtain ⟨x0, x1, x2, x3, x4⟩ := HO0.out.five
    go_wp2_with fail
    with_reducible refine (map_p HR0.out hbx0 HS.out hna).mono ?_
    rw [HXA.out]
    rintro e9 w21 ⟨vb, rfl, R9, g⟩
    have HR1 := Lib.hid (HR0.out.grew g)
    have HO1 := Lib.hid (HO0.out.grew g)
    have HG1 := Lib.hid (HG0.out.trans g)
    have HB1 := Lib.hid R9
    have hbx1 := HG1.out.size
    clear g hbx0 HG0 HR0 HO0 R9
    clear x0 x1 x2 x3 x4
    obtain ⟨x0, x1, x2, x3, x4⟩ := HO1.out.five
    have hlb1 := HO1.out.lt
    go_wp2_with fail
    with_reducible refine (map_q HR1.out hbx1 hl1).mono ?_
    rw [HXA.out]
    rintro e9 w22 ⟨vc, rfl, R9, g⟩
    have HR2 := Lib.hid (HR1.out.grew g)
    have HO2 := Lib.hid (HO1.out.grew g)
    have HB2 := Lib.hid (HB1.out.grew g)
    have HG2 := Lib.hid (HG1.out.trans g)
    have HC2 := Lib.hid R9
    have hbx2 := HG2.out.size
    clear g hbx1 HG1 HR1 HO1 HB1 R9
    go_wp2_with fail
    with_reducible refine (unmap_p HR2.out hbx2 HS.out hnx).mono ?_
    rw [HXC.out]
    rintro e9 w23 ⟨vd, rfl, R9, g⟩
    have HR3 := Lib.hid (HR2.out.grew g)
    have HO3 := Lib.hid (HO2.out.grew g)
    have HB3 := Lib.hid (HB2.out.grew g)
    have HC3 := Lib.hid (HC2.out.grew g)
    have HG3 := Lib.hid (HG2.out.trans g)
    have HD3 := Lib.hid R9
    have hbx3 := HG3.out.size
    clear g hbx2 HG2 HR2 HO2 HB2 HC2 R9
    go_wp2_with fail
    with_reducible refine (unmap_q HR3.out hbx3 hl1).mono ?_
    rw [HXC.out]
    rintro e9 w24 ⟨vu, rfl, R9, g⟩
    have HR4 := Lib.hid (HR3.out.grew g)
    have HO4 := Lib.hid (HO3.out.grew g)
    have HB4 := Lib.hid (HB3.out.grew g)
    have HC4 := Lib.hid (HC3.out.grew g)
    have HD4 := Lib.hid (HD3.out.grew g)
    have HG4 := Lib.hid (HG3.out.trans g)
    have HU4 := Lib.hid R9
    have hbx4 := HG4.out.size
    clear g hbx3 HG3 HR3 HO3 HB3 HC3 HD3 R9
    go_wp2_with fail
    with_reducible refine (find_p HR4.out HS.out HXF.out).mono ?_
    rintro e9 w25 ⟨rfl, g⟩
    have HR5 := Lib.hid ((HR4.out.grew g).alloc (.cells #[.int .i64 fa.s, .int .i64 fa.n, .int .i64 fa.f, .int .i64 fa.p, .bool fa.w] 30))
    have HO5 := Lib.hid ((HO4.out.grew g).alloc (.cells #[.int .i64 fa.s, .int .i64 fa.n, .int .i64 fa.f, .int .i64 fa.p, .bool fa.w] 30))
    have HB5 := Lib.hid ((HB4.out.grew g).alloc (.cells #[.int .i64 fa.s, .int .i64 fa.n, .int .i64 fa.f, .int .i64 fa.p, .bool fa.w] 30))
    have HC5 := Lib.hid ((HC4.out.grew g).alloc (.cells #[.int .i64 fa.s, .int .i64 fa.n, .int .i64 fa.f, .int .i64 fa.p, .bool fa.w] 30))
    have HD5 := Lib.hid ((HD4.out.grew g).alloc (.cells #[.int .i64 fa.s, .int .i64 fa.n, .int .i64 fa.f, .int .i64 fa.p, .bool fa.w] 30))
    have HU5 := Lib.hid ((HU4.out.grew g).alloc (.cells #[.int .i64 fa.s, .int .i64 fa.n, .int .i64 fa.f, .int .i64 fa.p, .bool fa.w] 30))
    have HG5 := Lib.hid ((HG4.out.trans g).alloc (.cells #[.int .i64 fa.s, .int .i64 fa.n, .int .i64 fa.f, .int .i64 fa.p, .bool fa.w] 30))
    have HP5 := Lib.hid (Own.new w25 30 #[.int .i64 fa.s, .int .i64 fa.n, .int .i64 fa.f, .int .i64 fa.p, .bool fa.w])
    have hbx5 : w.heap.size ≤ (w25.alloc (.cells #[.int .i64 fa.s, .int .i64 fa.n, .int .i64 fa.f, .int .i64 fa.p, .bool fa.w] 30)).heap.size := HG5.out.size
    clear g hbx4 HG4 HR4 HO4 HB4 HC4 HD4 HU4
    go_wp2_with fail
    with_reducible refine (find_q HR5.out hl1 HXF.out).mono ?_
    rintro e9 w26 ⟨rfl, g⟩
    have HR6 := Lib.hid ((HR5.out.grew g).alloc (.cells #[.int .i64 fa.s, .int .i64 fa.n, .int .i64 fa.f, .int .i64 fa.p, .bool fa.w] 30))
    have HO6 := Lib.hid ((HO5.out.grew g).alloc (.cells #[.int .i64 fa.s, .int .i64 fa.n, .int .i64 fa.f, .int .i64 fa.p, .bool fa.w] 30))
    have HB6 := Lib.hid ((HB5.out.grew g).alloc (.cells #[.int .i64 fa.s, .int .i64 fa.n, .int .i64 fa.f, .int .i64 fa.p, .bool fa.w] 30))
    have HC6 := Lib.hid ((HC5.out.grew g).alloc (.cells #[.int .i64 fa.s, .int .i64 fa.n, .int .i64 fa.f, .int .i64 fa.p, .bool fa.w] 30))
    have HD6 := Lib.hid ((HD5.out.grew g).alloc (.cells #[.int .i64 fa.s, .int .i64 fa.n, .int .i64 fa.f, .int .i64 fa.p, .bool fa.w] 30))
    have HU6 := Lib.hid ((HU5.out.grew g).alloc (.cells #[.int .i64 fa.s, .int .i64 fa.n, .int .i64 fa.f, .int .i64 fa.p, .bool fa.w] 30))
    have HP6 := Lib.hid ((HP5.out.grew g).alloc (.cells #[.int .i64 fa.s, .int .i64 fa.n, .int .i64 fa.f, .int .i64 fa.p, .bool fa.w] 30))
    have HG6 := Lib.hid ((HG5.out.trans g).alloc (.cells #[.int .i64 fa.s, .int .i64 fa.n, .int .i64 fa.f, .int .i64 fa.p, .bool fa.w] 30))
    have HQ6 := Lib.hid (Own.new w26 30 #[.int .i64 fa.s, .int .i64 fa.n, .int .i64 fa.f, .int .i64 fa.p, .bool fa.w])
    have hbx6 : w.heap.size ≤ (w26.alloc (.cells #[.int .i64 fa.s, .int .i64 fa.n, .int .i64 fa.f, .int .i64 fa.p, .bool fa.w] 30)).heap.size := HG6.out.size
    clear g hbx5 HG5 HR5 HO5 HB5 HC5 HD5 HU5 HP5
    go_wp2_with fail
    with_reducible refine (room_p HR6.out HS.out HXR.out).mono ?_
    rintro e9 w27 ⟨rfl, g⟩
    have HR7 := Lib.hid (HR6.out.grew g)
    have HO7 := Lib.hid (HO6.out.grew g)
    have HB7 := Lib.hid (HB6.out.grew g)
    have HC7 := Lib.hid (HC6.out.grew g)
    have HD7 := Lib.hid (HD6.out.grew g)
    have HU7 := Lib.hid (HU6.out.grew g)
    have HP7 := Lib.hid (HP6.out.grew g)
    have HQ7 := Lib.hid (HQ6.out.grew g)
    have HG7 := Lib.hid (HG6.out.trans g)
    have hbx7 := HG7.out.size
    clear g hbx6 HG6 HR6 HO6 HB6 HC6 HD6 HU6 HP6 HQ6
    go_wp2_with fail
    with_reducible refine (room_q HR7.out hl1 HXR.out).mono ?_
    rintro e9 w28 ⟨rfl, g⟩
    have HR8 := Lib.hid (HR7.out.grew g)
    have HO8 := Lib.hid (HO7.out.grew g)
    have HB8 := Lib.hid (HB7.out.grew g)
    have HC8 := Lib.hid (HC7.out.grew g)
    have HD8 := Lib.hid (HD7.out.grew g)
    have HU8 := Lib.hid (HU7.out.grew g)
    have HP8 := Lib.hid (HP7.out.grew g)
    have HQ8 := Lib.hid (HQ7.out.grew g)
    have HG8 := Lib.hid (HG7.out.trans g)
    have hbx8 := HG8.out.size
    clear g hbx7 HG7 HR7 HO7 HB7 HC7 HD7 HU7 HP7 HQ7
    clear x0 x1 x2 x3 x4
    obtain ⟨x0, x1, x2, x3, x4⟩ := HO8.out.five
    have hlb8 := HO8.out.lt
    go_upto_region 15 with fail
    refine wp_region_held_drew (S := fun w' => w'.cell? ⟨bb, 2, none⟩ = some (.int .i64 a.f) ∧ w'.cell? ⟨bb, 3, none⟩ = some (.int .i64 a.p)) (by kernel_rfl) ?_ (fun hHeld => ?_)
    · (try dsimp only); (refine ⟨?_, ?_⟩ <;> (repeat (first | (with_reducible assumption) | (with_reducible refine far_drew ?_))))
    first | refine wpAnyH_take (i := 0) (v := undef) rfl (by kernel_rfl) (by kernel_rfl) (by kernel_rfl) (fun _ _ _ h => h) (Or.inr ⟨by rfl, rfl⟩) (by assumption) ?_ | (refine' wpAnyH_take (i := 0) (v := _) rfl (by kernel_rfl) (by kernel_rfl) (by kernel_rfl) (fun _ _ _ h => h) (Or.inl ⟨by rfl, ?hy0a⟩) (by assumption) ?rest0a; case hy0a => (intro w hSw; (try dsimp only at hSw); (first | (go_simp; done) | (go_simp; with_reducible rfl))))
    try simp only [Act.put, List.setIfInBounds_toArray, List.set_cons_zero, List.set_cons_succ, List.getElem_toArray, List.getElem_cons_zero, List.getElem_cons_succ]
    first | refine wpAnyH_take (i := 1) (v := undef) rfl (by kernel_rfl) (by kernel_rfl) (by kernel_rfl) (fun _ _ _ h => h) (Or.inr ⟨by rfl, rfl⟩) (by assumption) ?_ | (refine' wpAnyH_take (i := 1) (v := _) rfl (by kernel_rfl) (by kernel_rfl) (by kernel_rfl) (fun _ _ _ h => h) (Or.inl ⟨by rfl, ?hy1a⟩) (by assumption) ?rest1a; case hy1a => (intro w hSw; (try dsimp only at hSw); (first | (go_simp; done) | (go_simp; with_reducible rfl))))
    try simp only [Act.put, List.setIfInBounds_toArray, List.set_cons_zero, List.set_cons_succ, List.getElem_toArray, List.getElem_cons_zero, List.getElem_cons_succ]
    first | refine wpAnyH_take (i := 2) (v := undef) rfl (by kernel_rfl) (by kernel_rfl) (by kernel_rfl) (fun _ _ _ h => h) (Or.inr ⟨by rfl, rfl⟩) (by assumption) ?_ | (refine' wpAnyH_take (i := 2) (v := _) rfl (by kernel_rfl) (by kernel_rfl) (by kernel_rfl) (fun _ _ _ h => h) (Or.inl ⟨by rfl, ?hy2a⟩) (by assumption) ?rest2a; case hy2a => (intro w hSw; (try dsimp only at hSw); (first | (go_simp; done) | (go_simp; with_reducible rfl))))
    try simp only [Act.put, List.setIfInBounds_toArray, List.set_cons_zero, List.set_cons_succ, List.getElem_toArray, List.getElem_cons_zero, List.getElem_cons_succ]
    first | refine wpAnyH_take (i := 3) (v := undef) rfl (by kernel_rfl) (by kernel_rfl) (by kernel_rfl) (fun _ _ _ h => h) (Or.inr ⟨by rfl, rfl⟩) (by assumption) ?_ | (refine' wpAnyH_take (i := 3) (v := _) rfl (by kernel_rfl) (by kernel_rfl) (by kernel_rfl) (fun _ _ _ h => h) (Or.inl ⟨by rfl, ?hy3a⟩) (by assumption) ?rest3a; case hy3a => (intro w hSw; (try dsimp only at hSw); (first | (go_simp; done) | (go_simp; with_reducible rfl))))
    try simp only [Act.put, List.setIfInBounds_toArray, List.set_cons_zero, List.set_cons_succ, List.getElem_toArray, List.getElem_cons_zero, List.getElem_cons_succ]
    first | refine wpAnyH_take (i := 4) (v := undef) rfl (by kernel_rfl) (by kernel_rfl) (by kernel_rfl) (fun _ _ _ h => h) (Or.inr ⟨by rfl, rfl⟩) (by assumption) ?_ | (refine' wpAnyH_take (i := 4) (v := _) rfl (by kernel_rfl) (by kernel_rfl) (by kernel_rfl) (fun _ _ _ h => h) (Or.inl ⟨by rfl, ?hy4a⟩) (by assumption) ?rest4a; case hy4a => (intro w hSw; (try dsimp only at hSw); (first | (go_simp; done) | (go_simp; with_reducible rfl))))
    try simp only [Act.put, List.setIfInBounds_toArray, List.set_cons_zero, List.set_cons_succ, List.getElem_toArray, List.getElem_cons_zero, List.getElem_cons_succ]
    first | refine wpAnyH_take (i := 6) (v := undef) rfl (by kernel_rfl) (by kernel_rfl) (by kernel_rfl) (fun _ _ _ h => h) (Or.inr ⟨by rfl, rfl⟩) (by assumption) ?_ | (refine' wpAnyH_take (i := 6) (v := _) rfl (by kernel_rfl) (by kernel_rfl) (by kernel_rfl) (fun _ _ _ h => h) (Or.inl ⟨by rfl, ?hy6a⟩) (by assumption) ?rest6a; case hy6a => (intro w hSw; (try dsimp only at hSw); (first | (go_simp; done) | (go_simp; with_reducible rfl))))
    try simp only [Act.put, List.setIfInBounds_toArray, List.set_cons_zero, List.set_cons_succ, List.getElem_toArray, List.getElem_cons_zero, List.getElem_cons_succ]
    first | refine wpAnyH_take (i := 7) (v := undef) rfl (by kernel_rfl) (by kernel_rfl) (by kernel_rfl) (fun _ _ _ h => h) (Or.inr ⟨by rfl, rfl⟩) (by assumption) ?_ | (refine' wpAnyH_take (i := 7) (v := _) rfl (by kernel_rfl) (by kernel_rfl) (by kernel_rfl) (fun _ _ _ h => h) (Or.inl ⟨by rfl, ?hy7a⟩) (by assumption) ?rest7a; case hy7a => (intro w hSw; (try dsimp only at hSw); (first | (go_simp; done) | (go_simp; with_reducible rfl))))
    try simp only [Act.put, List.setIfInBounds_toArray, List.set_cons_zero, List.set_cons_succ, List.getElem_toArray, List.getElem_cons_zero, List.getElem_cons_succ]
    first | refine wpAnyH_take (i := 8) (v := undef) rfl (by kernel_rfl) (by kernel_rfl) (by kernel_rfl) (fun _ _ _ h => h) (Or.inr ⟨by rfl, rfl⟩) (by assumption) ?_ | (refine' wpAnyH_take (i := 8) (v := _) rfl (by kernel_rfl) (by kernel_rfl) (by kernel_rfl) (fun _ _ _ h => h) (Or.inl ⟨by rfl, ?hy8a⟩) (by assumption) ?rest8a; case hy8a => (intro w hSw; (try dsimp only at hSw); (first | (go_simp; done) | (go_simp; with_reducible rfl))))
    try simp only [Act.put, List.setIfInBounds_toArray, List.set_cons_zero, List.set_cons_succ, List.getElem_toArray, List.getElem_cons_zero, List.getElem_cons_succ]
    first | refine wpAnyH_take (i := 9) (v := undef) rfl (by kernel_rfl) (by kernel_rfl) (by kernel_rfl) (fun _ _ _ h => h) (Or.inr ⟨by rfl, rfl⟩) (by assumption) ?_ | (refine' wpAnyH_take (i := 9) (v := _) rfl (by kernel_rfl) (by kernel_rfl) (by kernel_rfl) (fun _ _ _ h => h) (Or.inl ⟨by rfl, ?hy9a⟩) (by assumption) ?rest9a; case hy9a => (intro w hSw; (try dsimp only at hSw); (first | (go_simp; done) | (go_simp; with_reducible rfl))))
    try simp only [Act.put, List.setIfInBounds_toArray, List.set_cons_zero, List.set_cons_succ, List.getElem_toArray, List.getElem_cons_zero, List.getElem_cons_succ]
    first | refine wpAnyH_take (i := 10) (v := undef) rfl (by kernel_rfl) (by kernel_rfl) (by kernel_rfl) (fun _ _ _ h => h) (Or.inr ⟨by rfl, rfl⟩) (by assumption) ?_ | (refine' wpAnyH_take (i := 10) (v := _) rfl (by kernel_rfl) (by kernel_rfl) (by kernel_rfl) (fun _ _ _ h => h) (Or.inl ⟨by rfl, ?hy10a⟩) (by assumption) ?rest10a; case hy10a => (intro w hSw; (try dsimp only at hSw); (first | (go_simp; done) | (go_simp; with_reducible rfl))))
    try simp only [Act.put, List.setIfInBounds_toArray, List.set_cons_zero, List.set_cons_succ, List.getElem_toArray, List.getElem_cons_zero, List.getElem_cons_succ]
    refine wpAnyH_ready (rs := [5]) (by kernel_rfl) (by simp) ?_
    refine AllReadyH.cons rfl (fun K hK => ?_) AllReadyH.nil
    try simp only [Act.put, List.setIfInBounds_toArray, List.set_cons_zero, List.set_cons_succ, List.getElem_toArray, List.getElem_cons_zero, List.getElem_cons_succ]
    go_simp; go_at_call 18; (with_reducible refine (shown_p HR8.out.drew HS.out).mono ?_); rintro e9 w30 ⟨vy, rfl, R30, g30⟩; rw [HXP.out] at R30; have y2 := (g30.cells.1 _ _ hlb8).trans (far_drew x2); have y3 := (g30.cells.1 _ _ hlb8).trans (far_drew x3)
    refine hK.out _ _ ?_ (fun hHeld => ?_)
    · (try dsimp only); (refine ⟨?_, ?_⟩ <;> (repeat (first | (with_reducible assumption) | (with_reducible refine far_drew ?_))))
    clear hK K
    try simp only [Act.put, List.setIfInBounds_toArray, List.set_cons_zero, List.set_cons_succ, List.getElem_toArray, List.getElem_cons_zero, List.getElem_cons_succ]
    refine wpAnyH_ready (rs := [11]) (by kernel_rfl) (by simp) ?_
    refine AllReadyH.cons rfl (fun K hK => ?_) AllReadyH.nil
    try simp only [Act.put, List.setIfInBounds_toArray, List.set_cons_zero, List.set_cons_succ, List.getElem_toArray, List.getElem_cons_zero, List.getElem_cons_succ]
    go_simp; go_at_call 19; (with_reducible refine (shown_q (HR8.out.drew.grew g30) hl1).mono ?_); rintro e9 w31 ⟨vz, rfl, R31, g31⟩; rw [HXP.out] at R31; have z2 := (g31.cells.1 _ _ (Nat.lt_of_lt_of_le hlb8 g30.size)).trans y2; have z3 := (g31.cells.1 _ _ (Nat.lt_of_lt_of_le hlb8 g30.size)).trans y3
    refine hK.out _ _ ?_ (fun hHeld => ?_)
    · (try dsimp only); (refine ⟨?_, ?_⟩ <;> (repeat (first | (with_reducible assumption) | (with_reducible refine far_drew ?_))))
    clear hK K
    try simp only [Act.put, List.setIfInBounds_toArray, List.set_cons_zero, List.set_cons_succ, List.getElem_toArray, List.getElem_cons_zero, List.getElem_cons_succ]
    first | refine wpAnyH_take (i := 12) (v := undef) rfl (by kernel_rfl) (by kernel_rfl) (by kernel_rfl) (fun _ _ _ h => h) (Or.inr ⟨by rfl, rfl⟩) (by assumption) ?_ | (refine' wpAnyH_take (i := 12) (v := _) rfl (by kernel_rfl) (by kernel_rfl) (by kernel_rfl) (fun _ _ _ h => h) (Or.inl ⟨by rfl, ?hy12a⟩) (by assumption) ?rest12a; case hy12a => (intro w hSw; (try dsimp only at hSw); (first | (go_simp; done) | (go_simp; with_reducible rfl))))
    try simp only [Act.put, List.setIfInBounds_toArray, List.set_cons_zero, List.set_cons_succ, List.getElem_toArray, List.getElem_cons_zero, List.getElem_cons_succ]
    first | refine wpAnyH_take (i := 13) (v := undef) rfl (by kernel_rfl) (by kernel_rfl) (by kernel_rfl) (fun _ _ _ h => h) (Or.inr ⟨by rfl, rfl⟩) (by assumption) ?_ | (refine' wpAnyH_take (i := 13) (v := _) rfl (by kernel_rfl) (by kernel_rfl) (by kernel_rfl) (fun _ _ _ h => h) (Or.inl ⟨by rfl, ?hy13a⟩) (by assumption) ?rest13a; case hy13a => (intro w hSw; (try dsimp only at hSw); (first | (go_simp; done) | (go_simp; with_reducible rfl))))
    try simp only [Act.put, List.setIfInBounds_toArray, List.set_cons_zero, List.set_cons_succ, List.getElem_toArray, List.getElem_cons_zero, List.getElem_cons_succ]
    refine wpAnyH_done (by kernel_rfl) ?_ _
    have hgg := Lib.hid (g30.trans g31)
    have HR9 := Lib.hid (HR8.out.drew.grew hgg.out)
    have HB9 := Lib.hid (HB8.out.drew.grew hgg.out)
    have HC9 := Lib.hid (HC8.out.drew.grew hgg.out)
    have HD9 := Lib.hid (HD8.out.drew.grew hgg.out)
    have HU9 := Lib.hid (HU8.out.drew.grew hgg.out)
    have HP9 := Lib.hid (HP8.out.drew.grew hgg.out)
    have HQ9 := Lib.hid (HQ8.out.drew.grew hgg.out)
    have HG9 := Lib.hid (HG8.out.drew.trans hgg.out)
    have HY9 := Lib.hid (R30.grew g31)
    have HZ9 := Lib.hid R31
    clear g30 g31 hgg R30 R31 hHeld x0 x1 x2 x3 x4 y2 y3 z2 z3 HO8 HG8 hbx8 HR8 HB8 HC8 HD8 HU8 HP8 HQ8
    obtain ⟨ap, cp, rfl, -, -⟩ := HY9.out.slice
    obtain ⟨aq, cq, rfl, -, -⟩ := HZ9.out.slice
    obtain ⟨N, hN⟩ : ∃ N, P.length = N := ⟨_, rfl⟩
    have HN := Lib.hid hN
    rw [hN] at HA3 HY9 HZ9 ⊢
    have hN1 : N ≤ 1000 := HA3.out
    clear hN
    go_wp2_with fail
    go_loopw [26] (fun iv wr => ∃ i : Nat, iv = .int .i64 i ∧ i ≤ N ∧ Grew w31 wr) (fun iv _ => N - (intOf iv).toNat)
    case atStart => exact ⟨0, rfl, by omega, Grew.refl _⟩
    case round =>
      obtain ⟨i, rfl, hi, G⟩ := hrel
      obtain ⟨wo, rfl⟩ : ∃ wo : World, wo = wr := ⟨_, rfl⟩
      by_cases hlt : i < N
      · have hiL : i < P.length := by rw [HN.out]; exact hlt
        obtain ⟨g, o, rfl, -, hg, p0⟩ := (HY9.out.grew G).at1c hiL
        obtain ⟨g', o', rfl, -, hg', p1⟩ := (HZ9.out.grew G).at1c hiL
        generalize P.getD i 0 = z at *
        have hi0 : (0 : Int) ≤ (i : Int) := by omega
        have hi1 : (i : Int) < (N : Int) := by omega
        have HG := Lib.hid G
        clear G
        go_wp2
        go_quiet (fail)
        revert nq; intro nq1
        go_wp2
        exact ⟨⟨i + 1, by go_num, by omega, HG.out.drewN _⟩, by simp [intOf] <;> omega⟩
      · obtain rfl : i = N := by omega
        have HR10 := Lib.hid (HR9.out.grew G)
        have HB10 := Lib.hid (HB9.out.grew G)
        have HC10 := Lib.hid (HC9.out.grew G)
        have HD10 := Lib.hid (HD9.out.grew G)
        have HU10 := Lib.hid (HU9.out.grew G)
        have HP10 := Lib.hid (HP9.out.grew G)
        have HQ10 := Lib.hid (HQ9.out.grew G)
        have HG10 := Lib.hid (HG9.out.trans G)
        clear G HY9 HZ9 HG9 HR9 HB9 HC9 HD9 HU9 HP9 HQ9
        go_wp2_with fail
        with_reducible refine (check_p HR10.out HS.out HKB.out).mono ?_
        rintro e9 z11 ⟨rfl, g⟩
        have HR11 := Lib.hid (HR10.out.grew g)
        have HB11 := Lib.hid (HB10.out.grew g)
        have HC11 := Lib.hid (HC10.out.grew g)
        have HD11 := Lib.hid (HD10.out.grew g)
        have HU11 := Lib.hid (HU10.out.grew g)
        have HP11 := Lib.hid (HP10.out.grew g)
        have HQ11 := Lib.hid (HQ10.out.grew g)
        have HG11 := Lib.hid (HG10.out.trans g)
        clear g HG10 
        go_wp2_with fail
        with_reducible refine (check_q HR11.out hl1 HKB.out).mono ?_
        rintro e9 z12 ⟨rfl, g⟩
        have HB12 := Lib.hid (HB11.out.grew g)
        have HC12 := Lib.hid (HC11.out.grew g)
        have HD12 := Lib.hid (HD11.out.grew g)
        have HU12 := Lib.hid (HU11.out.grew g)
        have HP12 := Lib.hid (HP11.out.grew g)
        have HQ12 := Lib.hid (HQ11.out.grew g)
        have HG12 := Lib.hid (HG11.out.trans g)
        clear g HG11 
        go_wp2_with fail
        with_reducible refine (same_q HB12.out HC12.out HA1.out).mono ?_
        rintro e9 z13 ⟨rfl, g⟩
        have HD13 := Lib.hid (HD12.out.grew g)
        have HU13 := Lib.hid (HU12.out.grew g)
        have HP13 := Lib.hid (HP12.out.grew g)
        have HQ13 := Lib.hid (HQ12.out.grew g)
        have HG13 := Lib.hid (HG12.out.trans g)
        clear g HG12 
        go_wp2_with fail
        with_reducible refine (same_q HD13.out HU13.out HA2.out).mono ?_
        rintro e9 z14 ⟨rfl, g⟩
        have HP14 := Lib.hid (HP13.out.grew g)
        have HQ14 := Lib.hid (HQ13.out.grew g)
        have HG14 := Lib.hid (HG13.out.trans g)
        clear g HG13 
        obtain ⟨u0, u1, u2, u3, u4⟩ := HP14.out.five
        obtain ⟨v0, v1, v2, v3, v4⟩ := HQ14.out.five
        go_wp2_with fail
        with_reducible refine (awake_any _).mono ?_
        rintro e9 z15 ⟨rfl, g⟩
        have HG15 := Lib.hid (HG14.out.trans g)
        clear g HG14 
        go_wp2
        go_ret
        exact ⟨by simp, HG15.out⟩

theorem Try.own : ownKnob Try.prog.godebug = none := by kernel_rfl
theorem Try.laidOut : laidOutB Try.prog = true := by kernel_rfl

theorem areaCalls_contract (W : World) (base : Nat) (args : Array Value) (H : Type) (enc : TypeId × Value → H) (ds : List (DataW H)) (p : List MemPlace)
    (hval : ∀ (j : Nat) t v, Try.f3.params[j]? = some t → args[j]? = some v → Value.okWide Try.prog W .any base t v)
    (hA : DataW.TrodAll enc Try.prog W 0 (fun _ => true) true Try.f3.params.toList args.toList ds p) :
    (∃ d0, ds = [d0]) ∧ Calls Try.prog 3 args W fun e W' => e = .returned (.bool true) ∧ Below W.heap.size W W' := by
  rw [Try.params3] at hval hA
  obtain ⟨v0, d0, p0, ha, hd, hp, h0⟩ := args_1 hA
  subst ha hd
  obtain ⟨A0, c0, xs0, rfl, hr0, hm0⟩ := open_introw Try.underlying22 Try.underlying3 (by kernel_rfl) (hval 0 _ _ rfl rfl) h0
  exact ⟨⟨_, rfl⟩, (calls_core A0 c0 xs0 W hr0 hm0).mono fun _ _ h => h⟩

set_option maxRecDepth 100000 in
theorem areaCalls_lifted (os : Os) (started : os.Started) (H : Type) (enc : TypeId × Value → H) :
    ReturnsInHanded {} Try.checked os 3 .any (Rows.areaCallsSpec.pre6 enc Try.prog Try.f3 Rows.areaCallsRow.domain false) (Rows.areaCallsSpec.post enc Try.prog Try.f3 false true false false) := by
  refine returnsInHanded_of_change (C := Try.checked) Try.own started (by kernel_rfl) Try.func3
    (ChangeSpec.witness6 (enc := enc) (C := Try.checked) false ⟨#[], #[.slice none 0 0], []⟩ 8 (by kernel_rfl) (by kernel_rfl) (by kernel_rfl) (by kernel_rfl)) ?_
  intro W base args ds gs before hval hW _ _
  obtain ⟨p, q, hA, hV, hrest⟩ := id hW
  obtain ⟨⟨d0, rfl⟩, hc⟩ := areaCalls_contract W base args H enc ds p hval hA
  obtain ⟨rfl, -⟩ := trodVars_none hV
  refine hc.mono fun e W' ⟨he, hb⟩ => ⟨_, he, ?_⟩
  exact law_close (tb := 4) Try.laidOut (by rw [Try.params3]; decide +kernel) Try.underlying4 rfl rfl hW rfl rfl rfl hb

theorem areaCalls_holds : Rows.AreaCallsSaid :=
  OpenClaim.holds_of_wide 3 Try.f3 rfl rfl rfl rfl rfl rfl rfl ⟨rfl, rfl, rfl, rfl, rfl⟩ rfl rfl rfl rfl rfl (by kernel_rfl) Try.func3 (by kernel_rfl)
    (of_decide_eq_true (by kernel_rfl)) (by unfold Func.isWrapper; first | (rw [if_pos (by decide +kernel)]; kernel_rfl) | (rw [if_neg (by decide +kernel)]; exact ⟨rfl, rfl⟩))
    (fun os started H enc _ => areaCalls_lifted os started H enc)
end Go.Proofs.Ytnlhdbengppnpaa
