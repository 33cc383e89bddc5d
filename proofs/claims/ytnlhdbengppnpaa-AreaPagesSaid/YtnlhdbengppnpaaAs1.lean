/- Areas (layer 16): what a page shows; made lists, drawn lists; the package is awake. -/
import Derived.Test.YtnlhdbengppnpaaAq2
import Derived.Test.YtnlhdbengppnpaaOdd
namespace Go.Mine
open Go Go.RowKit
/-- What a page shows, and whether it shows anything. -/
def swX (L : List Ar) (x : Int) : Int × Int × Bool × Bool := ((fdX L x).1.f, (fdX L x).1.p + x - (fdX L x).1.s, (fdX L x).1.w, (fdX L x).2)
abbrev swV (y : Int × Int × Bool × Bool) : Value := .tuple #[.int .i64 y.1, .int .i64 y.2.1, .bool y.2.2.1, .bool y.2.2.2]
theorem wk1 : mapR [] ⟨1, 4, 1, 0, false⟩ = ([⟨1, 4, 1, 0, false⟩], 0) := by decide +kernel
theorem wk2 : unmR [⟨1, 4, 1, 0, false⟩] 2 1 = ([⟨1, 1, 1, 0, false⟩, ⟨3, 2, 1, 2, false⟩], 0) := by decide +kernel
theorem wk3 : fdX [⟨1, 4, 1, 0, false⟩] 3 = (⟨1, 4, 1, 0, false⟩, true) := by decide +kernel
theorem wk4 : rmR [⟨1, 4, 1, 0, false⟩] 2 = (5, true) := by decide +kernel
theorem wk5 : shwR [⟨1, 4, 1, 0, false⟩] 1 2 = [3] := by decide +kernel
theorem wk6 : okR [⟨1, 4, 1, 0, false⟩] = true := by decide +kernel
theorem wk7 : okR [⟨1, 1, 1, 0, false⟩, ⟨3, 2, 1, 2, false⟩] = true := by decide +kernel
theorem wk8 : okR [zR] = false := by decide +kernel
theorem sm_one : SmR [zR] := ⟨by simp, fun k hk => by
  have : k = 0 := by simpa using hk
  subst this
  decide⟩
theorem Grew.grownS {a b : World} (h : Grew a b) (r : Nat) : a.grownBy b (some r) := ⟨h.grown.os, h.grown.tape, h.grown.output, h.grown.size, fun i hi _ => h.grown.block i hi (by simp)⟩
theorem sm_nil : SmR [] := okR_sm okR_nil
/-- A made list. -/
def RetMa (B b : Nat) (w : World) (e : Ending) (w' : World) : Prop := ∃ v L, e = .returned v ∧ okR L = true ∧ RdS 5 enc5 w' w.heap.size v L ∧ Tp B w' b ∧ w.grownBy w' (some b)
/-- A drawn list. -/
def RetDw (B b : Nat) (w : World) (e : Ending) (w' : World) : Prop := ∃ v L, e = .returned v ∧ SmR L ∧ L.length ≤ 8 ∧ RdS 5 enc5 w' w.heap.size v L ∧ Tp B w' b ∧ w.grownBy w' (some b)
theorem sm_set {L : List Ar} {k : Nat} {x : Ar} (h : SmR L) (hx : x.n ≤ 9223372036854775807) : SmR (L.set k x) := by
  refine ⟨by rw [List.length_set]; exact h.1, fun j hj => ?_⟩
  rw [List.length_set] at hj
  by_cases e : k = j
  · subst e
    rw [rD (by rw [List.length_set]; exact hj), List.getElem_set_self]
    exact hx
  · rw [rD (by rw [List.length_set]; exact hj), List.getElem_set_ne e, ← rD hj]
    exact h.2 j hj
theorem RowE.n5 {T : TypeId} {w : World} {B : Nat} {a : Option Addr} {n c : Nat} {L : List Ar} (h : RowE T 5 enc5 w B (.slice a n c) L) : n = L.length := by
  obtain ⟨a', c', e⟩ := h.len
  injection e
/-- One field of an element is stored. -/
theorem RowE.put5 {T : TypeId} {w : World} {B g n c k : Nat} {L : List Ar} (h : RowE T 5 enc5 w B (.slice (some ⟨g, 0, none⟩) n c) L) (hk : k < L.length) (j : Nat) (hj : j < 5) (u : Value) (x : Ar) (he : enc5 x = (enc5 L[k]).set j u) :
    RowE T 5 enc5 (w.setCell ⟨g, k * 5 + j, none⟩ u) B (.slice (some ⟨g, 0, none⟩) n c) (L.set k x) := by
  have e := h.n5
  subst e
  exact RowE.stored h (k * 5 + j) u (L' := L.set k x) (List.length_set ..) (fm_setZ enc5_len L k hk j _ x hj he)
end Go.Mine
namespace Go.Proofs.Ytnlhdbengppnpaa
open Go.RowKit Go.Mine

set_option maxHeartbeats 2000000 in
theorem shows_p {B : Nat} {v : Value} {L : List Ar} {p : Int} {y : Int × Int × Bool × Bool} {w : World} (h : RdS 5 enc5 w B v L) (hs : SmR L) (hp0 : 0 ≤ p) (hp1 : p ≤ 64) (hy : swX L p = y) : Calls Try.prog 25 #[v, .int .i64 p] w (RetG (swV y) w) := by
  obtain ⟨x, hx⟩ : ∃ x, fdX L p = x := ⟨_, rfl⟩
  have HX := Lib.hid hx
  have HY : Hid (y = (x.1.f, x.1.p + p - x.1.s, x.1.w, x.2)) := Lib.hid (by rw [← hy]; unfold swX; rw [hx])
  have hb : IntKind.i64.wrap (x.1.p + p) = x.1.p + p ∧ IntKind.i64.wrap (x.1.p + p - x.1.s) = x.1.p + p - x.1.s := by
    rw [← hx]
    cases hf : fndR L p with
    | none => rw [fdX_n hf]; exact ⟨IntWalk.i64_in _ (by simp; omega), IntWalk.i64_in _ (by simp; omega)⟩
    | some d =>
      rw [fdX_s hf]
      have r := rtA_iff.1 (fndR_hit hf).2.2.1
      exact ⟨IntWalk.i64_in _ (by simp only; omega), IntWalk.i64_in _ (by simp only; omega)⟩
  obtain ⟨hw1, hw2⟩ := hb
  obtain ⟨d, ok⟩ := x
  simp only at hw1 hw2
  clear hy hx
  go_enter Try.func25, Try.ntmps25
  go_wp2_with fail
  with_reducible refine (find_p h hs HX.out).mono ?_
  rintro e9 w1 ⟨rfl, g1⟩
  have HG := Lib.hid (g1.alloc (.cells #[.int .i64 d.s, .int .i64 d.n, .int .i64 d.f, .int .i64 d.p, .bool d.w] 30))
  obtain ⟨x0, x1, x2, x3, x4⟩ := (Own.new w1 30 #[.int .i64 d.s, .int .i64 d.n, .int .i64 d.f, .int .i64 d.p, .bool d.w]).five
  clear g1
  go_wp2
  go_quiet (fail)
  revert nq; intro nq1
  go_wp2
  refine bodyPost_ret (v := swV (d.f, d.p + p - d.s, d.w, ok)) (by simp [results, Try.results25, go_sem]) rfl ?_
  exact ⟨by rw [HY.out], HG.out.drewN _⟩
set_option maxRecDepth 100000 in
set_option maxHeartbeats 4000000 in
theorem areas_x (B b : Nat) (w : World) (ht : Tp B w b) (hbw : B ≤ w.heap.size) : Calls Try.prog 24 #[.pointer (some ⟨b, 0, none⟩)] w (RetMa B b w) := by
  have hb := ht.ltB
  go_enter Try.func24, Try.ntmps24
  go_wp2_with fail
  with_reducible refine (next_x _ _ _ _ (by omega) (by omega) ht).mono ?_
  rintro e w1 ⟨q, q0, q1, rfl, T1, g1⟩
  obtain ⟨m, rfl⟩ := Int.eq_ofNat_of_zero_le q0
  go_wp2_with fail
  go_loopw [3, 4] (fun v k wr => ∃ (N : Nat) (L : List Ar) (r : Value), r = v ∧ k = .int .i64 N ∧ N ≤ 5 ∧ Hid (okR L = true) ∧ RdS 5 enc5 wr w.heap.size r L ∧ Tp B wr b ∧ w.grownBy wr (some b)) (fun _ k _ => (intOf k).toNat)
  case atStart => exact ⟨m, [], _, rfl, rfl, by omega, Lib.hid okR_nil, RdS.nil _ _ _ _ (Nat.zero_le _), T1, g1⟩
  case round =>
    clear T1 g1 q0 q1
    obtain ⟨N, L, v, rfl, rfl, hN5, HOK, R, T, g⟩ := hrel
    obtain ⟨wo, rfl⟩ : ∃ wo : World, wo = wr := ⟨_, rfl⟩
    have hsz := g.size
    rcases N with _ | N
    · rw [show ((0 : Nat) : Int) = 0 from rfl]
      have HR := Lib.hid R
      have HG := Lib.hid g
      clear R g
      go_wp2
      go_ret
      exact ⟨_, L, rfl, HOK.out, HR.out, T, HG.out⟩
    · go_wp2_with fail
      with_reducible refine (next_x _ _ _ _ (by omega) (by omega) T).mono ?_
      rintro e w2 ⟨q2, a0, a1, rfl, T2, g2⟩
      go_wp2_with fail
      with_reducible refine (next_x _ _ _ _ (by omega) (by omega) T2).mono ?_
      rintro e w3 ⟨q3, b0, b1, rfl, T3, g3⟩
      go_wp2_with fail
      with_reducible refine (next_x _ _ _ _ (by omega) (by omega) T3).mono ?_
      rintro e w4 ⟨q4, c0, c1, rfl, T4, g4⟩
      go_wp2_with fail
      with_reducible refine (next_x _ _ _ _ (by omega) (by omega) T4).mono ?_
      rintro e w5 ⟨q5, d0, d1, rfl, T5, g5⟩
      go_wp2_with fail
      with_reducible refine (next_x _ _ _ _ (by omega) (by omega) T5).mono ?_
      rintro e w6 ⟨q6, e0, e1, rfl, T6, g6⟩
      have g26 := grown_trans (grown_trans (grown_trans (grown_trans g2 g3) g4) g5) g6
      obtain ⟨A, hA⟩ : ∃ A : Ar, (⟨q2, 1 + q3, q4, q5, q6 == 0⟩ : Ar) = A := ⟨_, rfl⟩
      have HR6 := Lib.hid ((R.past g26 (by omega)).alloc (.cells #[.int .i64 q2, .int .i64 (1 + q3), .int .i64 q4, .int .i64 q5, .bool (q6 == 0)] 30))
      have HG6 := Lib.hid (grown_alloc (grown_trans g g26) (.cells #[.int .i64 q2, .int .i64 (1 + q3), .int .i64 q4, .int .i64 q5, .bool (q6 == 0)] 30))
      have HT6 := Lib.hid (T6.alloc (.cells #[.int .i64 q2, .int .i64 (1 + q3), .int .i64 q4, .int .i64 q5, .bool (q6 == 0)] 30))
      have hs6 := HG6.out.size
      have hl := (okR_iff.1 HOK.out).1
      have hw3 : IntKind.i64.wrap (1 + q3) = 1 + q3 := IntWalk.i64_in _ (by omega)
      clear R T g T2 T3 T4 T5 T6 g2 g3 g4 g5 g6 g26 hA
      go_wp2_with fail
      with_reducible refine (map_q (a := ⟨q2, 1 + q3, q4, q5, q6 == 0⟩) HR6.out hs6 (by omega)).mono ?_
      rintro e w7 ⟨v7, rfl, R7, g7⟩
      have HR7 := Lib.hid R7
      have HT7 := Lib.hid (HT6.out.grew g7)
      have HG7 := Lib.hid (grown_trans HG6.out (g7.grownS b))
      clear R7 g7
      go_wp2
      exact ⟨⟨N, _, v7, rfl, by go_num, by omega, Lib.hid (mapR_ok HOK.out), HR7.out, HT7.out, HG7.out⟩, by simp [intOf] <;> omega⟩
set_option maxRecDepth 100000 in
set_option maxHeartbeats 4000000 in
theorem awake_any (w : World) : Calls Try.prog 23 #[] w (RetG (.bool true) w) := by
  have h0 : RdS 5 enc5 w 0 (.slice none 0 0) ([] : List Ar) := RdS.nil _ _ _ _ (Nat.zero_le _)
  go_enter Try.func23, Try.ntmps23
  go_wp2_with fail
  with_reducible refine (map_p (a := ⟨1, 4, 1, 0, false⟩) h0 (Nat.zero_le _) sm_nil (by decide)).mono ?_
  rw [wk1]
  rintro e w1 ⟨v1, rfl, R1, g1⟩
  have HG1 := Lib.hid g1
  go_wp2_with fail
  with_reducible refine (unmap_p R1 (Nat.zero_le _) (okR_sm wk6) (by decide)).mono ?_
  rw [wk2]
  rintro e w2 ⟨v2, rfl, R2, g2⟩
  have HR1 := Lib.hid (R1.grew g2)
  have HX2 := Lib.hid R2
  have HG2 := Lib.hid (HG1.out.trans g2)
  clear h0 R1 R2 g1 g2
  go_wp2_with fail
  with_reducible refine (find_p HR1.out (okR_sm wk6) wk3).mono ?_
  rintro e w3 ⟨rfl, g3⟩
  have HR3 := Lib.hid ((HR1.out.grew g3).alloc (.cells #[.int .i64 1, .int .i64 4, .int .i64 1, .int .i64 0, .bool false] 30))
  have HX3 := Lib.hid ((HX2.out.grew g3).alloc (.cells #[.int .i64 1, .int .i64 4, .int .i64 1, .int .i64 0, .bool false] 30))
  have HG3 := Lib.hid ((HG2.out.trans g3).alloc (.cells #[.int .i64 1, .int .i64 4, .int .i64 1, .int .i64 0, .bool false] 30))
  have HO3 := Lib.hid (Own.new w3 30 #[.int .i64 1, .int .i64 4, .int .i64 1, .int .i64 0, .bool false])
  clear HR1 HX2 HG2 g3
  go_wp2_with fail
  with_reducible refine (room_p HR3.out (okR_sm wk6) wk4).mono ?_
  rintro e w4 ⟨rfl, g4⟩
  have HR4 := Lib.hid (HR3.out.grew g4)
  have HX4 := Lib.hid (HX3.out.grew g4)
  have HG4 := Lib.hid (HG3.out.trans g4)
  obtain ⟨x0, x1, x2, x3, x4⟩ := (HO3.out.grew g4).five
  obtain ⟨a2, c2, rfl⟩ : ∃ a c, v2 = .slice a 2 c := by obtain ⟨a, c, e, -, -⟩ := HX4.out.slice; exact ⟨a, c, e⟩
  obtain ⟨y, o, rfl, -, hy, d0, d1, d2, d3, d4⟩ := HX4.out.at5 (k := 1) (show 1 < 2 by decide)
  have d0' : w4.cell? ⟨y, o + 5, none⟩ = some (.int .i64 3) := d0
  have d1' : w4.cell? ⟨y, o + 5 + 1, none⟩ = some (.int .i64 2) := d1
  have d3' : w4.cell? ⟨y, o + 5 + 3, none⟩ = some (.int .i64 2) := d3
  clear HR3 HX3 HG3 g4 d0 d1 d2 d3 d4
  go_wp2_with fail
  with_reducible refine (shown_p HR4.out (okR_sm wk6)).mono ?_
  rw [wk5]
  rintro e w5 ⟨v5, rfl, R5, g5⟩
  have HX5 := Lib.hid (HX4.out.grew g5)
  have HG5 := Lib.hid (HG4.out.trans g5)
  obtain ⟨a5, c5, rfl⟩ : ∃ a c, v5 = .slice a 1 c := by obtain ⟨a, c, e, -, -⟩ := R5.slice; exact ⟨a, c, e⟩
  clear HR4 HX4 HG4 g5 R5
  go_wp2_with fail
  with_reducible refine (check_p HX5.out (okR_sm wk7) wk7).mono ?_
  rintro e w6 ⟨rfl, g6⟩
  have HG6 := Lib.hid ((HG5.out.trans g6).alloc (.cells #[.int .i64 0, .int .i64 0, .int .i64 0, .int .i64 0, .bool false] 30))
  have HZ6 : Hid (RdS 5 enc5 (w6.alloc (.cells #[.int .i64 0, .int .i64 0, .int .i64 0, .int .i64 0, .bool false] 30)) 0 (.slice (some ⟨w6.heap.size, 0, none⟩) 1 1) [zR]) := Lib.hid (RowE.rdS (T := 30) enc5_len (RowE.lit w6 _ rfl rfl (show 1 ≤ maxLen by decide) (Nat.zero_le _)))
  clear HX5 HG5 g6
  go_wp2_with fail
  with_reducible refine (check_p HZ6.out sm_one wk8).mono ?_
  rintro e w7 ⟨rfl, g7⟩
  have HG7 := Lib.hid (HG6.out.trans g7)
  clear g7
  go_wp2
  go_ret
  exact ⟨rfl, HG7.out⟩
end Go.Proofs.Ytnlhdbengppnpaa
