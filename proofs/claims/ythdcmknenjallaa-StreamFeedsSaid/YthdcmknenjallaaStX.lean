/- The law's own drawn lists of streams (layer 6): some list, at most one of whose streams is spoiled. -/
import Derived.Test.YthdcmknenjallaaStV
import Derived.Test.YthdcmknenjallaaStW
namespace Go.Proofs.Ythdcmknenjallaa
open Go.ChangeShapes Go.WideShapes Go.ChangeAt Go.RowKit Go.Mine
theorem fm6_set1 (L : List Str) (j q : Nat) (v : Value) (y : Str) (h : j < L.length) (hq : q < 6) (hy : (encS (L.getD j zS)).set q v = encS y) : (L.flatMap encS).set (j * 6 + q) v = (L.set j y).flatMap encS := by
  obtain ⟨A, x, C, rfl, rfl⟩ := list_split L j h
  have hA : (A.flatMap encS).length = A.length * 6 := fm_len encS_len A
  have e : (A ++ x :: C).flatMap encS = A.flatMap encS ++ (encS x ++ C.flatMap encS) := by rw [List.flatMap_append, List.flatMap_cons]
  have ex : (A ++ x :: C).getD A.length zS = x := by simp [List.getD]
  rw [ex] at hy
  rw [e, List.set_append_right _ _ (by rw [hA]; omega), hA, Nat.add_sub_cancel_left, List.set_append_left _ _ (by rw [encS_len]; exact hq), hy,
    List.set_append_right _ _ (Nat.le_refl _), Nat.sub_self, show (x :: C).set 0 y = y :: C from rfl, List.flatMap_append, List.flatMap_cons]
theorem _root_.Go.Mine.RowN.set1 {T : TypeId} {w : World} {B g n c : Nat} {L : List Str} (h : RowN T w B (.slice (some ⟨g, 0, none⟩) n c) L) (j q : Nat) (v : Value) (y : Str) (hj : j < L.length) (hq : q < 6) (hy : (encS (L.getD j zS)).set q v = encS y) :
    RowN T (w.setCell ⟨g, j * 6 + q, none⟩ v) B (.slice (some ⟨g, 0, none⟩) n c) (L.set j y) := by
  have h1 := h.1
  obtain rfl : n = L.length := by obtain ⟨a, c, e⟩ := h1.len; injection e
  refine ⟨h1.stored (j * 6 + q) v (by simp) (fm6_set1 L j q v y hj hq hy), fun e => ?_⟩
  have := congrArg List.length e
  rw [List.length_set] at this
  simp at this
  rw [this] at hj
  exact absurd hj (by simp)

def RetDr (B b : Nat) (w : World) (e : Ending) (w' : World) : Prop := ∃ v L, e = .returned v ∧ L.length ≤ 4 ∧ Milds L ∧ RowN 36 w' w.heap.size v L ∧ Tp B w' b ∧ w.grownBy w' (some b)
theorem milds_set {L : List Str} {j : Nat} {y : Str} (h : Milds L) (hy : Mild y) : Milds (L.set j y) := fun k hk => by
  rw [List.length_set] at hk
  rw [getD_set y hk]
  split
  · exact hy
  · exact h k hk
set_option maxRecDepth 100000 in
set_option maxHeartbeats 4000000 in
theorem drawn_x (B b : Nat) (w : World) (ht : Tp B w b) (hbw : B ≤ w.heap.size) :
    Calls Try.prog 9 #[.pointer (some ⟨b, 0, none⟩)] w (RetDr B b w) := by
  have hb := ht.ltB
  go_enter Try.func9, Try.ntmps9
  go_wp2_with fail
  with_reducible refine (streams_x _ _ _ ht hbw).mono ?_
  rintro e w1 ⟨v, L, rfl, hS, R, T1, g1⟩
  have hle := hS.le
  have HM := Lib.hid hS.milds
  obtain ⟨a, c, rfl, hr, hc, hz, hcm⟩ := R.rd
  by_cases h0 : L.length = 0
  · obtain ⟨rfl, rfl⟩ := hz h0
    rw [h0]
    clear hr hc hz R hS
    go_wp2
    go_ret
    exact ⟨_, [], rfl, by simp, milds0, rowN_nil _ _, T1, g1⟩
  · have h1 : 1 ≤ L.length := by omega
    have h1i : (0 : Int) < (L.length : Int) := by omega
    obtain ⟨ga, rfl, -, -⟩ := hr 0 (by omega)
    have HR := Lib.hid hr
    have H1 := Lib.hid h1
    clear hr hz hS R h0
    go_wp2_with (refine wpList_append_all _ rfl _ _ rfl none rfl ga L.length c (ofL L) rfl HR.out H1.out (by omega) ?_; intro v wv hv gv; obtain ⟨gr, cr, rfl, hgB, hgr, rv, hcr⟩ := RowN.form hv H1.out; have T2 := T1.grew gv; have G2 := grown_trans g1 (grown_row (r := some b) gv.grown); have HV := Lib.hid (hv.wider g1.size); have HG := Lib.hid (Nat.le_trans g1.size hgB); clear hv rv gv hgB)
    with_reducible refine (next_x _ _ _ _ (by omega) (by omega) T2).mono ?_
    rintro e w3 ⟨q, q0, q1, rfl, T3, g3⟩
    have hgb : gr ≠ b := by have := HG.out; omega
    have R3 := HV.out.past g3 (by omega)
    rw [lsF_of L] at R3
    have HR3 := Lib.hid R3
    have G3 := grown_trans G2 g3
    have hgr3 : gr < w3.heap.size := Nat.lt_of_lt_of_le hgr g3.size
    clear T1 g1 T2 G2 g3 HV HR hgr R3
    by_cases hq : q = 0
    · subst hq
      go_wp2_with fail
      with_reducible refine (next_x _ _ _ _ (by omega) (by omega) T3).mono ?_
      rintro e w4 ⟨i, i0, i1, rfl, T4, g4⟩
      obtain ⟨i, rfl⟩ := Int.eq_ofNat_of_zero_le i0
      have hi : i < L.length := by omega
      have G4 := grown_trans G3 g4
      have R4 := Lib.hid (HR3.out.past g4 (by omega))
      clear T3 G3 g4 HR3
      go_wp2_with fail
      with_reducible refine (next_x _ _ _ _ (by omega) (by omega) T4).mono ?_
      rintro e w5 ⟨k, k0, k1, rfl, T5, g5⟩
      have G5 := grown_trans G4 g5
      have R5 := Lib.hid (R4.out.past g5 (by omega))
      clear T4 G4 g5 R4
      have hk : k = 0 ∨ k = 1 ∨ k = 2 ∨ k = 3 ∨ k = 4 ∨ k = 5 := by omega
      rcases hk with rfl | rfl | rfl | rfl | rfl | rfl
      · go_wp2_with fail
        with_reducible refine (next_x _ _ _ _ (by omega) (by omega) T5).mono ?_
        rintro e w6 ⟨z, z0, z1, rfl, T6, g6⟩
        have G6 := grown_trans G5 g6
        have R6 := R5.out.past g6 (by omega)
        obtain ⟨gg, eg, -, hg6, he⟩ := rowN_at R6 hi
        obtain rfl : gr = gg := by injection eg with eg; injection eg
        have fr := RowE.free R6.1
        have f0 := fr (i * 6)
        have hme := HM.out i hi
        obtain ⟨s, hs⟩ : ∃ s, L.getD i zS = s := ⟨_, rfl⟩
        have Y := R6.set1 i 0 (.int .i64 (z)) ⟨z, s.a, s.b, s.d, s.h, s.t⟩ hi (by omega) (by rw [hs]; rfl)
        rw [hs] at he hme
        have HY := Lib.hid Y
        have MY := Lib.hid (milds_set (j := i) HM.out (show Mild ⟨z, s.a, s.b, s.d, s.h, s.t⟩ from by unfold Mild at *; simp only; omega))
        obtain ⟨p0, p1, p2, p3, p4, p5⟩ := he
        clear fr R6 R5 T5 G5 g6 Y eg hs
        go_wp2
        go_ret
        exact ⟨_, _, rfl, by rw [List.length_set]; exact hle, MY.out, HY.out, T6.set (p := ⟨gr, i * 6 + 0, none⟩) (by have := HG.out; show B ≤ gr; omega) _, grown_set G6 (p := ⟨gr, i * 6 + 0, none⟩) (.inr HG.out) _⟩
      · go_wp2_with fail
        with_reducible refine (odd_x _ _ _ T5 (by have := G5.size; omega)).mono ?_
        rintro e w6 ⟨z, rfl, T6, g6⟩
        have G6 := grown_trans G5 g6
        have R6 := R5.out.past g6 (by omega)
        obtain ⟨gg, eg, -, hg6, he⟩ := rowN_at R6 hi
        obtain rfl : gr = gg := by injection eg with eg; injection eg
        have fr := RowE.free R6.1
        have f0 := fr (i * 6 + 4)
        have hme := HM.out i hi
        obtain ⟨s, hs⟩ : ∃ s, L.getD i zS = s := ⟨_, rfl⟩
        have Y := R6.set1 i 4 (.int .i64 (z)) ⟨s.k, s.a, s.b, s.d, z, s.t⟩ hi (by omega) (by rw [hs]; rfl)
        rw [hs] at he hme
        have HY := Lib.hid Y
        have MY := Lib.hid (milds_set (j := i) HM.out (show Mild ⟨s.k, s.a, s.b, s.d, z, s.t⟩ from by unfold Mild at *; simp only; omega))
        obtain ⟨p0, p1, p2, p3, p4, p5⟩ := he
        clear fr R6 R5 T5 G5 g6 Y eg hs
        go_wp2
        go_ret
        exact ⟨_, _, rfl, by rw [List.length_set]; exact hle, MY.out, HY.out, T6.set (p := ⟨gr, i * 6 + 4, none⟩) (by have := HG.out; show B ≤ gr; omega) _, grown_set G6 (p := ⟨gr, i * 6 + 4, none⟩) (.inr HG.out) _⟩
      · go_wp2_with fail
        with_reducible refine (odd_x _ _ _ T5 (by have := G5.size; omega)).mono ?_
        rintro e w6 ⟨z, rfl, T6, g6⟩
        have G6 := grown_trans G5 g6
        have R6 := R5.out.past g6 (by omega)
        obtain ⟨gg, eg, -, hg6, he⟩ := rowN_at R6 hi
        obtain rfl : gr = gg := by injection eg with eg; injection eg
        have fr := RowE.free R6.1
        have f0 := fr (i * 6 + 5)
        have hme := HM.out i hi
        obtain ⟨s, hs⟩ : ∃ s, L.getD i zS = s := ⟨_, rfl⟩
        have Y := R6.set1 i 5 (.int .i64 (z)) ⟨s.k, s.a, s.b, s.d, s.h, z⟩ hi (by omega) (by rw [hs]; rfl)
        rw [hs] at he hme
        have HY := Lib.hid Y
        have MY := Lib.hid (milds_set (j := i) HM.out (show Mild ⟨s.k, s.a, s.b, s.d, s.h, z⟩ from by unfold Mild at *; simp only; omega))
        obtain ⟨p0, p1, p2, p3, p4, p5⟩ := he
        clear fr R6 R5 T5 G5 g6 Y eg hs
        go_wp2
        go_ret
        exact ⟨_, _, rfl, by rw [List.length_set]; exact hle, MY.out, HY.out, T6.set (p := ⟨gr, i * 6 + 5, none⟩) (by have := HG.out; show B ≤ gr; omega) _, grown_set G6 (p := ⟨gr, i * 6 + 5, none⟩) (.inr HG.out) _⟩
      · go_wp2_with fail
        with_reducible refine (next_x _ _ _ _ (by omega) (by omega) T5).mono ?_
        rintro e w6 ⟨z, z0, z1, rfl, T6, g6⟩
        have G6 := grown_trans G5 g6
        have R6 := R5.out.past g6 (by omega)
        obtain ⟨gg, eg, -, hg6, he⟩ := rowN_at R6 hi
        obtain rfl : gr = gg := by injection eg with eg; injection eg
        have fr := RowE.free R6.1
        have f0 := fr (i * 6 + 3)
        have hme := HM.out i hi
        obtain ⟨s, hs⟩ : ∃ s, L.getD i zS = s := ⟨_, rfl⟩
        have Y := R6.set1 i 3 (.int .i64 (z - 10)) ⟨s.k, s.a, s.b, z - 10, s.h, s.t⟩ hi (by omega) (by rw [hs]; rfl)
        rw [hs] at he hme
        have HY := Lib.hid Y
        have MY := Lib.hid (milds_set (j := i) HM.out (show Mild ⟨s.k, s.a, s.b, z - 10, s.h, s.t⟩ from by unfold Mild at *; simp only; omega))
        obtain ⟨p0, p1, p2, p3, p4, p5⟩ := he
        clear fr R6 R5 T5 G5 g6 Y eg hs
        have wz : IntKind.i64.wrap (z - 10) = z - 10 := IntWalk.i64_in _ (by omega)
        go_wp2
        go_ret
        exact ⟨_, _, rfl, by rw [List.length_set]; exact hle, MY.out, HY.out, T6.set (p := ⟨gr, i * 6 + 3, none⟩) (by have := HG.out; show B ≤ gr; omega) _, grown_set G6 (p := ⟨gr, i * 6 + 3, none⟩) (.inr HG.out) _⟩
      · go_wp2_with fail
        with_reducible refine (odd_x _ _ _ T5 (by have := G5.size; omega)).mono ?_
        rintro e w6 ⟨z, rfl, T6, g6⟩
        have G6 := grown_trans G5 g6
        have R6 := R5.out.past g6 (by omega)
        obtain ⟨gg, eg, -, hg6, he⟩ := rowN_at R6 hi
        obtain rfl : gr = gg := by injection eg with eg; injection eg
        have fr := RowE.free R6.1
        have f0 := fr (i * 6 + 2)
        have hme := HM.out i hi
        obtain ⟨s, hs⟩ : ∃ s, L.getD i zS = s := ⟨_, rfl⟩
        have Y := R6.set1 i 2 (.int .i64 (z)) ⟨s.k, s.a, z, s.d, s.h, s.t⟩ hi (by omega) (by rw [hs]; rfl)
        rw [hs] at he hme
        have HY := Lib.hid Y
        have MY := Lib.hid (milds_set (j := i) HM.out (show Mild ⟨s.k, s.a, z, s.d, s.h, s.t⟩ from by unfold Mild at *; simp only; omega))
        obtain ⟨p0, p1, p2, p3, p4, p5⟩ := he
        clear fr R6 R5 T5 G5 g6 Y eg hs
        go_wp2
        go_ret
        exact ⟨_, _, rfl, by rw [List.length_set]; exact hle, MY.out, HY.out, T6.set (p := ⟨gr, i * 6 + 2, none⟩) (by have := HG.out; show B ≤ gr; omega) _, grown_set G6 (p := ⟨gr, i * 6 + 2, none⟩) (.inr HG.out) _⟩
      · go_wp2_with fail
        with_reducible refine (odd_x _ _ _ T5 (by have := G5.size; omega)).mono ?_
        rintro e w6 ⟨z, rfl, T6, g6⟩
        have G6 := grown_trans G5 g6
        have R6 := R5.out.past g6 (by omega)
        obtain ⟨gg, eg, -, hg6, he⟩ := rowN_at R6 hi
        obtain rfl : gr = gg := by injection eg with eg; injection eg
        have fr := RowE.free R6.1
        have f0 := fr (i * 6 + 1)
        have hme := HM.out i hi
        obtain ⟨s, hs⟩ : ∃ s, L.getD i zS = s := ⟨_, rfl⟩
        have Y := R6.set1 i 1 (.int .i64 (z)) ⟨s.k, z, s.b, s.d, s.h, s.t⟩ hi (by omega) (by rw [hs]; rfl)
        rw [hs] at he hme
        have HY := Lib.hid Y
        have MY := Lib.hid (milds_set (j := i) HM.out (show Mild ⟨s.k, z, s.b, s.d, s.h, s.t⟩ from by unfold Mild at *; simp only; omega))
        obtain ⟨p0, p1, p2, p3, p4, p5⟩ := he
        clear fr R6 R5 T5 G5 g6 Y eg hs
        go_wp2
        go_ret
        exact ⟨_, _, rfl, by rw [List.length_set]; exact hle, MY.out, HY.out, T6.set (p := ⟨gr, i * 6 + 1, none⟩) (by have := HG.out; show B ≤ gr; omega) _, grown_set G6 (p := ⟨gr, i * 6 + 1, none⟩) (.inr HG.out) _⟩
    · go_wp2
      go_ret
      exact ⟨_, L, rfl, hle, HM.out, HR3.out, T3, G3⟩
end Go.Proofs.Ythdcmknenjallaa
