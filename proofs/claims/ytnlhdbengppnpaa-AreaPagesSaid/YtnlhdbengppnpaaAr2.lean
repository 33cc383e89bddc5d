/- Areas (layer 16): before, from, Check of the program; Check of the answer. -/
import Derived.Test.YtnlhdbengppnpaaAr1
namespace Go.Mine
open Go Go.RowKit
/-- No count is beyond the integers. -/
def SmR (L : List Ar) : Prop := L.length ≤ 1000 ∧ ∀ k, k < L.length → (L.getD k zR).n ≤ 9223372036854775807
theorem okR_sm {L : List Ar} (h : okR L = true) : SmR L := ⟨by have := (okR_iff.1 h).1; omega, fun k hk => by have := rtD' h hk; omega⟩
theorem pE_rng {L : List Ar} {i : Nat} (h : ∀ j, j < i → goodR 0 L j = true) : 0 ≤ pE 0 L i ∧ pE 0 L i ≤ 64 := by
  rcases i with _ | i
  · exact ⟨Int.le_refl _, show (0 : Int) ≤ 64 by decide⟩
  · have r := rtA_iff.1 (goodR_iff.1 (h i (Nat.lt_succ_self _))).1
    rw [pE_succ]
    unfold endA
    omega
section
variable {w w' : World} {g h : Nat} {t : TypeId} {cs : Array Value} {a b c d e x y z u v : Value}
theorem Own.five (h : Own w g t #[a, b, c, d, e]) : w.cell? ⟨g, 0, none⟩ = some a ∧ w.cell? ⟨g, 1, none⟩ = some b ∧ w.cell? ⟨g, 2, none⟩ = some c ∧ w.cell? ⟨g, 3, none⟩ = some d ∧ w.cell? ⟨g, 4, none⟩ = some e :=
  ⟨(h.cell 0).trans rfl, (h.cell 1).trans rfl, (h.cell 2).trans rfl, (h.cell 3).trans rfl, (h.cell 4).trans rfl⟩
theorem Own.five0 (h : Own w g t #[a, b, c, d, e]) : w.frozen? ⟨g, 0, none⟩ = false ∧ w.frozen? ⟨g, 1, none⟩ = false ∧ w.frozen? ⟨g, 2, none⟩ = false ∧ w.frozen? ⟨g, 3, none⟩ = false ∧ w.frozen? ⟨g, 4, none⟩ = false :=
  ⟨h.frozen 0, h.frozen 1, h.frozen 2, h.frozen 3, h.frozen 4⟩
/-- A whole struct of five cells is stored. -/
theorem Own.store5 (h : Own w g t #[a, b, c, d, e]) (hw : ((((w.setCell ⟨g, 0, none⟩ x).setCell ⟨g, 1, none⟩ y).setCell ⟨g, 2, none⟩ z).setCell ⟨g, 3, none⟩ u).setCell ⟨g, 4, none⟩ v = w') : Own w' g t #[x, y, z, u, v] := by
  rw [← hw]
  exact ((((h.set 0 x).set 1 y).set 2 z).set 3 u).set 4 v
theorem Own.far5 (k : Own w h t cs) (hw : ((((w.setCell ⟨g, 0, none⟩ x).setCell ⟨g, 1, none⟩ y).setCell ⟨g, 2, none⟩ z).setCell ⟨g, 3, none⟩ u).setCell ⟨g, 4, none⟩ v = w') (hne : h ≠ g) : Own w' h t cs := by
  rw [← hw]
  exact ((((k.far (p := ⟨g, 0, none⟩) hne x).far (p := ⟨g, 1, none⟩) hne y).far (p := ⟨g, 2, none⟩) hne z).far (p := ⟨g, 3, none⟩) hne u).far (p := ⟨g, 4, none⟩) hne v
theorem Grew.far5 {q : World} (k : Grew q w) (hw : ((((w.setCell ⟨g, 0, none⟩ x).setCell ⟨g, 1, none⟩ y).setCell ⟨g, 2, none⟩ z).setCell ⟨g, 3, none⟩ u).setCell ⟨g, 4, none⟩ v = w') (hb : q.heap.size ≤ g) : Grew q w' := by
  rw [← hw]
  exact ((((k.set (p := ⟨g, 0, none⟩) hb x).set (p := ⟨g, 1, none⟩) hb y).set (p := ⟨g, 2, none⟩) hb z).set (p := ⟨g, 3, none⟩) hb u).set (p := ⟨g, 4, none⟩) hb v
end
/-- The cells of a block that was made second, as rules. -/
theorem five2 (w : World) (o : Obj) (t : TypeId) (a b c d e : Value) : ((w.alloc o).alloc (.cells #[a, b, c, d, e] t)).cell? ⟨w.heap.size + 1, 0, none⟩ = some a ∧ ((w.alloc o).alloc (.cells #[a, b, c, d, e] t)).cell? ⟨w.heap.size + 1, 1, none⟩ = some b ∧
    ((w.alloc o).alloc (.cells #[a, b, c, d, e] t)).cell? ⟨w.heap.size + 1, 2, none⟩ = some c ∧ ((w.alloc o).alloc (.cells #[a, b, c, d, e] t)).cell? ⟨w.heap.size + 1, 3, none⟩ = some d ∧ ((w.alloc o).alloc (.cells #[a, b, c, d, e] t)).cell? ⟨w.heap.size + 1, 4, none⟩ = some e :=
  (Own.new2 w o t #[a, b, c, d, e]).five
theorem two_al {w : World} (o o' : Obj) : Grew w ((w.alloc o).alloc o') := ((Grew.refl w).alloc o).alloc o'
end Go.Mine
namespace Go.Proofs.Ytnlhdbengppnpaa
open Go.RowKit Go.Mine

set_option maxHeartbeats 2000000 in
theorem before_p {a : Ar} {s : Int} {w : World} (h : rtA a = true) (hs0 : 0 ≤ s) (hs1 : s ≤ 64) : Calls Try.prog 41 #[arV a, .int .i64 s] w (RetG (arV (befR a s)) w) := by
  have r := rtA_iff.1 h
  have hb0 := @befR_0 a s
  have hb1 := @befR_1 a s
  obtain ⟨st, n, f, p, v⟩ := a
  simp only at r hb0 hb1
  obtain ⟨⟨r1, r2, r3⟩, -⟩ := r
  have OE := five2 w
  have HOE := Lib.hid OE
  clear h OE
  by_cases t : s ≤ st
  · have HE := Lib.hid (hb0 t)
    clear hb0 hb1
    go_enter Try.func41, Try.ntmps41
    go_wp2
    obtain OE := HOE.out
    refine bodyPost_ret (v := arV zR) (by simp [results, Try.results41, go_sem, OE]) rfl ?_
    exact ⟨by rw [HE.out], two_al _ _⟩
  · have hb := hb1 (by omega)
    clear hb0 hb1
    have hw : IntKind.i64.wrap (s - st) = s - st := IntWalk.i64_in _ (by omega)
    by_cases t2 : n ≤ s - st
    · rw [Int.min_eq_left t2] at hb
      have HE := Lib.hid hb
      clear hb
      go_enter Try.func41, Try.ntmps41
      go_wp2
      obtain OE := HOE.out
      refine bodyPost_ret (v := arV ⟨st, n, f, p, v⟩) (by simp [results, Try.results41, go_sem, OE]) rfl ?_
      exact ⟨by rw [HE.out], two_al _ _⟩
    · rw [Int.min_eq_right (by omega)] at hb
      have HE := Lib.hid hb
      clear hb
      go_enter Try.func41, Try.ntmps41
      go_wp2
      obtain OE := HOE.out
      refine bodyPost_ret (v := arV ⟨st, s - st, f, p, v⟩) (by simp [results, Try.results41, go_sem, OE]) rfl ?_
      exact ⟨by rw [HE.out], two_al _ _⟩
set_option maxHeartbeats 2000000 in
theorem from_p {a : Ar} {s : Int} {w : World} (h : rtA a = true) (hs0 : 0 ≤ s) (hs1 : s ≤ 64) : Calls Try.prog 42 #[arV a, .int .i64 s] w (RetG (arV (frmR a s)) w) := by
  have HA := Lib.hid h
  have r := rtA_iff.1 h
  have hb0 := @frmR_0 a s
  have hb1 := @frmR_1 a s
  obtain ⟨st, n, f, p, v⟩ := a
  obtain ⟨t, ht⟩ : ∃ t, st + n = t := ⟨_, rfl⟩
  have he : endA ⟨st, n, f, p, v⟩ = t := ht
  rw [he] at hb0 hb1
  simp only at r hb0 hb1
  obtain ⟨⟨r1, r2, r3⟩, -, r4, r5⟩ := r
  have HOE := Lib.hid (five2 w)
  have HG := Lib.hid (two_al (w := w) (.cells #[.int .i64 st, .int .i64 n, .int .i64 f, .int .i64 p, .bool v] 30) (.cells #[.int .i64 0, .int .i64 0, .int .i64 0, .int .i64 0, .bool false] 30))
  have HZ := Lib.hid (fun w => end_p (w := w) HA.out)
  rw [he] at HZ
  have HO1 := Lib.hid ((Own.new w 30 #[.int .i64 st, .int .i64 n, .int .i64 f, .int .i64 p, .bool v]).alloc (.cells #[.int .i64 0, .int .i64 0, .int .i64 0, .int .i64 0, .bool false] 30))
  have HO2 := Lib.hid (Own.new2 w (.cells #[.int .i64 st, .int .i64 n, .int .i64 f, .int .i64 p, .bool v] 30) 30 #[.int .i64 0, .int .i64 0, .int .i64 0, .int .i64 0, .bool false])
  clear h
  by_cases t1 : t ≤ s
  · have HE := Lib.hid (hb0 t1)
    clear hb0 hb1
    go_enter Try.func42, Try.ntmps42
    go_wp2_with fail
    with_reducible refine (HZ.out _).mono ?_
    rintro e w1 ⟨rfl, g1⟩
    have HG1 := Lib.hid (HG.out.trans g1)
    have HP1 := Lib.hid (HO1.out.grew g1)
    have HP2 := Lib.hid (HO2.out.grew g1)
    obtain ⟨c0, c1, c2, c3, c4⟩ := HP2.out.five
    obtain ⟨d0, d1, d2, d3, d4⟩ := HP2.out.five0
    clear g1 HO1 HO2 HG HZ
    go_wp2
    generalize hw : World.setCell (World.setCell (World.setCell (World.setCell (World.setCell w1 _ _) _ _) _ _) _ _) _ _ = E
    obtain ⟨b0, b1, b2, b3, b4⟩ := (HP2.out.store5 hw).five
    refine bodyPost_ret (v := arV zR) (by simp [results, Try.results42, go_sem, b0, b1, b2, b3, b4]) rfl ?_
    exact ⟨by rw [HE.out], HG1.out.far5 hw (by omega)⟩
  · have hb := hb1 (by omega)
    clear hb0 hb1
    have hw0 : IntKind.i64.wrap (s - st) = s - st := IntWalk.i64_in _ (by omega)
    by_cases t2 : s - st ≤ 0
    · rw [Int.max_eq_left t2] at hb
      have HE := Lib.hid hb
      have tm : (if 0 < s - st then s - st else 0) = 0 := if_neg (by omega)
      have e1 : IntKind.i64.wrap (st + 0) = st := by rw [Int.add_zero]; exact IntWalk.i64_in _ (by omega)
      have e2 : IntKind.i64.wrap (n - 0) = n := by rw [Int.sub_zero]; exact IntWalk.i64_in _ (by omega)
      have e3 : IntKind.i64.wrap (p + 0) = p := by rw [Int.add_zero]; exact IntWalk.i64_in _ (by omega)
      clear hb
      go_enter Try.func42, Try.ntmps42
      go_wp2_with fail
      with_reducible refine (HZ.out _).mono ?_
      rintro e w1 ⟨rfl, g1⟩
      have HG1 := Lib.hid (HG.out.trans g1)
      have HP1 := Lib.hid (HO1.out.grew g1)
      have HP2 := Lib.hid (HO2.out.grew g1)
      obtain ⟨c0, c1, c2, c3, c4⟩ := HP2.out.five
      obtain ⟨d0, d1, d2, d3, d4⟩ := HP2.out.five0
      obtain ⟨k0, k1, k2, k3, k4⟩ := HP1.out.five
      obtain ⟨l0, l1, l2, l3, l4⟩ := HP1.out.five0
      clear g1 HO1 HO2 HG HZ
      go_wp2
      generalize hw1 : World.setCell (World.setCell (World.setCell w1 _ _) _ _) _ _ = E1
      have HP3 := Lib.hid (((HP2.out.far (p := ⟨w.heap.size, 0, none⟩) (by simp) (.int .i64 st)).far (p := ⟨w.heap.size, 1, none⟩) (by simp) (.int .i64 n)).far (p := ⟨w.heap.size, 3, none⟩) (by simp) (.int .i64 p))
      have HG3 := Lib.hid (((HG1.out.set (p := ⟨w.heap.size, 0, none⟩) (Nat.le_refl _) (.int .i64 st)).set (p := ⟨w.heap.size, 1, none⟩) (Nat.le_refl _) (.int .i64 n)).set (p := ⟨w.heap.size, 3, none⟩) (Nat.le_refl _) (.int .i64 p))
      rw [hw1] at HP3 HG3
      generalize hw : World.setCell (World.setCell (World.setCell (World.setCell (World.setCell E1 _ _) _ _) _ _) _ _) _ _ = E
      obtain ⟨b0, b1, b2, b3, b4⟩ := (HP3.out.store5 hw).five
      refine bodyPost_ret (v := arV ⟨st, n, f, p, v⟩) (by simp [results, Try.results42, go_sem, b0, b1, b2, b3, b4]) rfl ?_
      exact ⟨by rw [HE.out]; simp, HG3.out.far5 hw (by omega)⟩
    · rw [Int.max_eq_right (by omega)] at hb
      have HE := Lib.hid hb
      have tp : 0 < s - st := by omega
      have e1 : IntKind.i64.wrap (st + (s - st)) = st + (s - st) := IntWalk.i64_in _ (by omega)
      have e2 : IntKind.i64.wrap (n - (s - st)) = n - (s - st) := IntWalk.i64_in _ (by omega)
      have e3 : IntKind.i64.wrap (p + (s - st)) = p + (s - st) := IntWalk.i64_in _ (by omega)
      clear hb
      go_enter Try.func42, Try.ntmps42
      go_wp2_with fail
      with_reducible refine (HZ.out _).mono ?_
      rintro e w1 ⟨rfl, g1⟩
      have HG1 := Lib.hid (HG.out.trans g1)
      have HP1 := Lib.hid (HO1.out.grew g1)
      have HP2 := Lib.hid (HO2.out.grew g1)
      obtain ⟨c0, c1, c2, c3, c4⟩ := HP2.out.five
      obtain ⟨d0, d1, d2, d3, d4⟩ := HP2.out.five0
      obtain ⟨k0, k1, k2, k3, k4⟩ := HP1.out.five
      obtain ⟨l0, l1, l2, l3, l4⟩ := HP1.out.five0
      clear g1 HO1 HO2 HG HZ
      go_wp2
      generalize hw1 : World.setCell (World.setCell (World.setCell w1 _ _) _ _) _ _ = E1
      have HP3 := Lib.hid (((HP2.out.far (p := ⟨w.heap.size, 0, none⟩) (by simp) (.int .i64 (st + (s - st)))).far (p := ⟨w.heap.size, 1, none⟩) (by simp) (.int .i64 (n - (s - st)))).far (p := ⟨w.heap.size, 3, none⟩) (by simp) (.int .i64 (p + (s - st))))
      have HG3 := Lib.hid (((HG1.out.set (p := ⟨w.heap.size, 0, none⟩) (Nat.le_refl _) (.int .i64 (st + (s - st)))).set (p := ⟨w.heap.size, 1, none⟩) (Nat.le_refl _) (.int .i64 (n - (s - st)))).set (p := ⟨w.heap.size, 3, none⟩) (Nat.le_refl _) (.int .i64 (p + (s - st))))
      rw [hw1] at HP3 HG3
      generalize hw : World.setCell (World.setCell (World.setCell (World.setCell (World.setCell E1 _ _) _ _) _ _) _ _) _ _ = E
      obtain ⟨b0, b1, b2, b3, b4⟩ := (HP3.out.store5 hw).five
      refine bodyPost_ret (v := arV ⟨st + (s - st), n - (s - st), f, p + (s - st), v⟩) (by simp [results, Try.results42, go_sem, b0, b1, b2, b3, b4]) rfl ?_
      exact ⟨by rw [HE.out], HG3.out.far5 hw (by omega)⟩
end Go.Proofs.Ytnlhdbengppnpaa
