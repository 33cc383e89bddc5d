/- Areas (layer 16): Map, without, Unmap of the program. -/
import Derived.Test.YtnlhdbengppnpaaAr7
namespace Go.Proofs.Ytnlhdbengppnpaa
open Go.RowKit Go.Mine

set_option maxRecDepth 100000 in
set_option maxHeartbeats 8000000 in
theorem map_p {B0 B : Nat} {v : Value} {L : List Ar} {a : Ar} {w : World} (h : RdS 5 enc5 w B0 v L) (hB : B ≤ w.heap.size) (hs : SmR L) (hn : a.n ≤ 9223372036854775807) : Calls Try.prog 10 #[v, arV a] w (RetRE B (mapR L a) w) := by
  have HH := Lib.hid (h.alloc (.cells #[.int .i64 a.s, .int .i64 a.n, .int .i64 a.f, .int .i64 a.p, .bool a.w] 30))
  have HO := Lib.hid (Own.new w 30 #[.int .i64 a.s, .int .i64 a.n, .int .i64 a.f, .int .i64 a.p, .bool a.w])
  have HG := Lib.hid ((Grew.refl w).alloc (.cells #[.int .i64 a.s, .int .i64 a.n, .int .i64 a.f, .int .i64 a.p, .bool a.w] 30))
  have HS := Lib.hid hs
  have HB := Lib.hid hB
  have hl := hs.1
  clear h hs hB
  obtain ⟨e, he⟩ : ∃ e, eM L a = e := ⟨_, rfl⟩
  have HE := Lib.hid he
  by_cases h0 : e = 0
  · subst h0
    have HX := Lib.hid (mapR_0 he)
    have hpl := plR_le L a.s
    have HPL := Lib.hid hpl
    clear he
    go_enter Try.func10, Try.ntmps10
    go_wp2_with fail
    with_reducible refine (checkMap_p HH.out HS.out hn HE.out).mono ?_
    rintro e9 w1 ⟨rfl, g1⟩
    have HG1 := Lib.hid (HG.out.trans g1)
    have HH1 := Lib.hid (HH.out.grew g1)
    have HO1 := HO.out.grew g1
    obtain ⟨x0, x1, x2, x3, x4⟩ := HO1.five
    have hlx := HO1.lt
    clear g1 HO1 HH HO HG
    have HHd : Hid (RdS 5 enc5 w1.drew B0 v L) := Lib.hid HH1.out.drew
    have HHa : Hid (∀ o, RdS 5 enc5 (w1.alloc o).drew B0 v L) := Lib.hid (fun o => (HH1.out.alloc o).drew)
    have HHg : Hid (∀ w', Grew w1 w' → RdS 5 enc5 w' B0 v L) := Lib.hid (fun w' G => HH1.out.grew G)
    go_upto_region 4 with fail
    go_region_held3 (fun w' => w'.cell? ⟨w.heap.size, 0, none⟩ = some (.int .i64 a.s) ∧ w'.cell? ⟨w.heap.size, 1, none⟩ = some (.int .i64 a.n) ∧ w'.cell? ⟨w.heap.size, 2, none⟩ = some (.int .i64 a.f) ∧ w'.cell? ⟨w.heap.size, 3, none⟩ = some (.int .i64 a.p) ∧ w'.cell? ⟨w.heap.size, 4, none⟩ = some (.bool a.w))
      (refine ⟨?_, ?_, ?_, ?_, ?_⟩ <;> (repeat (first | (with_reducible assumption) | (with_reducible refine far_drew ?_) | (with_reducible refine far_alloc ?_))))
      (first
        | (go_at_call 28; (with_reducible refine (clone_r HHd.out hl).mono ?_); rintro e9 w2 ⟨v2, rfl, R2, g2⟩; replace R2 : RowE 30 5 enc5 w2 w1.heap.size v2 L := R2.wider (Nat.le_refl w1.heap.size); have G2 : Grew w1 w2 := (Grew.refl w1).drew.trans g2; have y0 := (G2.cells.1 _ _ hlx).trans x0; have y1 := (G2.cells.1 _ _ hlx).trans x1; have y2 := (G2.cells.1 _ _ hlx).trans x2; have y3 := (G2.cells.1 _ _ hlx).trans x3; have y4 := (G2.cells.1 _ _ hlx).trans x4)
        | (go_at_call 28; (with_reducible refine (clone_r (HHa.out _) hl).mono ?_); rintro e9 w2 ⟨v2, rfl, R2, g2⟩; have HV := (Own.new w1 30 #[.int .i64 a.s, .int .i64 a.n, .int .i64 a.f, .int .i64 a.p, .bool a.w]).drew.grew g2; have hneq : v2.ownBlock ≠ some w1.heap.size := fun e => absurd (R2.above _ e) (by show ¬(w1.alloc _).heap.size ≤ _; rw [World.size_alloc]; exact Nat.not_succ_le_self _); replace R2 : RowE 30 5 enc5 w2 w1.heap.size v2 L := R2.wider (by show w1.heap.size ≤ (w1.alloc _).heap.size; rw [World.size_alloc]; exact Nat.le_succ _); have G2 : Grew w1 w2 := ((Grew.refl w1).alloc _).drew.trans g2; have y0 := (G2.cells.1 _ _ hlx).trans x0; have y1 := (G2.cells.1 _ _ hlx).trans x1; have y2 := (G2.cells.1 _ _ hlx).trans x2; have y3 := (G2.cells.1 _ _ hlx).trans x3; have y4 := (G2.cells.1 _ _ hlx).trans x4)
        | (go_at_call 30; (with_reducible refine (place_p (HHg.out _ G2) hl).mono ?_); rintro e9 w3 ⟨rfl, g3⟩; (first | (have HV := HV.grew g3) | skip); have R3 : RowE 30 5 enc5 w3 w1.heap.size v2 L := R2.grew g3; have G3 : Grew w1 w3 := G2.trans g3; have z0 := (G3.cells.1 _ _ hlx).trans x0; have z1 := (G3.cells.1 _ _ hlx).trans x1; have z2 := (G3.cells.1 _ _ hlx).trans x2; have z3 := (G3.cells.1 _ _ hlx).trans x3; have z4 := (G3.cells.1 _ _ hlx).trans x4)
        | (go_at_call 30; (with_reducible refine (place_p (HHg.out _ (G2.alloc _)) hl).mono ?_); rintro e9 w3 ⟨rfl, g3⟩; have HV := (Own.new w2 30 #[.int .i64 a.s, .int .i64 a.n, .int .i64 a.f, .int .i64 a.p, .bool a.w]).grew g3; have hneq : v2.ownBlock ≠ some w2.heap.size := fun e => absurd (R2.lt _ e) (Nat.lt_irrefl _); have R3 : RowE 30 5 enc5 w3 w1.heap.size v2 L := (R2.alloc _).grew g3; have G3 : Grew w1 w3 := (G2.alloc _).trans g3; have z0 := (G3.cells.1 _ _ hlx).trans x0; have z1 := (G3.cells.1 _ _ hlx).trans x1; have z2 := (G3.cells.1 _ _ hlx).trans x2; have z3 := (G3.cells.1 _ _ hlx).trans x3; have z4 := (G3.cells.1 _ _ hlx).trans x4)
        | (go_at_call 29; have HV2 := show Own w3 _ 30 (enc5 a).toArray from HV; (with_reducible refine (ins_r (B := w1.heap.size) v2 (plR L a.s) a _ _ 1 R3 hl hpl HV2 hneq G3.size).mono ?_); rintro e9 w4 ⟨u, rfl, R4, g4⟩; have G4 : Grew w1 w4 := Grew.keptA (B := w1.heap.size) G3 g4 (fun x e => R3.above x e) (Nat.le_refl _); have HR4 := Lib.hid R4; have HG4 := Lib.hid G4; have u0 := (G4.cells.1 _ _ hlx).trans x0; have u1 := (G4.cells.1 _ _ hlx).trans x1; have u2 := (G4.cells.1 _ _ hlx).trans x2; have u3 := (G4.cells.1 _ _ hlx).trans x3; have u4 := (G4.cells.1 _ _ hlx).trans x4; clear R4 g4 G4)
        | (go_at_call 29; have HV2 := show Own (w3.alloc (.cells #[.int .i64 a.s, .int .i64 a.n, .int .i64 a.f, .int .i64 a.p, .bool a.w] 30)) w3.heap.size 30 (enc5 a).toArray from Own.new w3 30 #[.int .i64 a.s, .int .i64 a.n, .int .i64 a.f, .int .i64 a.p, .bool a.w]; have hneq : v2.ownBlock ≠ some w3.heap.size := fun e => absurd (R3.lt _ e) (Nat.lt_irrefl _); (with_reducible refine (ins_r (B := w1.heap.size) v2 (plR L a.s) a _ _ 1 (R3.alloc _) hl hpl HV2 hneq (G3.alloc _).size).mono ?_); rintro e9 w4 ⟨u, rfl, R4, g4⟩; have G4 : Grew w1 w4 := Grew.keptA (B := w1.heap.size) (G3.alloc _) g4 (fun x e => R3.above x e) (Nat.le_refl _); have HR4 := Lib.hid R4; have HG4 := Lib.hid G4; have u0 := (G4.cells.1 _ _ hlx).trans x0; have u1 := (G4.cells.1 _ _ hlx).trans x1; have u2 := (G4.cells.1 _ _ hlx).trans x2; have u3 := (G4.cells.1 _ _ hlx).trans x3; have u4 := (G4.cells.1 _ _ hlx).trans x4; clear R4 g4 G4))
    all_goals
      go_wp2
      refine bodyPost_ret (v := .tuple #[u, .int .i64 0]) (by simp [results, Try.results10, go_sem]) rfl ?_
      exact ⟨u, by rw [HX.out], by rw [HX.out]; exact (RowE.rdS enc5_len HR4.out).wider (Nat.le_trans HB.out HG1.out.size), HG1.out.trans HG4.out⟩
  · have HX := Lib.hid (mapR_e he h0)
    have h0' : (e == 0) = false := beq_false_of_ne h0
    clear he
    go_enter Try.func10, Try.ntmps10
    go_wp2_with fail
    with_reducible refine (checkMap_p HH.out HS.out hn HE.out).mono ?_
    rintro e9 w1 ⟨rfl, g1⟩
    have HG1 := Lib.hid (HG.out.trans g1)
    have HH1 := Lib.hid (HH.out.grew g1)
    clear g1
    go_wp2_with fail
    with_reducible refine (clone_d HH1.out hl).mono ?_
    rintro e9 w2 ⟨v2, rfl, R2, g2⟩
    have HR2 := Lib.hid (R2.wider (Nat.le_trans HB.out HG1.out.size))
    have HG2 := Lib.hid (HG1.out.trans g2)
    clear R2 g2
    go_wp2
    refine bodyPost_ret (v := .tuple #[v2, .int .i64 e]) (by simp [results, Try.results10, go_sem]) rfl ?_
    exact ⟨v2, by rw [HX.out], by rw [HX.out]; exact HR2.out, HG2.out⟩
end Go.Proofs.Ytnlhdbengppnpaa
