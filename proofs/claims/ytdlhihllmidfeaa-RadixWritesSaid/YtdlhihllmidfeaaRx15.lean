/- awake of layer 1: it answers true. -/
import Derived.Test.YtdlhihllmidfeaaRx14
namespace Go.Proofs.Ytdlhihllmidfeaa
open Go.RowKit Go.Mine

def f0 : Fen := fun _ => (0, 0)
def F1 : Fen := updG f0 5 (9, 0)
def F2 : Fen := updG F1 5 ((F1 5).1, orI (F1 5).2 1)
def F3 : Fen := updG F2 5 (0, 0)
theorem good0 : GoodF f0 := fun i => ⟨by show (Lit.int .i64 0).wf = true; decide, by show (0 : Int) ≤ 0; omega, by show (0 : Int) ≤ 7; omega, fun _ => rfl⟩
theorem tree0 (w : World) (p : Nat → Prop) : TreeF w p 0 f0 (.slice none 0 0) 0 0 := ⟨by omega, NodeF.empty 0 (by decide) _ _, good0, rfl, fun _ _ => rfl⟩
theorem high {w : World} {p : Nat → Prop} {k : Nat} {f : Fen} {s : Value} {x m : Int} (n : TreeF w p k f s x m) (h5 : ¬ f 5 = (0, 0)) (h3 : validB 3 f = false) (h4 : validB 4 f = false) : k = 2 := by
  have hk := n.le
  have hv := n.valid
  have ho := n.out
  have hc : k = 0 ∨ k = 1 ∨ k = 2 ∨ k = 3 ∨ k = 4 := by omega
  rcases hc with rfl | rfl | rfl | rfl | rfl
  · exact absurd (ho 5 (by decide)) h5
  · exact absurd (ho 5 (by decide)) h5
  · rfl
  · rw [h3] at hv; cases hv
  · rw [h4] at hv; cases hv
theorem flat {w : World} {p : Nat → Prop} {k : Nat} {f : Fen} {s : Value} {x m : Int} (n : TreeF w p k f s x m) (h1 : validB 1 f = false) (h2 : validB 2 f = false) (h3 : validB 3 f = false) (h4 : validB 4 f = false) : k = 0 := by
  have hk := n.le
  have hv := n.valid
  have hc : k = 0 ∨ k = 1 ∨ k = 2 ∨ k = 3 ∨ k = 4 := by omega
  rcases hc with rfl | rfl | rfl | rfl | rfl
  · rfl
  · rw [h1] at hv; cases hv
  · rw [h2] at hv; cases hv
  · rw [h3] at hv; cases hv
  · rw [h4] at hv; cases hv
theorem v13 : validB 3 F1 = false := by decide +kernel
theorem v14 : validB 4 F1 = false := by decide +kernel
theorem v23 : validB 3 F2 = false := by decide +kernel
theorem v24 : validB 4 F2 = false := by decide +kernel
theorem v31 : validB 1 F3 = false := by decide +kernel
theorem v32 : validB 2 F3 = false := by decide +kernel
theorem v33 : validB 3 F3 = false := by decide +kernel
theorem v34 : validB 4 F3 = false := by decide +kernel
theorem f15 : ¬ F1 5 = (0, 0) := by decide +kernel
theorem f25 : ¬ F2 5 = (0, 0) := by decide +kernel
theorem f29 : F1 5 = (9, 0) := by decide +kernel
theorem f2m : markedB 1 (F2 5) = true := by decide +kernel
theorem f2n : ffR 1 2 F2 0 = (5, true) := by decide +kernel
theorem f2c : cntR 0 2 F2 = 1 := by decide +kernel
theorem f2e : (entR 2 F2 0).length = 1 := by decide +kernel
theorem v01 : validB 1 f0 = false := by decide +kernel
theorem mk1 : markB 1 = true := by decide +kernel
theorem sr0 : srchB 0 = true := by decide +kernel
theorem sr1 : srchB 1 = true := by decide +kernel
theorem f19 : 0 < (F1 5).1 := by decide +kernel
theorem wf9 : (Lit.int .i64 9).wf = true := by decide
theorem wf0 : (Lit.int .i64 0).wf = true := by decide
section
variable {w : World} {p : Nat → Prop} {s : Value} {x m : Int}
theorem aw_set1 (w : World) : Calls Try.prog 28 #[.agg #[.int .i64 0, .slice none 0 0, .int .i64 0, .int .i64 0], .int .i64 5, .int .i64 9] w (RetSet F1 w) := set_f 0 f0 (.slice none 0 0) 0 0 9 5 (fun _ => True) w (tree0 w _) (by omega) wf9
theorem aw_mark (n : TreeF w p 2 F1 s x m) : Calls Try.prog 30 #[.agg #[.int .i64 2, s, .int .i64 x, .int .i64 m], .int .i64 5, .int .i64 1] w (RetSet F2 w) := mark_ok 2 F1 s x m 1 5 p w n (by omega) mk1 f19
theorem aw_next (n : TreeF w p 2 F2 s x m) : Calls Try.prog 13 #[.agg #[.int .i64 2, s, .int .i64 x, .int .i64 m], .int .i64 0, .int .i64 1] w (RetG (.tuple #[.int .i64 5, .bool true]) w) := by
  have h := next_f 2 F2 s x m 1 0 p w n sr1
  rw [f2n] at h
  exact h
theorem aw_set3 (n : TreeF w p 2 F2 s x m) : Calls Try.prog 28 #[.agg #[.int .i64 2, s, .int .i64 x, .int .i64 m], .int .i64 5, .int .i64 0] w (RetSet F3 w) := set_f 2 F2 s x m 0 5 p w n (by omega) wf0
theorem aw_get (n : TreeF w p 2 F1 s x m) : Calls Try.prog 17 #[.agg #[.int .i64 2, s, .int .i64 x, .int .i64 m], .int .i64 5] w (RetG (.int .i64 9) w) := by
  have h := get_f 2 F1 s x m 5 p w n (by omega)
  rw [f29] at h
  exact h
theorem aw_marked (n : TreeF w p 2 F2 s x m) : Calls Try.prog 19 #[.agg #[.int .i64 2, s, .int .i64 x, .int .i64 m], .int .i64 5, .int .i64 1] w (RetG (.bool true) w) := by
  have h := marked_f 2 F2 s x m 1 5 p w n (by omega) mk1
  rw [f2m] at h
  exact h
theorem aw_valid (n : TreeF w p 0 F3 s x m) : Calls Try.prog 15 #[.agg #[.int .i64 0, s, .int .i64 x, .int .i64 m]] w (RetG (.bool true) w) := valid_f 0 F3 s x m p w n.node n.good (by omega)
theorem aw_bad (w : World) : Calls Try.prog 15 #[.agg #[.int .i64 1, .slice none 0 0, .int .i64 0, .int .i64 0]] w (RetG (.bool false) w) := by
  have h := valid_f 1 f0 (.slice none 0 0) 0 0 (fun _ => True) w (NodeF.empty 1 (by decide +kernel) _ _) good0 (by omega)
  rw [v01] at h
  exact h
theorem aw_count (n : TreeF w p 2 F2 s x m) : Calls Try.prog 21 #[.agg #[.int .i64 2, s, .int .i64 x, .int .i64 m], .int .i64 0] w (RetG (.int .i64 1) w) := by
  have h := Count_f 2 F2 s x m 0 p w n sr0
  rw [f2c] at h
  exact h
/-- It returns a slice of one element. -/
def RetOne (w : World) (e : Ending) (w' : World) : Prop := ∃ a c, e = .returned (.slice a 1 c) ∧ Grew w w'
theorem aw_entries (n : TreeF w p 2 F2 s x m) : Calls Try.prog 24 #[.agg #[.int .i64 2, s, .int .i64 x, .int .i64 m]] w (RetOne w) := by
  refine (entries_f 2 F2 s x m p w n).mono fun e w' ⟨v, h1, h2, h3⟩ => ?_
  obtain ⟨a, c, rfl⟩ := h2.len
  rw [f2e] at h1
  exact ⟨a, c, h1, h3⟩
end
set_option maxRecDepth 100000 in
set_option maxHeartbeats 16000000 in
theorem awake_any (w : World) : Calls Try.prog 26 #[] w (RetG (.bool true) w) := by
  have gA := Grew.refl w
  go_enter Try.func26, Try.ntmps26
  go_wp2_with fail
  with_reducible refine (aw_set1 w).mono ?_
  rintro e w1 ⟨k, s, x, m, rfl, n1, g⟩
  replace gA := gA.trans g
  have hz := g.size
  obtain rfl : k = 2 := high n1 f15 v13 v14
  obtain ⟨a, j, c, rfl⟩ := n1.node.slice
  have HT := Lib.hid n1
  clear n1 g
  have A := Own.new w1 28 #[.int .i64 2, .slice a j c, .int .i64 x, .int .i64 m]
  have gN := (Grew.refl w1).alloc (.cells #[.int .i64 2, .slice a j c, .int .i64 x, .int .i64 m] 28)
  replace gA := gA.trans gN
  replace HT := Lib.hid (HT.out.grew gN)
  clear gN
  go_wp2_with fail
  with_reducible refine (aw_mark HT.out).mono ?_
  rintro e w2 ⟨k2, s2, x2, m2, rfl, n2, g⟩
  replace A := A.grew g
  replace HT := Lib.hid (HT.out.grew g)
  replace gA := gA.trans g
  have hz := g.size
  obtain rfl : k2 = 2 := high n2 f25 v23 v24
  obtain ⟨a2, j2, c2, rfl⟩ := n2.node.slice
  have HU := Lib.hid n2
  clear n2 g
  have hlA := A.lt
  have B := Own.new w2 28 #[.int .i64 2, .slice a2 j2 c2, .int .i64 x2, .int .i64 m2]
  have gN := (Grew.refl w2).alloc (.cells #[.int .i64 2, .slice a2 j2 c2, .int .i64 x2, .int .i64 m2] 28)
  replace A := A.grew gN
  replace gA := gA.trans gN
  replace HT := Lib.hid (HT.out.grew gN)
  replace HU := Lib.hid (HU.out.grew gN)
  clear gN
  go_wp2_with fail
  with_reducible refine (aw_next HU.out).mono ?_
  rintro e w3 ⟨rfl, g⟩
  replace A := A.grew g
  replace B := B.grew g
  replace HT := Lib.hid (HT.out.grew g)
  replace HU := Lib.hid (HU.out.grew g)
  replace gA := gA.trans g
  have hz := g.size
  clear g
  obtain ⟨A0, A1, A2, A3, -⟩ := A.four
  obtain ⟨B0, B1, B2, B3, -⟩ := B.four
  go_wp2_with fail
  with_reducible refine (aw_set3 HU.out).mono ?_
  rintro e w4 ⟨k4, s4, x4, m4, rfl, n4, g⟩
  replace A := A.grew g
  replace B := B.grew g
  replace HT := Lib.hid (HT.out.grew g)
  replace HU := Lib.hid (HU.out.grew g)
  replace gA := gA.trans g
  have hz := g.size
  obtain rfl : k4 = 0 := flat n4 v31 v32 v33 v34
  obtain ⟨⟨a4, c4, rfl⟩, -⟩ := n4.node
  have HV := Lib.hid n4
  clear n4 g A0 A1 A2 A3 B0 B1 B2 B3
  have hlA4 := A.lt
  have hlB4 := B.lt
  have C := Own.new w4 28 #[.int .i64 0, .slice a4 0 c4, .int .i64 x4, .int .i64 m4]
  have gN := (Grew.refl w4).alloc (.cells #[.int .i64 0, .slice a4 0 c4, .int .i64 x4, .int .i64 m4] 28)
  replace A := A.grew gN
  replace B := B.grew gN
  replace gA := gA.trans gN
  replace HT := Lib.hid (HT.out.grew gN)
  replace HU := Lib.hid (HU.out.grew gN)
  replace HV := Lib.hid (HV.out.grew gN)
  clear gN
  obtain ⟨A0, A1, A2, A3, -⟩ := A.four
  obtain ⟨B0, B1, B2, B3, -⟩ := B.four
  obtain ⟨C0, C1, C2, C3, -⟩ := C.four
  go_wp2_with fail
  with_reducible refine (aw_get HT.out).mono ?_
  rintro e w5 ⟨rfl, g⟩
  clear A0 A1 A2 A3 B0 B1 B2 B3 C0 C1 C2 C3
  replace A := A.grew g
  replace B := B.grew g
  replace C := C.grew g
  replace HT := Lib.hid (HT.out.grew g)
  replace HU := Lib.hid (HU.out.grew g)
  replace HV := Lib.hid (HV.out.grew g)
  replace gA := gA.trans g
  clear g
  obtain ⟨A0, A1, A2, A3, -⟩ := A.four
  obtain ⟨B0, B1, B2, B3, -⟩ := B.four
  obtain ⟨C0, C1, C2, C3, -⟩ := C.four
  go_wp2_with fail
  with_reducible refine (aw_marked HU.out).mono ?_
  rintro e w6 ⟨rfl, g⟩
  clear A0 A1 A2 A3 B0 B1 B2 B3 C0 C1 C2 C3
  replace A := A.grew g
  replace B := B.grew g
  replace C := C.grew g
  replace HT := Lib.hid (HT.out.grew g)
  replace HU := Lib.hid (HU.out.grew g)
  replace HV := Lib.hid (HV.out.grew g)
  replace gA := gA.trans g
  clear g
  obtain ⟨A0, A1, A2, A3, -⟩ := A.four
  obtain ⟨B0, B1, B2, B3, -⟩ := B.four
  obtain ⟨C0, C1, C2, C3, -⟩ := C.four
  go_wp2_with fail
  with_reducible refine (aw_valid HV.out).mono ?_
  rintro e w7 ⟨rfl, g⟩
  clear A0 A1 A2 A3 B0 B1 B2 B3 C0 C1 C2 C3
  replace A := A.grew g
  replace B := B.grew g
  replace C := C.grew g
  replace HT := Lib.hid (HT.out.grew g)
  replace HU := Lib.hid (HU.out.grew g)
  replace HV := Lib.hid (HV.out.grew g)
  replace gA := gA.trans g
  clear g
  obtain ⟨A0, A1, A2, A3, -⟩ := A.four
  obtain ⟨B0, B1, B2, B3, -⟩ := B.four
  obtain ⟨C0, C1, C2, C3, -⟩ := C.four
  go_wp2_with fail
  with_reducible refine (aw_bad _).mono ?_
  rintro e w8 ⟨rfl, g⟩
  clear A0 A1 A2 A3 B0 B1 B2 B3 C0 C1 C2 C3
  replace A := A.grew g
  replace B := B.grew g
  replace C := C.grew g
  replace HT := Lib.hid (HT.out.grew g)
  replace HU := Lib.hid (HU.out.grew g)
  replace HV := Lib.hid (HV.out.grew g)
  replace gA := gA.trans g
  clear g
  obtain ⟨A0, A1, A2, A3, -⟩ := A.four
  obtain ⟨B0, B1, B2, B3, -⟩ := B.four
  obtain ⟨C0, C1, C2, C3, -⟩ := C.four
  go_wp2_with fail
  with_reducible refine (aw_count HU.out).mono ?_
  rintro e w9 ⟨rfl, g⟩
  clear A0 A1 A2 A3 B0 B1 B2 B3 C0 C1 C2 C3
  replace A := A.grew g
  replace B := B.grew g
  replace C := C.grew g
  replace HT := Lib.hid (HT.out.grew g)
  replace HU := Lib.hid (HU.out.grew g)
  replace HV := Lib.hid (HV.out.grew g)
  replace gA := gA.trans g
  clear g
  obtain ⟨A0, A1, A2, A3, -⟩ := A.four
  obtain ⟨B0, B1, B2, B3, -⟩ := B.four
  obtain ⟨C0, C1, C2, C3, -⟩ := C.four
  go_wp2_with fail
  with_reducible refine (aw_entries HU.out).mono ?_
  rintro e w10 ⟨ae, ce, rfl, g⟩
  clear A0 A1 A2 A3 B0 B1 B2 B3 C0 C1 C2 C3
  replace A := A.grew g
  replace B := B.grew g
  replace C := C.grew g
  replace HT := Lib.hid (HT.out.grew g)
  replace HU := Lib.hid (HU.out.grew g)
  replace HV := Lib.hid (HV.out.grew g)
  replace gA := gA.trans g
  clear g
  obtain ⟨A0, A1, A2, A3, -⟩ := A.four
  obtain ⟨B0, B1, B2, B3, -⟩ := B.four
  obtain ⟨C0, C1, C2, C3, -⟩ := C.four
  go_wp2_with fail
  go_ret
  exact ⟨rfl, gA⟩
end Go.Proofs.Ytdlhihllmidfeaa
