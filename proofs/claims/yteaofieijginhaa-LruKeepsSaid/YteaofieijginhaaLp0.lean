/- Library functions over lists of integers (layer 8): the library's contracts laid at this dump, said of rows. -/
import Derived.Shelf.Slices.Turned
import Derived.Ground.Names2Prog
import Derived.Shelf.Slices.Clone
import Derived.Shelf.Slices.SearchI
import Derived.Shelf.Slices.Empties
import Derived.Shelf.Spec.SlicesInsertGrow
import Derived.Test.YteaofieijginhaaLf2
import Derived.Test.YteaofieijginhaaRowCut
namespace Go.Mine
open Go Go.RowKit
theorem fm1 (L : List Int) : L.flatMap enc1 = L.map (Value.int .i64) := by
  induction L with
  | nil => rfl
  | cons x l ih => rw [List.flatMap_cons, ih]; rfl
/-- A row out of its cells. -/
theorem row_cells {w : World} {g cap n B : Nat} {T : TypeId} {cur : Array Value} {L : List Int} (hb : Own w g T cur) (hs : cur.size = cap) (hm : cap ≤ maxLen) (hn : n ≤ cap) (hB : B ≤ g) (hl : L.length = n)
    (hc : ∀ j, j < n → w.cell? ⟨g, j, none⟩ = some (.int .i64 (L.getD j 0))) : RowE T 1 enc1 w B (.slice (some ⟨g, 0, none⟩) n cap) L := by
  refine ⟨fm_len enc1_len _, .inr ⟨g, cap, cur, by rw [hl], hB, hb, by omega, hm, by omega, ?_⟩⟩
  rw [fm1, Nat.mul_one]
  apply List.ext_getElem?
  intro j
  by_cases hj : j < n
  · have h1 := (hb.cell j).symm.trans (hc j hj)
    rw [List.getElem?_take_of_lt (by omega), Array.getElem?_toList, h1, List.getElem?_map, List.getElem?_eq_getElem (by omega)]
    simp [List.getD, show j < L.length by omega]
  · rw [List.getElem?_eq_none (by rw [List.length_take]; omega), List.getElem?_eq_none (by rw [List.length_map]; omega)]
theorem own_cells {g : Nat} {T : TypeId} : ∀ (vs : List Value) (o : Nat) (w : World) (cs : Array Value), Own w g T cs → ∃ cs', Own (w.setCells g o vs) g T cs' ∧ cs'.size = cs.size
  | [], _, _, cs, h => ⟨cs, h, rfl⟩
  | v :: vs, o, w, cs, h => by
    obtain ⟨cs', h1, h2⟩ := own_cells vs (o + 1) _ _ (h.set o v)
    exact ⟨cs', h1, by rw [h2]; simp⟩
theorem row_own {w : World} {B g n c : Nat} {T : TypeId} {L : List Int} (h : RowE T 1 enc1 w B (.slice (some ⟨g, 0, none⟩) n c) L) : n = L.length ∧ B ≤ g ∧ n ≤ c ∧ c ≤ maxLen ∧ ∃ cur, Own w g T cur ∧ cur.size = c := by
  obtain ⟨h1, h2 | ⟨g0, cap, cur, e, hB, hg, hc, hm, hs, ht⟩⟩ := h
  · exact absurd h2.1 (by simp)
  · injection e with e1 e2 e3
    injection e1 with e1
    injection e1 with e1
    subst e1 e2 e3
    exact ⟨rfl, hB, hc, hm, cur, hg, by omega⟩
end Go.Mine
namespace Go.Proofs.Yteaofieijginhaa
open Go.RowKit Go.Mine Go.Shelf

def layIdx_ren : Go.Shelf.Ren := ⟨fun | 108 => 55 | n => n, fun | 28 => 22 | 3 => 3 | 0 => 0 | 4 => 4 | n => n, fun | n => n⟩
def layCon_ren : Go.Shelf.Ren := ⟨fun | 107 => 42 | 108 => 55 | n => n, fun | 28 => 22 | 3 => 3 | 4 => 4 | 0 => 0 | n => n, fun | n => n⟩
theorem layCon : Go.Proofs.Lays.n107 Try.prog layCon_ren := {
  mixed := by kernel_rfl
  f107 := Try.func42.trans (congrArg some (by kernel_rfl))
  f108 := Try.func55.trans (congrArg some (by kernel_rfl))
  t0 := Try.underlying0
  a0 := Try.isAgg0
  z0 := Try.sizeOf0
  v0 := Try.zeroValue0
  t3 := Try.underlying3
  a3 := Try.isAgg3
  z3 := Try.sizeOf3
  v3 := Try.zeroValue3
  t4 := Try.underlying4
  a4 := Try.isAgg4
  z4 := Try.sizeOf4
  v4 := Try.zeroValue4
  t28 := Try.underlying22
  a28 := Try.isAgg22
  z28 := Try.sizeOf22
  v28 := Try.zeroValue22 }
def layClo_ren : Go.Shelf.Ren := ⟨fun | 15 => 49 | n => n, fun | 22 => 22 | 3 => 3 | 4 => 4 | n => n, fun | n => n⟩
theorem layClo : Go.Proofs.Lays2.n15 Try.prog layClo_ren := {
  mixed := by kernel_rfl
  f15 := Try.func49.trans (congrArg some (by kernel_rfl))
  t3 := Try.underlying3
  a3 := Try.isAgg3
  z3 := Try.sizeOf3
  v3 := Try.zeroValue3
  t4 := Try.underlying4
  a4 := Try.isAgg4
  z4 := Try.sizeOf4
  v4 := Try.zeroValue4
  t22 := Try.underlying22
  a22 := Try.isAgg22
  z22 := Try.sizeOf22
  v22 := Try.zeroValue22
  i3 := by kernel_rfl }
def layBin_ren : Go.Shelf.Ren := ⟨fun | 25 => 53 | 31 => 58 | 32 => 59 | 37 => 62 | n => n, fun | 22 => 22 | 3 => 3 | 4 => 4 | 40 => 66 | 0 => 0 | n => n, fun | n => n⟩
theorem layBin : Go.Proofs.Lays2.n25 Try.prog layBin_ren := {
  mixed := by kernel_rfl
  f25 := Try.func53.trans (congrArg some (by kernel_rfl))
  f31 := Try.func58.trans (congrArg some (by kernel_rfl))
  f32 := Try.func59.trans (congrArg some (by kernel_rfl))
  f37 := Try.func62.trans (congrArg some (by kernel_rfl))
  t0 := Try.underlying0
  a0 := Try.isAgg0
  z0 := Try.sizeOf0
  v0 := Try.zeroValue0
  t3 := Try.underlying3
  a3 := Try.isAgg3
  z3 := Try.sizeOf3
  v3 := Try.zeroValue3
  t4 := Try.underlying4
  a4 := Try.isAgg4
  z4 := Try.sizeOf4
  v4 := Try.zeroValue4
  t22 := Try.underlying22
  a22 := Try.isAgg22
  z22 := Try.sizeOf22
  v22 := Try.zeroValue22
  t40 := Try.underlying66
  a40 := Try.isAgg66
  z40 := Try.sizeOf66
  v40 := Try.zeroValue66 }
def layIns_ren : Go.Shelf.Ren := ⟨fun | 21 => 54 | 27 => 60 | 28 => 61 | 35 => 63 | 39 => 64 | n => n, fun | 22 => 22 | 3 => 3 | 4 => 4 | 0 => 0 | n => n, fun | n => n⟩
theorem layIns : Go.Proofs.Lays2.n21 Try.prog layIns_ren := {
  mixed := by kernel_rfl
  f21 := Try.func54.trans (congrArg some (by kernel_rfl))
  f27 := Try.func60.trans (congrArg some (by kernel_rfl))
  f28 := Try.func61.trans (congrArg some (by kernel_rfl))
  f35 := Try.func63.trans (congrArg some (by kernel_rfl))
  f39 := Try.func64.trans (congrArg some (by kernel_rfl))
  t0 := Try.underlying0
  a0 := Try.isAgg0
  z0 := Try.sizeOf0
  v0 := Try.zeroValue0
  t3 := Try.underlying3
  a3 := Try.isAgg3
  z3 := Try.sizeOf3
  v3 := Try.zeroValue3
  t4 := Try.underlying4
  a4 := Try.isAgg4
  z4 := Try.sizeOf4
  v4 := Try.zeroValue4
  t22 := Try.underlying22
  a22 := Try.isAgg22
  z22 := Try.sizeOf22
  v22 := Try.zeroValue22
  i3 := by kernel_rfl }

theorem con_any {L : List Int} {B : Nat} (v : Value) (n : Int) (w : World) (R : RwI w B v L) (hl : L.length ≤ 100000) :
    Calls Try.prog 42 #[v, .int .i64 n] w fun e w' => e = .returned (.bool (decide (n ∈ L))) ∧ w' = w := by
  rcases R.shape enc1_len with ⟨rfl, rfl⟩ | ⟨g, cap, rfl, -, hg, -, -, hcell, -⟩
  · exact (Any.slices_Contains_int_empty layCon none 0 n w).mono fun e w' ⟨h1, h2⟩ => ⟨by rw [h1]; simp, h2⟩
  · refine (Any.slices_Contains_int layCon g 0 L.length cap L n w (Nat.le_refl _) (by omega) (fun j hj => ?_)).mono fun e w' ⟨h1, h2⟩ => ⟨by rw [h1, List.take_length, List.contains_eq_mem], h2⟩
    have := hcell j hj 0 (by omega)
    simpa [enc1, List.getD, hj] using this
theorem con_v {b : Bool} {L : List Int} {B : Nat} (v : Value) (n : Int) (w : World) (R : RwI w B v L) (hl : L.length ≤ 100000) (h : decide (n ∈ L) = b) :
    Calls Try.prog 42 #[v, .int .i64 n] w fun e w' => e = .returned (.bool b) ∧ w' = w := h ▸ con_any v n w R hl
theorem clone_i {L : List Int} {B : Nat} (v : Value) (w : World) (R : RwI w B v L) (hl : L.length ≤ 100000) : Calls Try.prog 49 #[v] w (RetL1 L w) := by
  rcases R.shape enc1_len with ⟨rfl, rfl⟩ | ⟨g, cap, rfl, -, hg, -, -, hcell, -⟩
  · refine (Any.slices_Clone_int_nil layClo 0 0 w).mono ?_
    rintro e w' ⟨rfl, rfl⟩
    exact ⟨_, rfl, RowE.nil _ _, Grew.refl _⟩
  · refine (Any.slices_Clone_int layClo g 0 L.length cap L w (Nat.le_refl _) (by omega) (fun j hj => ?_)).mono ?_
    · have := hcell j hj 0 (by omega)
      simpa [enc1, List.getD, hj] using this
    · rintro e w' ⟨v', rfl, h1, -, h2⟩
      refine ⟨v', rfl, ?_, h2⟩
      rw [List.take_length] at h1
      unfold RwI RowE
      rw [fm1]
      exact h1
theorem bin_i {L : List Int} {B : Nat} (v : Value) (x : Int) (w : World) (R : RwI w B v L) (hl : L.length ≤ 100000) (hs : AscP L) :
    Calls Try.prog 53 #[v, .int .i64 x] w fun e w' => e = .returned (.tuple #[.int .i64 (L.countP (· < x) : Nat), .bool (decide (x ∈ L))]) ∧ ∃ q, w' = w.drewN q := by
  rcases R.shape enc1_len with ⟨rfl, rfl⟩ | ⟨g, cap, rfl, -, hg, -, -, hcell, -⟩
  · exact (Any.slices_BinarySearch_int_empty layBin none 0 x w).mono fun e w' ⟨h1, h2⟩ => ⟨by rw [h1]; simp, 0, h2⟩
  · refine (Any.slices_BinarySearch_int layBin g 0 L.length cap L x w (Nat.le_refl _) (by omega) (fun j hj => ?_) ?_).mono fun e w' ⟨h1, h2⟩ => ⟨by rw [h1, List.take_length, List.contains_eq_mem], h2⟩
    · have := hcell j hj 0 (by omega)
      simpa [enc1, List.getD, hj] using this
    · rw [List.take_length]
      exact List.Pairwise.imp (fun h => Int.le_of_lt h) hs
end Go.Proofs.Yteaofieijginhaa
