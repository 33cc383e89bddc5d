/- The reference of layer 10: Check. -/
import Derived.Test.YtphccdfdknihdaaRows
import Derived.Test.YtphccdfdknihdaaZnR
import Derived.Deep.QuietTactic
import Derived.BigQuiet
import Derived.IntWalk
import Derived.Deep.RegionHeld3
import Derived.Deep.DeepCutAuto
import Derived.Deep.CutBlock
namespace Go.Proofs.Ytphccdfdknihdaa
open Go.RowKit Go.Mine

theorem sizeZ_snoc (z : Zo) : ∀ L : List Zo, sizeZ (L ++ [z]) = sizeZ L + z.s
  | [] => by show z.s + 0 = 0 + z.s; omega
  | y :: L => by
    have := sizeZ_snoc z L
    show y.s + sizeZ (L ++ [z]) = y.s + sizeZ L + z.s
    omega
theorem rt_snoc {z : Zo} : ∀ {L : List Zo} {nx : Int}, RtZ nx L → ZoOK z (nx + sizeZ L) → RtZ nx (L ++ [z])
  | [], nx, _, h => ⟨by simpa [sizeZ] using h, trivial⟩
  | y :: L, nx, h, h2 => ⟨h.1, rt_snoc h.2 (by
      have e : nx + sizeZ (y :: L) = nx + y.s + sizeZ L := by show nx + (y.s + sizeZ L) = _; omega
      rw [e] at h2
      exact h2)⟩
theorem rt_at : ∀ {L : List Zo} {nx : Int} {i : Nat}, RtZ nx L → i < L.length → ZoOK (L.getD i zoZ) (nx + sizeZ (L.take i))
  | y :: L, nx, 0, h, _ => by
    have e : nx + sizeZ ((y :: L).take 0) = nx := by show nx + 0 = nx; omega
    rw [e]
    exact h.1
  | y :: L, nx, i + 1, h, hi => by
    have := rt_at (L := L) (i := i) h.2 (by simpa using hi)
    have e : nx + sizeZ ((y :: L).take (i + 1)) = nx + y.s + sizeZ (L.take i) := by show nx + (y.s + sizeZ (L.take i)) = _; omega
    rw [e]
    exact this
theorem take_z {L : List Zo} {i : Nat} (h : i < L.length) : L.take (i + 1) = L.take i ++ [L.getD i zoZ] := by
  rw [List.take_add_one, List.getElem?_eq_getElem h, List.getD, List.getElem?_eq_getElem h]; rfl
/-- The first k free frames are right. -/
def FrK (z : Zo) (k : Nat) : Prop := (∀ j, j < k → z.f ≤ z.fr.getD j 0 ∧ z.fr.getD j 0 < z.f + z.s) ∧ ∀ j, j + 1 < k → z.fr.getD j 0 < z.fr.getD (j + 1) 0
theorem frK_asc {L : List Int} (h : ∀ j, j + 1 < L.length → L.getD j 0 < L.getD (j + 1) 0) : ascI L := by
  induction L with
  | nil => exact List.Pairwise.nil
  | cons x L ih =>
    have h1 := ih fun j hj => by have := h (j + 1) (by simpa using hj); simpa using this
    refine List.pairwise_cons.2 ⟨fun b hb => ?_, h1⟩
    cases L with
    | nil => exact absurd hb (by simp)
    | cons y L =>
      have h2 : x < y := by have := h 0 (by simp); simpa using this
      rcases List.mem_cons.1 hb with rfl | hb
      · exact h2
      · exact Int.lt_trans h2 ((List.pairwise_cons.1 h1).1 b hb)
theorem frK_all {z : Zo} {nx : Int} (h1 : z.f = nx ∧ 1 ≤ z.s ∧ z.s ≤ 65 - nx ∧ 0 ≤ z.mn ∧ z.mn ≤ z.lo ∧ z.lo ≤ z.hi ∧ z.hi ≤ z.s) (h : FrK z z.fr.length) : ZoOK z nx :=
  ⟨h1.1, h1.2.1, h1.2.2.1, h1.2.2.2.1, h1.2.2.2.2.1, h1.2.2.2.2.2.1, h1.2.2.2.2.2.2, fun x hx => by
    obtain ⟨j, hj, e⟩ := List.getElem_of_mem hx
    have := h.1 j hj
    rw [List.getD, List.getElem?_eq_getElem hj, Option.getD_some, e] at this
    exact this, frK_asc h.2⟩
theorem frK_of {z : Zo} {nx : Int} (h : ZoOK z nx) {k : Nat} (hk : k ≤ z.fr.length) : FrK z k := by
  obtain ⟨-, -, -, -, -, -, -, h1, h2⟩ := h
  have hd : ∀ j (hj : j < z.fr.length), z.fr.getD j 0 = z.fr[j] := fun j hj => by rw [List.getD, List.getElem?_eq_getElem hj]; rfl
  refine ⟨fun j hj => ?_, fun j hj => ?_⟩
  · rw [hd j (by omega)]
    exact h1 _ (List.getElem_mem _)
  · rw [hd j (by omega), hd (j + 1) (by omega)]
    exact (List.pairwise_iff_getElem.1 h2) j (j + 1) (by omega) (by omega) (by omega)
end Go.Proofs.Ytphccdfdknihdaa
