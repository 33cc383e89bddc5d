/- Dirty files by age (layer 15): since when a file is dirty, and which are due: words of my own, no program is named here. -/
import Derived.Test.YtmdechoajmbhoaaAgM
namespace Go.Mine
open Go Go.RowKit

/-- Since when a file is dirty. -/
def fndA (L : List Du) (x : Int) : Option Int := (L.find? fun d => d.1 == x).map fun d => d.2
theorem fnd_has (L : List Du) (x : Int) : (fndA L x).isSome = hasA L x := by
  unfold fndA hasA
  rw [Option.isSome_map]
  induction L with
  | nil => rfl
  | cons a L ih =>
    cases h : (a.1 == x)
    · rw [List.find?_cons, List.any_cons, h, Bool.false_or]; exact ih
    · rw [List.find?_cons, List.any_cons, h]; rfl
theorem fnd_mem {L : List Du} {x s : Int} (h : fndA L x = some s) : (x, s) ∈ L := by
  unfold fndA at h
  obtain ⟨d, h1, h2⟩ := Option.map_eq_some_iff.1 h
  have h3 := List.find?_some h1
  have h4 := List.mem_of_find?_eq_some h1
  have h5 : d.1 = x := by simpa using h3
  rw [← h5, ← h2]
  exact h4
theorem pairA {L : List Du} (h : okA L = true) : L.Pairwise fun a b => a.1 ≠ b.1 ∧ a.2 ≤ b.2 := by
  rw [List.pairwise_iff_getElem]
  intro i j hi hj hij
  rw [← dD hi, ← dD hj]
  exact ⟨okA_ne h hij hj, okA_mono h (Nat.le_of_lt hij) hj⟩
theorem fnd_of {L : List Du} (h : L.Pairwise fun a b => a.1 ≠ b.1 ∧ a.2 ≤ b.2) {d : Du} (hd : d ∈ L) : fndA L d.1 = some d.2 := by
  induction L with
  | nil => exact absurd hd (by simp)
  | cons a L ih =>
    rw [List.pairwise_cons] at h
    unfold fndA
    by_cases e : a.1 = d.1
    · rw [List.find?_cons_of_pos (by simpa using e)]
      rcases List.mem_cons.1 hd with rfl | hd
      · rfl
      · exact absurd e (h.1 d hd).1
    · rw [List.find?_cons_of_neg (by simpa using e)]
      rcases List.mem_cons.1 hd with rfl | hd
      · exact absurd rfl e
      · exact ih h.2 hd
theorem fnd_nil (x : Int) : fndA [] x = none := rfl
theorem fnd_out (L : List Du) (f x : Int) : fndA (outA L f) x = if x = f then none else fndA L x := by
  unfold fndA outA
  induction L with
  | nil => simp
  | cons a L ih =>
    by_cases e : a.1 = f
    · rw [List.filter_cons_of_neg (by simpa using e), ih]
      by_cases e2 : x = f
      · rw [if_pos e2, if_pos e2]
      · rw [if_neg e2, if_neg e2, List.find?_cons_of_neg (fun h => e2 ((show a.1 = x by simpa using h).symm.trans e))]
    · rw [List.filter_cons_of_pos (by simpa using e)]
      by_cases e3 : a.1 = x
      · have e2 : x ≠ f := fun h => e (e3.trans h)
        rw [if_neg e2, List.find?_cons_of_pos (by simpa using e3), List.find?_cons_of_pos (by simpa using e3)]
      · rw [List.find?_cons_of_neg (by simpa using e3), List.find?_cons_of_neg (by simpa using e3)]
        exact ih
theorem fnd_snoc {L : List Du} {f n : Int} (h : hasA L f = false) (x : Int) : fndA (L ++ [(f, n)]) x = if x = f then some n else fndA L x := by
  unfold fndA
  rw [List.find?_append]
  by_cases e : x = f
  · subst e
    have h1 : L.find? (fun d => d.1 == x) = none := by
      rw [List.find?_eq_none]
      intro d hd
      obtain ⟨k, hk, rfl⟩ := List.getElem_of_mem hd
      have := hasA_iff'.1 h k hk
      rw [dD hk] at this
      simpa using this
    rw [h1, if_pos rfl]
    simp
  · rw [if_neg e]
    have h1 : List.find? (fun d : Du => d.1 == x) [(f, n)] = none := by simp; exact fun h => e h.symm
    rw [h1, Option.or_none]
/-! Which are due. -/
theorem due_q (L : List Du) (t : Int) : dueL L t = (L.filter fun d => decide (d.2 ≤ t)).map fun d => d.1 := rfl
theorem due_at {L : List Du} (h : okA L = true) {t : Int} {i : Nat} (hi : i < (dueL L t).length) : ∃ s, fndA L ((dueL L t).getD i 0) = some s ∧ s ≤ t := by
  have hq := (pairA h)
  rw [due_q] at hi ⊢
  rw [List.length_map] at hi
  generalize hQ : (L.filter fun d => decide (d.2 ≤ t)) = Q at *
  have hm : Q[i] ∈ L.filter fun d => decide (d.2 ≤ t) := by rw [hQ]; exact List.getElem_mem hi
  obtain ⟨h1, h2⟩ := List.mem_filter.1 hm
  refine ⟨Q[i].2, ?_, by simpa using h2⟩
  rw [show (Q.map fun d => d.1).getD i 0 = Q[i].1 by simp [List.getD, hi]]
  exact fnd_of hq h1
theorem due_two {L : List Du} (h : okA L = true) {t : Int} {i j : Nat} (hij : i < j) (hj : j < (dueL L t).length) : (dueL L t).getD i 0 ≠ (dueL L t).getD j 0 ∧ (fndA L ((dueL L t).getD i 0)).getD 0 ≤ (fndA L ((dueL L t).getD j 0)).getD 0 := by
  have hq := (pairA h)
  have hp := hq.filter (fun d => decide (d.2 ≤ t))
  have hmem : ∀ d, d ∈ (L.filter fun d => decide (d.2 ≤ t)) → d ∈ L := fun d hd => (List.mem_filter.1 hd).1
  rw [due_q] at hj ⊢
  rw [List.length_map] at hj
  generalize (L.filter fun d => decide (d.2 ≤ t)) = Q at *
  rw [show (Q.map fun d => d.1).getD i 0 = Q[i].1 by simp [List.getD, (show i < Q.length by omega)], show (Q.map fun d => d.1).getD j 0 = Q[j].1 by simp [List.getD, hj]]
  have h1 := List.pairwise_iff_getElem.1 hp i j (by omega) hj hij
  rw [fnd_of hq (hmem _ (List.getElem_mem (by omega : i < Q.length))), fnd_of hq (hmem _ (List.getElem_mem hj))]
  exact h1
theorem due_all {L : List Du} {t x s : Int} (hf : fndA L x = some s) (hs : s ≤ t) : x ∈ dueL L t := by
  rw [due_q]
  exact List.mem_map.2 ⟨(x, s), List.mem_filter.2 ⟨fnd_mem hf, by simpa using hs⟩, rfl⟩
/-- The files seen so far. -/
def seenB (P : List Int) (i : Nat) (x : Int) : Bool := decide (x ∈ P.take i)
theorem seenB_0 (P : List Int) (x : Int) : seenB P 0 x = false := by unfold seenB; simp
theorem seenB_next {P : List Int} {i : Nat} (hi : i < P.length) (x : Int) : (seenB P i x || decide (x = P.getD i 0)) = seenB P (i + 1) x := by
  unfold seenB
  rw [take_getD (d := (0 : Int)) P i hi]
  rw [Bool.eq_iff_iff]
  simp
theorem seenB_new {L : List Du} (h : okA L = true) {t : Int} {i : Nat} (hi : i < (dueL L t).length) : seenB (dueL L t) i ((dueL L t).getD i 0) = false := by
  unfold seenB
  rw [decide_eq_false_iff_not]
  intro hm
  obtain ⟨k, hk, e⟩ := List.getElem_of_mem hm
  rw [List.length_take] at hk
  have := (due_two h (show k < i by omega) hi).1
  apply this
  rw [List.getElem_take] at e
  rw [← e]
  simp [List.getD, (show k < (dueL L t).length by omega)]
theorem seenB_all {P : List Int} {x : Int} (h : x ∈ P) : seenB P P.length x = true := by unfold seenB; rw [List.take_length]; exact decide_eq_true h
end Go.Mine
