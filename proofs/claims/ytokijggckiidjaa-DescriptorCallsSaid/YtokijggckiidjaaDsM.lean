/- Descriptors (layer 18) as plain mathematics: words of my own, no program is named here. -/
import Derived.Test.YtokijggckiidjaaRdS
namespace Go.Mine
open Go Go.RowKit

/-- A description: its file, its flags, its offset, its cursor, how many have it. -/
structure Ds where
  f : Int
  g : Int
  o : Int
  c : Int
  r : Int
deriving DecidableEq
abbrev zDs : Ds := ⟨0, 0, 0, 0, 0⟩
def encDs (x : Ds) : List Value := [.int .i64 x.f, .int .i64 x.g, .int .i64 x.o, .int .i64 x.c, .int .i64 x.r]
theorem encDs_len (x : Ds) : (encDs x).length = 5 := rfl
theorem encDs_one {x : Ds} : ∀ u ∈ encDs x, u.oneCell' = true := by
  intro u hu
  simp only [encDs, List.mem_cons, List.not_mem_nil, or_false] at hu
  rcases hu with rfl | rfl | rfl | rfl | rfl <;> rfl
abbrev dsV (x : Ds) : Value := .agg #[.int .i64 x.f, .int .i64 x.g, .int .i64 x.o, .int .i64 x.c, .int .i64 x.r]
/-- The tables, the descriptions. -/
structure Dd where
  t : List (List Int)
  o : List Ds
deriving DecidableEq
def inD (x l u : Int) : Bool := decide (l ≤ x ∧ x ≤ u)
theorem inD_iff {x l u : Int} : inD x l u = true ↔ l ≤ x ∧ x ≤ u := decide_eq_true_iff
theorem inD_no {x l u : Int} (h : ¬(l ≤ x ∧ x ≤ u)) : inD x l u = false := decide_eq_false h
def flD (g : Int) : Bool := decide (1 ≤ g ∧ g ≤ 7 ∧ g ≠ 4)
theorem flD_iff {g : Int} : flD g = true ↔ 1 ≤ g ∧ g ≤ 7 ∧ g ≠ 4 := decide_eq_true_iff
def RtD (x : Ds) : Prop := (0 ≤ x.f ∧ x.f ≤ 7) ∧ (1 ≤ x.g ∧ x.g ≤ 7 ∧ x.g ≠ 4) ∧ (0 ≤ x.o ∧ x.o ≤ 128) ∧ 0 ≤ x.c ∧ x.c ≤ 1000000
def rtD (x : Ds) : Bool := inD x.f 0 7 && flD x.g && inD x.o 0 128 && inD x.c 0 1000000
theorem rtD_iff {x : Ds} : rtD x = true ↔ RtD x := by
  unfold rtD RtD
  rw [Bool.and_eq_true, Bool.and_eq_true, Bool.and_eq_true, inD_iff, inD_iff, inD_iff, flD_iff]
  exact ⟨fun ⟨⟨⟨a, b⟩, c⟩, d⟩ => ⟨a, b, c, d⟩, fun ⟨a, b, c, d⟩ => ⟨⟨⟨a, b⟩, c⟩, d⟩⟩
theorem rtD_no {x : Ds} (h : ¬RtD x) : rtD x = false := by
  cases hk : rtD x
  · rfl
  · exact absurd (rtD_iff.1 hk) h
/-! How many descriptors have a number. -/
def cntD (F : List Int) (i : Nat) : Nat := F.count ((i : Int) + 1)
theorem cntD_nil (i : Nat) : cntD [] i = 0 := rfl
theorem cntD_snoc (F : List Int) (n : Int) (i : Nat) : cntD (F ++ [n]) i = cntD F i + if n = (i : Int) + 1 then 1 else 0 := by
  unfold cntD
  rw [List.count_append, List.count_singleton]
  by_cases h : n = (i : Int) + 1
  · rw [if_pos (by simpa using h), if_pos h]
  · rw [if_neg (by simpa using h), if_neg h]
/-- What has been counted. -/
def refD (F : List Int) (m : Nat) : List Int := (List.range m).map fun i => (cntD F i : Int)
theorem refD_len (F : List Int) (m : Nat) : (refD F m).length = m := by simp [refD]
theorem refD_at {F : List Int} {m i : Nat} (h : i < m) : (refD F m).getD i 0 = cntD F i := by simp [refD, List.getD, h]
theorem refD_nil (m : Nat) : refD [] m = List.replicate m 0 := by
  refine List.ext_getElem (by simp [refD]) fun i h1 h2 => ?_
  simp [refD, cntD_nil]
theorem refD_0 (F : List Int) (m : Nat) {n : Int} (h : n ≤ 0) : refD (F ++ [n]) m = refD F m := by
  unfold refD
  refine List.map_congr_left fun i _ => ?_
  rw [cntD_snoc, if_neg (by omega)]
  rfl
theorem refD_s (F : List Int) (m k : Nat) : refD (F ++ [(k : Int) + 1]) m = (refD F m).set k ((refD F m).getD k 0 + 1) := by
  refine List.ext_getElem (by simp [refD]) fun i h1 h2 => ?_
  have hi : i < m := by simpa [refD] using h1
  rw [List.getElem_set]
  by_cases e : k = i
  · subst e
    rw [if_pos rfl, refD_at hi]
    simp [refD, cntD_snoc]
  · rw [if_neg e]
    have : ¬((k : Int) + 1 = (i : Int) + 1) := by omega
    simp only [refD, List.getElem_map, List.getElem_range, cntD_snoc, if_neg this, Nat.add_zero]
/-- The descriptors ahead of a place. -/
def preD (T : List (List Int)) (p i : Nat) : List Int := (T.take p).flatten ++ (T.getD p []).take i
theorem preD_00 (T : List (List Int)) : preD T 0 0 = [] := by simp [preD]
theorem preD_s {T : List (List Int)} {p i : Nat} (h : i < (T.getD p []).length) : preD T p (i + 1) = preD T p i ++ [(T.getD p []).getD i 0] := by
  unfold preD
  rw [List.append_assoc, ← List.take_append_getElem h]
  rw [show (T.getD p []).getD i 0 = (T.getD p [])[i] from getD_get h]
theorem preD_n {T : List (List Int)} {p i : Nat} (hp : p < T.length) (h : (T.getD p []).length = i) : preD T (p + 1) 0 = preD T p i := by
  unfold preD
  rw [← h, List.take_length, ← List.take_append_getElem hp, List.flatten_append, List.take_zero, List.append_nil]
  simp [List.getD, hp]
theorem preD_all {T : List (List Int)} : preD T T.length 0 = T.flatten := by simp [preD]
/-! Right descriptors. -/
structure OkDd (d : Dd) : Prop where
  t1 : 1 ≤ d.t.length
  t8 : d.t.length ≤ 8
  o : d.o.length ≤ 128
  t : ∀ p, p < d.t.length → (d.t.getD p []).length = 16
  n : ∀ p, p < d.t.length → ∀ i, i < 16 → 0 ≤ (d.t.getD p []).getD i 0 ∧ (d.t.getD p []).getD i 0 ≤ d.o.length
  r : ∀ i, i < d.o.length → (d.o.getD i zDs).r = cntD d.t.flatten i ∧ (cntD d.t.flatten i = 0 → d.o.getD i zDs = zDs) ∧ (0 < cntD d.t.flatten i → RtD (d.o.getD i zDs))
  last : d.o.length = 0 ∨ 0 < cntD d.t.flatten (d.o.length - 1)
open Classical in
noncomputable def okD (d : Dd) : Bool := decide (OkDd d)
open Classical in
theorem okD_iff {d : Dd} : okD d = true ↔ OkDd d := by unfold okD; exact decide_eq_true_iff
open Classical in
theorem okD_no {d : Dd} (h : ¬OkDd d) : okD d = false := by unfold okD; exact decide_eq_false h
end Go.Mine
