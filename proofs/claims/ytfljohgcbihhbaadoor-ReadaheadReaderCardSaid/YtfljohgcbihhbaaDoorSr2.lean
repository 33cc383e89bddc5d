/- The reference's Matches (layer 6): words. -/
import Derived.Test.YtfljohgcbihhbaaDoorSr1
namespace Go.Proofs.YtfljohgcbihhbaaDoor
open Go.RowKit Go.Mine

def absI (n : Int) : Int := max n (-n)
def strB (x : Str) (a : Int) : Bool := decide ((x.k = 4 ∧ a - x.a = x.d) ∨ (x.k = 1 ∧ ((2 ≤ a - x.a ∧ a - x.a ≤ 8) ∨ (-8 ≤ a - x.a ∧ a - x.a ≤ -2)) ∧ x.b - x.a ≤ absI (a - x.a)))
def lenB (x : Str) (a b : Int) : Bool := strB x a && decide (b - a ≤ absI (a - x.a))
theorem absI_le {l n : Int} : l ≤ absI n ↔ (l ≤ n ∨ l ≤ -n) := by unfold absI; rw [Int.max_def]; split <;> omega
theorem sd_len {x : Str} {a b : Int} (h0 : rgtB x = true) (hab : a < b): sdB x a b = lenB x a b := by
  have h := rgt_true h0
  unfold RgtP AccP StpP at h
  rw [Bool.eq_iff_iff]
  simp only [sdB, lenB, strB, decide_eq_true_eq, Bool.and_eq_true]
  unfold StpP
  simp only [absI_le]
  obtain ⟨h1, -, -, -, -, -, h⟩ := h
  have hr : 0 < x.b - x.a := by omega
  have hs : 0 < b - a := by omega
  clear h1 hab
  generalize a - x.a = q
  generalize x.b - x.a = r at *
  generalize b - a = s at *
  rcases h with ⟨h, -⟩ | ⟨h, h'⟩
  · constructor
    · rintro ⟨h1 | h1, h2, h3⟩
      · exact ⟨.inr ⟨h1, by omega, by omega⟩, by omega⟩
      · omega
    · rintro ⟨⟨h1, -⟩ | ⟨h1, h2, h3⟩, h4⟩
      · omega
      · exact ⟨.inl h1, by omega, by omega⟩
  · constructor
    · rintro ⟨h1 | h1, h2, h3⟩
      · omega
      · exact ⟨.inl h1, by omega⟩
    · rintro ⟨h1 | ⟨h1, h2, h3⟩, h4⟩
      · have := h1.2
        subst this
        exact ⟨.inr h1, by omega, by omega⟩
      · omega
def CutW (w : World) (v : Value) (u : Value) (wx : World) : Prop := u = v ∧ w = wx
def CutV (w : World) (v v' : Value) (u u' : Value) (wx : World) : Prop := u = v ∧ u' = v' ∧ w = wx
def CutO (w _w1 : World) (x : Str) (a b : Int) (u : Value) (wx : World) : Prop := ∃ o : Nat, u = .pointer (some ⟨o, 0, none⟩) ∧ w.heap.size + 1 < o ∧
  Own wx o 29 (csS ⟨0, a, b, 0, minH x.h, x.t⟩) ∧ Own wx w.heap.size 29 (csS x) ∧ Own wx (w.heap.size + 1) 29 z6 ∧ Grew w wx

theorem ret_mt {x y : Str} {u v : Bool} (h : x = y ∧ u = v) : Ending.returned (.tuple #[strV y, .bool v]) = .returned (.tuple #[strV x, .bool u]) := by rw [h.1, h.2]
end Go.Proofs.YtfljohgcbihhbaaDoor
