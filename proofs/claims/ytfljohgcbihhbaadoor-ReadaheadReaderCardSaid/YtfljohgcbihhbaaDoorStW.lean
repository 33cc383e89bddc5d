/- The law's own awake (layer 6): contract. -/
import Derived.Test.YtfljohgcbihhbaaDoorStG
namespace Go.Proofs.YtfljohgcbihhbaaDoor
open Go.RowKit Go.Mine

theorem rowN_nil (w : World) (B : Nat) : RowN 29 w B (.slice none 0 0) [] := ⟨RowE.nil _ _, fun _ => rfl⟩
theorem rowN_one {w : World} {B : Nat} {v : Value} {x : Str} (h : RowN 29 w B v [x]) : ∃ g c, v = .slice (some ⟨g, 0, none⟩) 1 c ∧ g < w.heap.size ∧ ElS w g 0 x := by
  obtain ⟨a, c, rfl, r, -⟩ := h.rd
  obtain ⟨g, rfl, hg, he⟩ := r 0 Nat.zero_lt_one
  exact ⟨g, c, rfl, hg, he⟩
theorem milds0 : Milds [] := fun k hk => absurd hk (Nat.not_lt_zero k)
theorem milds1 {x : Str} (h : Mild x) : Milds [x] := fun k hk => by
  have : k = 0 := by simp at hk; omega
  subst this; exact h
end Go.Proofs.YtfljohgcbihhbaaDoor
