/- Zones (layer 10): for the laws: what New gives is small and right; contracts with their answers as letters. -/
import Derived.Test.YtphccdfdknihdaaZp11
import Derived.Test.YtphccdfdknihdaaOdd
import Derived.Test.YtphccdfdknihdaaZr4
namespace Go.Mine
open Go Go.RowKit
theorem newG_rt : ∀ {S : List Int} {nx : Int} {L : List Zo}, newG nx S = some L → RtZ nx L ∧ L.length = S.length
  | [], nx, L, h => by
    have : L = [] := by simpa [newG] using h.symm
    subst this
    exact ⟨trivial, rfl⟩
  | n :: S, nx, L, h => by
    unfold newG at h
    by_cases hc : 1 ≤ n ∧ n ≤ 65 - nx
    · rw [if_pos hc] at h
      cases hg : newG (nx + n) S with
      | none => rw [hg] at h; cases h
      | some M =>
        rw [hg] at h
        have : L = mkZ nx n :: M := by simpa using h.symm
        subst this
        obtain ⟨h1, h2⟩ := newG_rt hg
        exact ⟨⟨mkZ_ok hc.1 hc.2, h1⟩, by simp [h2]⟩
    · rw [if_neg hc] at h; cases h
theorem SmZ_nil : SmZ [] := ⟨by simp, fun k hk => absurd hk (by simp)⟩
theorem newX_cases (S : List Int) : ((newX S).1 = [] ∧ ¬(newX S).2 = 0) ∨ (okB (newX S).1 = true ∧ (newX S).2 = 0 ∧ (newX S).1.length = S.length ∧ newG 1 S = some (newX S).1) := by
  cases S with
  | nil => exact .inl ⟨rfl, by decide⟩
  | cons s S =>
    cases hg : newG 1 (s :: S) with
    | none =>
      have e : newX (s :: S) = ([], 2) := by unfold newX; rw [hg]
      rw [e]
      exact .inl ⟨rfl, by decide⟩
    | some L =>
      have e : newX (s :: S) = (L, 0) := by unfold newX; rw [hg]
      rw [e]
      obtain ⟨h1, h2⟩ := newG_rt hg
      exact .inr ⟨okB_iff.2 ⟨by show 0 < L.length; rw [h2]; simp, h1⟩, rfl, h2, rfl⟩
theorem newX_small (S : List Int) : SmZ (newX S).1 := by
  rcases newX_cases S with ⟨h, -⟩ | ⟨h, -⟩
  · rw [h]; exact SmZ_nil
  · exact ok_small h
end Go.Mine
namespace Go.Proofs.Ytphccdfdknihdaa
open Go.RowKit Go.Mine
theorem new_v {p : Nat → Prop} {a : Option Addr} {c n : Nat} {S : List Int} {w : World} (h : RdI w p a n S) (hs : S.length ≤ 1000) : Calls Try.prog 26 #[.slice a n c] w fun e w' => ∃ v, e = .returned (.tuple #[v, .int .i64 (newX S).2]) ∧ ZsR w' (pN pF w.heap.size) v (newX S).1 ∧ Grew w w' := (new_p h hs).mono fun _ _ h => h
theorem new_w {p : Nat → Prop} {a : Option Addr} {c n : Nat} {S : List Int} {w : World} (h : RdI w p a n S) (hs : S.length ≤ 1000) : Calls Try.prog 27 #[.slice a n c] w fun e w' => ∃ v, e = .returned (.tuple #[v, .int .i64 (newX S).2]) ∧ ZsR w' (pN pF w.heap.size) v (newX S).1 ∧ Grew w w' := by
  obtain rfl := h.1
  exact (new_q h hs).mono fun _ _ h => h
end Go.Proofs.Ytphccdfdknihdaa
