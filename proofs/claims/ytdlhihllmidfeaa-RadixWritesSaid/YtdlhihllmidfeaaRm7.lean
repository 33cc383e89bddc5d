/- What the entries of a tree are, as a list: plain mathematics. -/
import Derived.Test.YtdlhihllmidfeaaRm5
namespace Go.Proofs.Ytdlhihllmidfeaa
open Go.RowKit Go.Mine

/-- The entries with an index below n, in ascending order. -/
def entS (f : Fen) (first : Int) : Nat → List En
  | 0 => []
  | k + 1 => entS f first k ++ (if (f k).1 = 0 then [] else [(first + (k : Nat), f k)])
theorem entS_add (f : Fen) (first : Int) (a : Nat) : ∀ b, entS f first (a + b) = entS f first a ++ entS (fun i => f (a + i)) (first + (a : Nat)) b
  | 0 => by simp [entS]
  | b + 1 => by
    rw [← Nat.add_assoc, entS, entS_add f first a b, entS, List.append_assoc]
    congr 3
    rw [show first + ((a + b : Nat) : Int) = first + (a : Nat) + (b : Nat) from by omega]
theorem entR_S : ∀ (h : Nat) (f : Fen) (first : Int), entR h f first = entS f first (p4 h)
  | 0, f, first => by
    unfold entR
    rw [show p4 0 = 0 + 1 from rfl, entS, entS, List.nil_append]
    unfold valB
    by_cases e : (f 0).1 = 0
    · rw [decide_eq_true e, if_pos e]
    · rw [decide_eq_false e, if_neg e]; simp
  | h + 1, f, first => by
    unfold entR
    rw [entR_S h, entR_S h, entR_S h, entR_S h, show p4 (h + 1) = p4 h + p4 h + p4 h + p4 h from by show 4 * p4 h = _; omega, entS_add, entS_add, entS_add]
    congr 1
    · congr 1
      · congr 1
        · congr 1
          funext i; unfold sub; congr 1; omega
        · congr 1
          · funext i; unfold sub; congr 1; omega
          · omega
      · congr 1
        · funext i; unfold sub; congr 1; omega
        · omega
    · congr 1
      · funext i; unfold sub; congr 1; omega
      · omega
theorem entS_mem {f : Fen} {first : Int} {e : En} : ∀ {n : Nat}, e ∈ entS f first n → ∃ i, i < n ∧ e = (first + (i : Nat), f i) ∧ (f i).1 ≠ 0
  | n + 1, h => by
    rw [entS, List.mem_append] at h
    rcases h with h | h
    · obtain ⟨i, hi, e, hn⟩ := entS_mem h
      exact ⟨i, by omega, e, hn⟩
    · by_cases e0 : (f n).1 = 0
      · rw [if_pos e0] at h; exact absurd h (by simp)
      · rw [if_neg e0, List.mem_singleton] at h
        exact ⟨n, by omega, h, e0⟩
theorem ent_at {h : Nat} {f : Fen} {i : Nat} (hi : i < (entR h f 0).length) : ∃ j : Nat, j < p4 h ∧ (entR h f 0).getD i (0, (0, 0)) = ((j : Int), f j) ∧ (f j).1 ≠ 0 := by
  have hm : (entR h f 0).getD i (0, (0, 0)) ∈ entS f 0 (p4 h) := by
    rw [← entR_S]; simp [List.getD, hi]
  obtain ⟨j, hj, e, hn⟩ := entS_mem hm
  exact ⟨j, hj, by rw [e, Int.zero_add], hn⟩
end Go.Proofs.Ytdlhihllmidfeaa
