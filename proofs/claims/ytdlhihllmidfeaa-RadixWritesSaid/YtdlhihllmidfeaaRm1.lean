/- The reference's power and heightFor; rows of entries. -/
import Derived.Test.YtdlhihllmidfeaaRx14
namespace Go.Proofs.Ytdlhihllmidfeaa
open Go.RowKit Go.Mine

set_option maxHeartbeats 2000000 in
theorem power_q (h : Nat) (w : World) (hh : h ≤ 10) : Calls Try.prog 68 #[.int .i64 h] w (RetS (.int .i64 (p4 h : Nat)) w) := by
  have hb : p4 h ≤ 1048576 := Nat.le_trans (p4_mono hh) (by decide)
  have HB := Lib.hid hb
  clear hb
  go_enter Try.func68, Try.ntmps68
  go_wp2
  go_loopw [3, 4] (fun t i wr => ∃ k : Nat, i = .int .i64 k ∧ t = .int .i64 (p4 k : Nat) ∧ k ≤ h ∧ wr = w) (fun _ i _ => h - (intOf i).toNat)
  case atStart => exact ⟨0, rfl, rfl, by omega, rfl⟩
  case round =>
    obtain ⟨k, rfl, rfl, hk, rfl⟩ := hrel
    by_cases hlt : k < h
    · have hP : p4 k ≤ 1048576 := Nat.le_trans (p4_mono (Nat.le_of_lt hlt)) HB.out
      have HP4 := Lib.hid (show p4 (k + 1) = 4 * p4 k from rfl)
      generalize p4 k = P at *
      have hmul : wrap64 ((P : Int) * 4) = ((4 * P : Nat) : Int) := by rw [show (P : Int) * 4 = ((4 * P : Nat) : Int) from by omega]; exact IntWalk.wrap64_in _ (by omega)
      go_wp2
      go_roundw
      case rel => exact ⟨k + 1, by go_num, by rw [HP4.out]; first | rfl | (congr 1; omega), by omega, by first | rfl | trivial⟩
      case measure => simp [intOf]; omega
    · have hk2 : k = h := by omega
      subst hk2
      go_wp2
      go_ret
      exact ⟨rfl, rfl⟩
/-- The least height that the index i needs. -/
def hF (i : Nat) : Nat := if i < 1 then 0 else if i < 4 then 1 else if i < 16 then 2 else if i < 64 then 3 else 4
theorem hF_le (i : Nat) : hF i ≤ 4 := by unfold hF; repeat' split <;> try omega
theorem hF_lt {i : Nat} (hi : i < 256) : i < p4 (hF i) := by
  unfold hF
  repeat' split
  · show i < 1; omega
  · show i < 4; omega
  · show i < 16; omega
  · show i < 64; omega
  · exact hi
theorem hF_ge {i q : Nat} (hq : q < hF i) : p4 q ≤ i := by
  have h : (q = 0 ∧ 1 ≤ i) ∨ (q = 1 ∧ 4 ≤ i) ∨ (q = 2 ∧ 16 ≤ i) ∨ (q = 3 ∧ 64 ≤ i) := by
    unfold hF at hq
    repeat' split at hq
    all_goals omega
  rcases h with ⟨rfl, h⟩ | ⟨rfl, h⟩ | ⟨rfl, h⟩ | ⟨rfl, h⟩ <;> exact h
set_option maxHeartbeats 2000000 in
theorem heightFor_q (i : Nat) (w : World) (hi : i < 256) : Calls Try.prog 48 #[.int .i64 i] w (RetS (.int .i64 (hF i : Nat)) w) := by
  have H1 := Lib.hid (hF_lt hi)
  have H2 := Lib.hid (fun q hq => hF_ge (i := i) (q := q) hq)
  have h4 := hF_le i
  generalize hF i = H at *
  go_enter Try.func48, Try.ntmps48
  go_wp2
  go_loopw [3] (fun t wr => ∃ q : Nat, t = .int .i64 q ∧ q ≤ H ∧ wr = w) (fun t _ => 5 - (intOf t).toNat)
  case atStart => exact ⟨0, rfl, by omega, rfl⟩
  case round =>
    obtain ⟨q, rfl, hq, rfl⟩ := hrel
    by_cases hlt : q < H
    · have hP := H2.out q hlt
      go_wp2_with fail
      with_reducible refine (power_q q _ (by omega)).mono ?_
      rintro e w1 ⟨rfl, rfl⟩
      generalize p4 q = P at *
      go_wp2_with fail
      go_roundw
      case rel => exact ⟨q + 1, by go_num, by omega, by first | rfl | trivial⟩
      case measure => simp [intOf]; omega
    · have hk : q = H := by omega
      subst hk
      have hP := H1.out
      go_wp2_with fail
      with_reducible refine (power_q q _ (by omega)).mono ?_
      rintro e w1 ⟨rfl, rfl⟩
      generalize p4 q = P at *
      go_wp2_with fail
      go_ret
      exact ⟨rfl, rfl⟩
/-- A row of entries as the walk reads it. -/
theorem RowE.ents {T : TypeId} {w : World} {B : Nat} {v : Value} {L : List En} (h : RowE T 3 encE w B v L) : ∃ a n c, v = .slice a n c ∧ n = L.length ∧
    ∀ k, k < n → ∃ g, a = some ⟨g, 0, none⟩ ∧ g < w.heap.size ∧ v.ownBlock = some g ∧ w.cell? ⟨g, k * 3, none⟩ = some (.int .i64 (L.getD k (0, (0, 0))).1) ∧ w.cell? ⟨g, k * 3 + 1, none⟩ = some (.int .i64 (L.getD k (0, (0, 0))).2.1) ∧
      w.cell? ⟨g, k * 3 + 2, none⟩ = some (.int .i64 (L.getD k (0, (0, 0))).2.2) := by
  rcases h.shape encE_len with ⟨rfl, rfl⟩ | ⟨g, cap, rfl, -, hg, -, -, hcell, -⟩
  · exact ⟨none, 0, 0, rfl, rfl, fun k hk => by omega⟩
  · refine ⟨_, _, cap, rfl, rfl, fun k hk => ⟨g, rfl, hg, rfl, ?_, ?_, ?_⟩⟩
    · have := hcell k hk 0 (by omega)
      simpa [encE, List.getD, hk] using this
    · have := hcell k hk 1 (by omega)
      simpa [encE, List.getD, hk] using this
    · have := hcell k hk 2 (by omega)
      simpa [encE, List.getD, hk] using this
end Go.Proofs.Ytdlhihllmidfeaa
