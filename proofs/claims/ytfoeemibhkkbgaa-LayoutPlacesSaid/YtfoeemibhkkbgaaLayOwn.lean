/- The reference's Owner (layer 4). -/
import Derived.Test.YtfoeemibhkkbgaaLay
import Derived.Outline
namespace Go.Proofs.Ytfoeemibhkkbgaa
open Go.RowKit Go.Mine

theorem own_ino {n : Int} {s k : Nat} (hs : s < 7) (hk : k < 2) (e : n = inoF s k) : (s : Int) = ownS n ∧ -1 - (k : Int) = ownP n := by
  rw [inoF, if_pos (by omega)] at e
  subst e
  constructor
  · rw [ownS, if_pos (by omega)]; omega
  · rw [ownP, if_pos (by omega), if_pos (by omega)]; omega
theorem own_page {n : Int} {s p k : Nat} (hs : s < 7) (hp : p < 8) (hk : k < 2) (e : n = pagF s p + k) : (s : Int) = ownS n ∧ (p : Int) = ownP n := by
  rw [pagF, if_pos (by omega)] at e
  subst e
  constructor
  · rw [ownS, if_pos (by omega)]; omega
  · rw [ownP, if_pos (by omega), if_neg (by omega)]; omega
theorem ino_bd (s k : Int) : -1 ≤ inoF s k ∧ inoF s k ≤ 128 := by unfold inoF; split <;> omega
theorem pag_bd (s k : Int) : -1 ≤ pagF s k ∧ pagF s k ≤ 128 := by unfold pagF; split <;> omega
theorem ino_at {s k : Nat} (hs : s < 7) (hk : k < 2) : inoF s k = 18 * s + k := by rw [inoF, if_pos (by omega)]; omega
theorem pag_at {s p : Nat} (hs : s < 7) (hk : p < 8) : pagF s p = 18 * s + 2 + 2 * p := by rw [pagF, if_pos (by omega)]; omega

set_option maxHeartbeats 4000000 in
theorem rowner_any (n : Int) (w : World) : Calls Try.prog 10 #[.int .i64 n] w (RetS (.tuple #[.int .i64 (ownS n), .int .i64 (ownP n)]) w) := by
  go_enter Try.func10, Try.ntmps10
  go_wp2
  go_loop [4] (fun i => ∃ s : Nat, s ≤ 7 ∧ i = .int .i64 s ∧ (n < 0 ∨ 18 * (s : Int) ≤ n)) (fun i => 7 - (intOf i).toNat)
  case atStart => exact ⟨0, by omega, rfl, by omega⟩
  case round =>
    obtain ⟨s, hs, rfl, hn⟩ := hrel
    by_cases hlt : s < 7
    · have d7 : decide ((s : Int) < 7) = true := decide_eq_true (by omega)
      go_wp2_with (go_at_call 12; (with_reducible refine (rslots_max _).mono ?_); rintro e w1 ⟨rfl, rfl⟩)
      go_loop [5] (fun i => ∃ k : Nat, k ≤ 2 ∧ i = .int .i64 k ∧ (n < 0 ∨ 18 * (s : Int) + k ≤ n)) (fun i => 2 - (intOf i).toNat)
      case atStart => exact ⟨0, by omega, rfl, by omega⟩
      case round =>
        obtain ⟨k, hk, rfl, hn2⟩ := hrel
        by_cases hlt2 : k < 2
        · have hb := ino_bd s k
          by_cases e : n = inoF s k
          · have EE := Lib.hid (own_ino hlt hlt2 e)
            have b : (n == inoF s k) = true := by simp [e]
            clear e
            go_wp2_with (go_at_call 14; (with_reducible refine (rinode_any _ _ _).mono ?_); rintro e w1 ⟨rfl, rfl⟩)
            go_ret2
            exact ⟨ret_two EE.out.1 EE.out.2, rfl⟩
          · have b : (n == inoF s k) = false := by simpa using e
            have a := ino_at hlt hlt2
            have hn3 : n < 0 ∨ 18 * (s : Int) + (k + 1 : Nat) ≤ n := by omega
            clear e a
            go_wp2_with (go_at_call 14; (with_reducible refine (rinode_any _ _ _).mono ?_); rintro e w1 ⟨rfl, rfl⟩)
            go_round
            case rel => exact ⟨k + 1, by omega, by go_num, hn3⟩
            case measure => simp [intOf]; omega
        · have hk2 : k = 2 := by omega
          subst hk2
          go_wp2
          go_loop [6] (fun i => ∃ p : Nat, p ≤ 8 ∧ i = .int .i64 p ∧ (n < 0 ∨ 18 * (s : Int) + 2 + 2 * p ≤ n)) (fun i => 8 - (intOf i).toNat)
          case atStart => exact ⟨0, by omega, rfl, by omega⟩
          case round =>
            obtain ⟨p, hp, rfl, hn4⟩ := hrel
            by_cases hlt3 : p < 8
            · have d8 : decide ((p : Int) < 8) = true := decide_eq_true (by omega)
              go_wp2
              go_loop [7] (fun i => ∃ j : Nat, j ≤ 2 ∧ i = .int .i64 j ∧ (n < 0 ∨ 18 * (s : Int) + 2 + 2 * p + j ≤ n)) (fun i => 2 - (intOf i).toNat)
              case atStart => exact ⟨0, by omega, rfl, by omega⟩
              case round =>
                obtain ⟨j, hj, rfl, hn5⟩ := hrel
                by_cases hlt4 : j < 2
                · have hb := pag_bd s p
                  by_cases e : n = pagF s p + j
                  · have EE := Lib.hid (own_page hlt hlt3 hlt4 e)
                    have b : (n == pagF s p + j) = true := by simp [e]
                    clear e
                    go_wp2_with (go_at_call 16; (with_reducible refine (rpage_any _ _ _).mono ?_); rintro e w1 ⟨rfl, rfl⟩)
                    go_ret2
                    exact ⟨ret_two EE.out.1 EE.out.2, rfl⟩
                  · have b : (n == pagF s p + j) = false := by simpa using e
                    have a := pag_at hlt hlt3
                    have hn6 : n < 0 ∨ 18 * (s : Int) + 2 + 2 * p + (j + 1 : Nat) ≤ n := by omega
                    clear e a
                    go_wp2_with (go_at_call 16; (with_reducible refine (rpage_any _ _ _).mono ?_); rintro e w1 ⟨rfl, rfl⟩)
                    go_round
                    case rel => exact ⟨j + 1, by omega, by go_num, hn6⟩
                    case measure => simp [intOf]; omega
                · have hj2 : j = 2 := by omega
                  subst hj2
                  go_wp2
                  go_round
                  case rel => exact ⟨p + 1, by omega, by go_num, by omega⟩
                  case measure => simp [intOf]; omega
            · have hp2 : p = 8 := by omega
              subst hp2
              go_wp2
              go_round
              case rel => exact ⟨s + 1, by omega, by go_num, by omega⟩
              case measure => simp [intOf]; omega
    · have hs7 : s = 7 := by omega
      subst hs7
      have hno : ¬ (0 ≤ n ∧ n ≤ 125) := by omega
      go_wp2_with (go_at_call 12; (with_reducible refine (rslots_max _).mono ?_); rintro e w1 ⟨rfl, rfl⟩)
      go_ret2
      exact ⟨ret_two (by rw [ownS, if_neg hno]) (by rw [ownP, if_neg hno]), rfl⟩
end Go.Proofs.Ytfoeemibhkkbgaa
