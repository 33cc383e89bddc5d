/- The small functions of package radix. -/
import Derived.Test.YtdlhihllmidfeaaRad
import Derived.Test.YtdlhihllmidfeaaRows
import Derived.Deep.QuietTactic
import Derived.BigQuiet
import Derived.IntWalk
namespace Go.Proofs.Ytdlhihllmidfeaa
open Go.RowKit Go.Mine

abbrev nodeV (s : Value) (x m : Int) : Value := .agg #[s, .int .i64 x, .int .i64 m]
def emptyB (n : Nat) (x m : Int) : Bool := decide (n = 0 ∧ x = 0 ∧ m = 0)
theorem isEmpty_any (a : Option Addr) (n c : Nat) (x m : Int) (w : World) : Calls Try.prog 63 #[nodeV (.slice a n c) x m] w (RetG (.bool (emptyB n x m)) w) := by
  go_enter Try.func63, Try.ntmps63
  go_wp2
  all_goals
    go_ret
    refine ⟨ret_bool ?_, (Grew.refl _).alloc _⟩
    unfold emptyB
    first | (symm; rw [decide_eq_false_iff_not]; omega) | (rw [Bool.eq_iff_iff]; simp; omega)
/-- isEmpty at a subtree. -/
theorem isEmpty_f (h : Nat) (f : Fen) (s : Value) (x m : Int) (p : Nat → Prop) (w : World) (n : NodeF w p h f s x m) (hf : GoodF f) : Calls Try.prog 63 #[nodeV s x m] w (RetG (.bool (emp h f)) w) := by
  rcases n.show_ hf with ⟨e, rfl, rfl, a, c, rfl⟩ | ⟨e, -, -, a, j, c, rfl, hj⟩
  · rw [e]
    exact (isEmpty_any a 0 c 0 0 w).mono fun _ _ ⟨h1, h2⟩ => ⟨h1.trans (by rfl), h2⟩
  · rw [e]
    refine (isEmpty_any a j c x m w).mono fun _ _ ⟨h1, h2⟩ => ⟨h1.trans (ret_bool ?_), h2⟩
    unfold emptyB
    rw [decide_eq_false_iff_not]
    rcases hj with ⟨-, -, -, -, hx⟩ | ⟨-, hj, -⟩
    · exact fun e => hx e.2.1
    · exact fun e => by omega
/-- It returns a node that is a subtree. -/
def RetNd (h : Nat) (f : Fen) (p : Nat → Prop) (w : World) (e : Ending) (w' : World) : Prop := ∃ s x m, e = .returned (nodeV s x m) ∧ NodeF w' p h f s x m ∧ Grew w w'
set_option maxHeartbeats 1000000 in
theorem kid_f (h : Nat) (f : Fen) (s : Value) (x m : Int) (k : Nat) (p : Nat → Prop) (w : World) (n : NodeF w p (h + 1) f s x m) (hk : k < 4) : Calls Try.prog 66 #[nodeV s x m, .int .i64 k] w (RetNd h (sub h f k) p w) := by
  have HN := Lib.hid n
  obtain ⟨rfl, n2, ⟨e, a, c, rfl⟩ | ⟨e, g, c, rfl, hg, hkid⟩⟩ := n
  · have E := Lib.hid (emp_sub e hk)
    clear e n2
    go_enter Try.func66, Try.ntmps66
    have O2 := Own.new2 w (.cells #[.slice a 0 c, .int .i64 0, .int .i64 m] 26) 26 #[.slice none 0 0, .int .i64 0, .int .i64 0]
    go_wp2
    obtain ⟨b0, b1, b2, b3, b4, b5⟩ := O2.three
    refine bodyPost_ret (v := nodeV (.slice none 0 0) 0 0) (by simp [results, Try.results66, go_sem, b0, b1, b2]) rfl ?_
    exact ⟨_, _, _, rfl, NodeF.empty _ E.out _ _, ((Grew.refl _).alloc _).alloc _⟩
  · obtain ⟨s', x', m', c0, c1, c2, n'⟩ := hkid k hk
    obtain ⟨a', j', c', rfl⟩ := n'.slice
    have N' := Lib.hid n'
    have hlt := World.block_lt_of_cell? w _ c0
    have hk0 : (0 : Int) ≤ (k : Int) := by omega
    have hk1 : (k : Int) < 4 := by omega
    clear n' hkid n2 e hg
    go_enter Try.func66, Try.ntmps66
    go_wp2
    obtain ⟨b0, b1, b2, b3, b4, b5⟩ := (Own.new2 w (.cells #[.slice (some ⟨g, 0, none⟩) 4 c, .int .i64 0, .int .i64 m] 26) 26 #[.slice a' j' c', .int .i64 x', .int .i64 m']).three
    have GE := ((Grew.refl w).alloc (.cells #[.slice (some ⟨g, 0, none⟩) 4 c, .int .i64 0, .int .i64 m] 26)).alloc (.cells #[.slice a' j' c', .int .i64 x', .int .i64 m'] 26)
    refine bodyPost_ret (v := nodeV (.slice a' j' c') x' m') (by simp [results, Try.results66, go_sem, b0, b1, b2]) rfl ?_
    exact ⟨_, _, _, rfl, N'.out.grew GE, GE⟩
theorem nxt (k : Nat) (h : k < 4) : IntKind.i64.wrap ((k : Int) + 1) = (k : Int) + 1 := IntWalk.i64_in _ (by omega)
/-- Whether no kid from the second up to the kid k has an entry. -/
def onlyB (h : Nat) (f : Fen) : Bool := emp h (sub h f 1) && emp h (sub h f 2) && emp h (sub h f 3)
theorem onlyFirst_f (h : Nat) (f : Fen) (s : Value) (x m : Int) (p : Nat → Prop) (w : World) (n : NodeF w p (h + 1) f s x m) (hf : GoodF f) : Calls Try.prog 45 #[nodeV s x m] w (RetG (.bool (onlyB h f)) w) := by
  have HN := Lib.hid n
  have HF := Lib.hid hf
  obtain ⟨a, j, c, rfl⟩ := n.slice
  clear n hf
  go_enter Try.func45, Try.ntmps45
  have O := Own.new w 26 #[.slice a j c, .int .i64 x, .int .i64 m]
  have G := (Grew.refl w).alloc (.cells #[.slice a j c, .int .i64 x, .int .i64 m] 26)
  go_wp2_with fail
  go_loopw [3] (fun i wr => ∃ k : Nat, i = .int .i64 k ∧ 1 ≤ k ∧ k ≤ 4 ∧ (∀ j, 1 ≤ j → j < k → emp h (sub h f j) = true) ∧ Own wr w.heap.size 26 #[.slice a j c, .int .i64 x, .int .i64 m] ∧ Grew w wr) (fun i _ => 4 - (intOf i).toNat)
  case atStart => exact ⟨1, rfl, by omega, by omega, fun j _ _ => by omega, O, G⟩
  case round =>
    clear O G
    obtain ⟨k, rfl, hk1, hk4, he, O, G⟩ := hrel
    have HE := Lib.hid he
    clear he
    obtain ⟨O0, O1, O2, O3, O4, O5⟩ := O.three
    by_cases hlt : k < 4
    · go_wp2_with fail
      with_reducible refine (kid_f h f _ _ _ k p _ (HN.out.grew G) hlt).mono ?_
      rintro e w1 ⟨s1, x1, m1, rfl, n1, g1⟩
      go_wp2_with fail
      with_reducible refine (isEmpty_f h _ s1 x1 m1 p _ n1 (HF.out.sub _ _)).mono ?_
      rintro e w2 ⟨rfl, g2⟩
      replace O := O.grew (g1.trans g2)
      replace G := G.trans (g1.trans g2)
      have HK := Lib.hid (show emp h (sub h f k) = true → ∀ j, 1 ≤ j → j < k + 1 → emp h (sub h f j) = true from fun e j h1 h2 => by
        by_cases hj : j = k
        · rw [hj]; exact e
        · exact HE.out j h1 (by omega))
      have HO := Lib.hid (show emp h (sub h f k) = false → onlyB h f = false from fun e => by
        have : k = 1 ∨ k = 2 ∨ k = 3 := by omega
        unfold onlyB
        rcases this with rfl | rfl | rfl <;> simp [e])
      generalize emp h (sub h f k) = eb at *
      cases eb
      · go_wp2_with fail
        go_ret
        exact ⟨ret_bool (HO.out (by simp)).symm, G⟩
      · go_wp2_with fail
        go_roundw
        case rel => exact ⟨k + 1, by go_num, by omega, by omega, HK.out (by simp), O, G⟩
        case measure => simp [intOf]; omega
    · have hk : k = 4 := by omega
      subst hk
      go_wp2_with fail
      go_ret
      refine ⟨ret_bool ?_, G⟩
      unfold onlyB
      rw [HE.out 1 (by omega) (by omega), HE.out 2 (by omega) (by omega), HE.out 3 (by omega) (by omega)]
      rfl
end Go.Proofs.Ytdlhihllmidfeaa
