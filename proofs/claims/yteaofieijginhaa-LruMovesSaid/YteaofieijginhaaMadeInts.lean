/- Ints of the made states: some integers of a range. -/
import Derived.Test.YteaofieijginhaaTape
import Derived.Test.YteaofieijginhaaRows2
namespace Go.Proofs.Yteaofieijginhaa
open Go.RowKit Go.Mine

theorem info_int : (Try.prog.info? 3).map (fun i => (i.zero, i.size, i.bytes)) = some (some (.int .i64 0), 1, 8) := by kernel_rfl
/-- It returns some integers from lo to lo + n - 1, at most 'most' of them, in a new row. -/
def RetL (most lo n : Int) (B b : Nat) (w : World) (e : Ending) (w' : World) : Prop := ∃ v xs, e = .returned v ∧ xs.length ≤ most.toNat ∧ (∀ x ∈ xs, lo ≤ x ∧ x < lo + n) ∧ RowE 3 1 enc1 w' w.heap.size v xs ∧ Tp B w' b ∧ w.grownBy w' (some b)

set_option maxHeartbeats 2000000 in
theorem ints_x (B b : Nat) (most lo n : Int) (w : World) (m0 : 0 ≤ most) (m1 : most ≤ 1000) (l0 : -1000 ≤ lo) (l1 : lo ≤ 1000) (h0 : 1 ≤ n) (h1 : n ≤ 100000) (ht : Tp B w b) (hbw : B ≤ w.heap.size) :
    Calls Try.prog 24 #[.pointer (some ⟨b, 0, none⟩), .int .i64 most, .int .i64 lo, .int .i64 n] w (RetL most lo n B b w) := by
  have hb := ht.ltB
  go_enter Try.func24, Try.ntmps24
  go_wp2_with fail
  with_reducible refine (next_x _ _ _ _ (by omega) (by omega) ht).mono ?_
  rintro e w1 ⟨q, q0, q1, rfl, T1, g1⟩
  obtain ⟨m, rfl⟩ := Int.eq_ofNat_of_zero_le q0
  go_wp2_with fail
  go_loopw [9, 10] (fun v k wr => ∃ (N : Nat) (xs : List Int) (r : Value), r = v ∧ k = .int .i64 N ∧ N + xs.length ≤ most.toNat ∧ (∀ x ∈ xs, lo ≤ x ∧ x < lo + n) ∧ RowE 3 1 enc1 wr w.heap.size r xs ∧ Tp B wr b ∧ w.grownBy wr (some b)) (fun _ k _ => (intOf k).toNat)
  case atStart => exact ⟨m, [], _, rfl, rfl, by simp; omega, by simp, RowE.nil _ _, T1, g1⟩
  case round =>
    obtain ⟨N, xs, v, rfl, rfl, hN, hxs, R, T, g⟩ := hrel
    have hxs := Lib.hid hxs
    have hsz := g.size
    by_cases hp : 0 < N
    · go_wp2_with fail
      with_reducible refine (next_x _ _ _ _ (by omega) (by omega) T).mono ?_
      rintro e w2 ⟨q, q0, q1, rfl, T2, g2⟩
      have R2 := R.past g2 (by omega)
      have G2 := grown_trans g g2
      have z2 := G2.size
      clear R T g g2 T1 g1
      have hx6 : xs.length < 1000000 := by omega
      have hz6 : ∀ o, w.heap.size ≤ (w2.alloc o).heap.size := fun o => by simp; omega
      go_wp2_with (at_builtin; go_loud (refine wpList_append_row _ rfl _ _ 22 rfl w.heap.size info_int Try.underlying22 (by decide) (by decide) enc1_len v xs rfl (R2.alloc _) _ _ (lo + q) rfl (Own.new _ _ _) enc1_one hx6 (by decide) (hz6 _) ?_; intro g3 cap w3 R3 G3 o3))
      have e3 : v.ownBlock = none ∨ ∃ x, v.ownBlock = some x ∧ w.heap.size ≤ x := by
        cases hv : v.ownBlock with
        | none => exact .inl rfl
        | some x => exact .inr ⟨x, rfl, R2.above x hv⟩
      clear o3
      go_roundw
      case rel =>
        refine ⟨N - 1, xs ++ [lo + q], _, rfl, by go_num, by simp; omega, ?_, R3, ?_, ?_⟩
        · intro x hx
          rcases List.mem_append.1 hx with hx | hx
          · exact hxs.out x hx
          · simp at hx
            omega
        · exact Tp.keptA (T2.alloc _) G3 (B := w.heap.size) (fun x e => R2.above x e) hbw
        · exact grown_above (grown_alloc G2 _) G3 (fun x e => R2.above x e)
      case measure => simp [intOf]; omega
    · have hN0 : N = 0 := by omega
      subst hN0
      go_wp2
      go_ret
      exact ⟨v, xs, rfl, by omega, hxs.out, R, T, g⟩
end Go.Proofs.Yteaofieijginhaa
