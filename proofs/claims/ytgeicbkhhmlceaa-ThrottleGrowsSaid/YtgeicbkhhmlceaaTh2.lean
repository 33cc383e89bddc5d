/- awake of layer 14: it answers true; five arguments; what the laws need of pauses. -/
import Derived.Test.YtgeicbkhhmlceaaTh1
import Derived.Test.YtgeicbkhhmlceaaOdd
namespace Go.Mine
open Go Go.RowKit
theorem args_4 {H : Type} {enc : TypeId × Value → H} {P : Program} {W : World} {t u x y : TypeId} {args : Array Value} {ds : List (DataW H)} {p : List MemPlace}
    (h : DataW.TrodAll enc P W 0 (fun _ => true) true (#[t, u, x, y] : Array TypeId).toList args.toList ds p) :
    ∃ v v' v2 v3 d d' d2 d3 p1 p2 p3 p4, args = #[v, v', v2, v3] ∧ ds = [d, d', d2, d3] ∧ p = p1 ++ (p2 ++ (p3 ++ p4)) ∧ DataW.Trod enc P W 0 (fun _ => true) true t v d p1 ∧ DataW.Trod enc P W 0 (fun _ => true) true u v' d' p2 ∧
      DataW.Trod enc P W 0 (fun _ => true) true x v2 d2 p3 ∧ DataW.Trod enc P W 0 (fun _ => true) true y v3 d3 p4 := by
  obtain ⟨l⟩ := args
  obtain ⟨v, vs, d, ds', p1, q, e1, rfl, rfl, h1, h2⟩ := args_cons h
  obtain ⟨v', vs', d', ds2, p2, q2, e2, rfl, rfl, h3, h4⟩ := args_cons h2
  obtain ⟨v2, vs2, d2, ds3, p3, q3, e3, rfl, rfl, h5, h6⟩ := args_cons h4
  obtain ⟨v3, vs3, d3, ds4, p4, q4, e4, rfl, rfl, h7, h8⟩ := args_cons h6
  obtain ⟨rfl, rfl⟩ := args_nil h8
  have e5 : l = [v, v', v2, v3] := by simpa [e2, e3, e4] using e1
  subst e5
  have hq : q4 = [] := h8
  subst hq
  exact ⟨v, v', v2, v3, d, d', d2, d3, p1, p2, p3, p4 ++ [], rfl, rfl, rfl, h1, h3, h5, by rw [List.append_nil]; exact h7⟩
theorem args_5 {H : Type} {enc : TypeId × Value → H} {P : Program} {W : World} {t u x y z : TypeId} {args : Array Value} {ds : List (DataW H)} {p : List MemPlace}
    (h : DataW.TrodAll enc P W 0 (fun _ => true) true (#[t, u, x, y, z] : Array TypeId).toList args.toList ds p) :
    ∃ v v' v2 v3 v4 d d' d2 d3 d4 p1 p2 p3 p4 p5, args = #[v, v', v2, v3, v4] ∧ ds = [d, d', d2, d3, d4] ∧ p = p1 ++ (p2 ++ (p3 ++ (p4 ++ p5))) ∧ DataW.Trod enc P W 0 (fun _ => true) true t v d p1 ∧ DataW.Trod enc P W 0 (fun _ => true) true u v' d' p2 ∧
      DataW.Trod enc P W 0 (fun _ => true) true x v2 d2 p3 ∧ DataW.Trod enc P W 0 (fun _ => true) true y v3 d3 p4 ∧ DataW.Trod enc P W 0 (fun _ => true) true z v4 d4 p5 := by
  obtain ⟨l⟩ := args
  obtain ⟨v, vs, d, ds', p1, q, e1, rfl, rfl, h1, h2⟩ := args_cons h
  obtain ⟨v', vs', d', ds2, p2, q2, e2, rfl, rfl, h3, h4⟩ := args_cons h2
  obtain ⟨v2, vs2, d2, ds3, p3, q3, e3, rfl, rfl, h5, h6⟩ := args_cons h4
  obtain ⟨v3, vs3, d3, ds4, p4, q4, e4, rfl, rfl, h7, h8⟩ := args_cons h6
  obtain ⟨v4, vs4, d4, ds5, p5, q5, e5, rfl, rfl, h9, h10⟩ := args_cons h8
  obtain ⟨rfl, rfl⟩ := args_nil h10
  have e6 : l = [v, v', v2, v3, v4] := by simpa [e2, e3, e4, e5] using e1
  subst e6
  have hq : q5 = [] := h10
  subst hq
  exact ⟨v, v', v2, v3, v4, d, d', d2, d3, d4, p1, p2, p3, p4, p5 ++ [], rfl, rfl, rfl, h1, h3, h5, h7, by rw [List.append_nil]; exact h9⟩
theorem qT_mono {a b n : Int} (h : a ≤ b) (hn : 0 < n) : qT b n ≤ qT a n := by
  unfold qT
  exact Int.ediv_le_ediv hn (by omega)
/-- A pause is from 0 to the longest one. -/
theorem uT_b (d n r k : Int) : 0 ≤ uT d n r k ∧ uT d n r k ≤ 64 := by
  rcases uT_ways d n r k with ⟨e, -⟩ | ⟨e, -⟩ | ⟨e, -⟩ | ⟨e, -⟩ | ⟨e, -⟩ | ⟨e, -⟩ | ⟨e, -⟩ | ⟨e, h1, h2, h3, h4, h5, h6, h7⟩
  any_goals (rw [e]; omega)
  rw [e]
  have p0 := (pT_b d n).1
  have m0 : 1 ≤ miT r 1000000 := by unfold miT; omega
  have s0 : 0 < miT r 1000000 * pT d n := Int.mul_pos (by omega) (by omega)
  have c0 := cdT_n (a := k * 65536) (by have := (cT_iff.1 h3).1; omega) s0
  unfold miT at *
  omega
/-- In one place: more pages or a lower rate, no shorter pause; more dirty pages, no shorter pause. -/
theorem uT_mono {a b n r s k l : Int} (a0 : 0 ≤ a) (b1 : b ≤ 64) (n0 : 0 ≤ n) (n1 : n ≤ 64) (k0 : 0 ≤ k) (l1 : l ≤ 64) (s0 : 1 ≤ s) (hab : a ≤ b) (hkl : k ≤ l) (hsr : s ≤ r) : uT a n r k ≤ uT b n s l := by
  have ca : cT a = true := cT_t a0 (by omega)
  have cb : cT b = true := cT_t (by omega) b1
  have cn : cT n = true := cT_t n0 n1
  have ck : cT k = true := cT_t k0 (by omega)
  have cl : cT l = true := cT_t (by omega) l1
  have hu := uT_b a n r k
  have hv := uT_b b n s l
  rcases uT_ways b n s l with ⟨e, h⟩ | ⟨e, -, h⟩ | ⟨e, -, -, h⟩ | ⟨e, -, -, -, h⟩ | ⟨e, -, -, -, -, h⟩ | ⟨e, -, -, -, -, h, h'⟩ | ⟨e, -⟩ | ⟨e, -, -, -, -, hf, hl, hp⟩
  · rw [h] at cb; cases cb
  · rw [h] at cn; cases cn
  · rw [h] at cl; cases cl
  · omega
  · have hf := fT_t h
    have hg : fT a n = true := by
      unfold fT
      simp [ca, cn]
      omega
    rcases uT_ways a n r k with ⟨e, h⟩ | ⟨e, -, h⟩ | ⟨e, -, -, h⟩ | ⟨e, -, -, -, h⟩ | ⟨e, -⟩ | ⟨e, -⟩ | ⟨e, -, -, -, -, h, -⟩ | ⟨e, -, -, -, -, h, -⟩
    · rw [h] at ca; cases ca
    · rw [h] at cn; cases cn
    · rw [h] at ck; cases ck
    · omega
    · omega
    · omega
    · rw [h] at hg; cases hg
    · rw [h] at hg; cases hg
  · rcases uT_ways a n r k with ⟨e, h⟩ | ⟨e, -, h⟩ | ⟨e, -, -, h⟩ | ⟨e, -, -, -, h⟩ | ⟨e, -⟩ | ⟨e, -⟩ | ⟨e, -, -, -, -, -, h, -⟩ | ⟨e, -, -, -, -, -, h, -⟩ <;> first | (rw [e]; omega) | (rw [h] at ca; cases ca) | (rw [h] at cn; cases cn) | (rw [h] at ck; cases ck) | omega
  · omega
  · have hbn : b < n := by
      rcases pT_ways b n with ⟨h, -⟩ | ⟨-, h, -⟩ | ⟨-, h, -⟩ | ⟨-, h, -⟩ | ⟨-, -, -, -, h⟩
      · rw [hf] at h; cases h
      · exact absurd h hp
      · exact absurd h hp
      · exact absurd h hp
      · exact h
    have hq : pT b n = qT b n := by
      rcases pT_ways b n with ⟨h, -⟩ | ⟨-, h, -⟩ | ⟨-, h, -⟩ | ⟨-, h, -⟩ | ⟨-, h, -, -, -⟩
      · rw [hf] at h; cases h
      · exact absurd h hp
      · exact absurd h hp
      · exact absurd h hp
      · exact h
    rcases uT_ways a n r k with ⟨e', h⟩ | ⟨e', -, h⟩ | ⟨e', -, -, h⟩ | ⟨e', -, -, -, h⟩ | ⟨e', -⟩ | ⟨e', -⟩ | ⟨e', -, -, -, -, hg, h, h'⟩ | ⟨e', -, -, -, -, hg, hk, hp'⟩
    · rw [h] at ca; cases ca
    · rw [h] at cn; cases cn
    · rw [h] at ck; cases ck
    · omega
    · omega
    · omega
    · have hqa : pT a n = qT a n := by
        rcases pT_ways a n with ⟨h, -⟩ | ⟨-, -, h⟩ | ⟨-, -, -, h⟩ | ⟨-, -, -, -, h⟩ | ⟨-, h, -, -, -⟩
        · rw [hg] at h; cases h
        · rw [h] at ca; cases ca
        · rw [h] at cn; cases cn
        · omega
        · exact h
      have := qT_mono hab (n := n) (by omega)
      have := (qT_b (by omega) n1 hbn).2.2.2.1
      omega
    · have hqa : pT a n = qT a n := by
        rcases pT_ways a n with ⟨h, -⟩ | ⟨-, -, h⟩ | ⟨-, -, -, h⟩ | ⟨-, -, -, -, h⟩ | ⟨-, h, -, -, -⟩
        · rw [hg] at h; cases h
        · rw [h] at ca; cases ca
        · rw [h] at cn; cases cn
        · omega
        · exact h
      have q1 := qT_mono hab (n := n) (by omega)
      have q0 := (qT_b (by omega) n1 hbn).2.2.2.1
      rw [hqa] at e' hp'
      rw [hq] at e hp
      have m0 : 1 ≤ miT s 1000000 := by unfold miT; omega
      have m1 : miT s 1000000 ≤ miT r 1000000 := by unfold miT; omega
      have hs0 : 0 < miT s 1000000 * qT b n := Int.mul_pos (by omega) (by omega)
      have hs1 : miT s 1000000 * qT b n ≤ miT r 1000000 * qT a n := Int.mul_le_mul m1 q1 q0 (by omega)
      have hc := cdT_mono (a := k * 65536) (b := l * 65536) (by omega) (by omega) hs0 hs1
      rw [e, e']
      generalize cdT (k * 65536) _ = x at *
      generalize cdT (l * 65536) _ = y at *
      unfold miT
      omega
/-- What a pause is at the two ends. -/
theorem uT_ends {a n r k : Int} (a0 : 0 ≤ a) (a1 : a ≤ 64) (n0 : 0 ≤ n) (n1 : n ≤ 64) (k0 : 1 ≤ k) (k1 : k ≤ 64) (r0 : 1 ≤ r) : (2 * a ≤ n ↔ uT a n r k = 0) ∧ (¬2 * a ≤ n → n ≤ a → uT a n r k = 64) := by
  have ca : cT a = true := cT_t a0 a1
  have cn : cT n = true := cT_t n0 n1
  have ck : cT k = true := cT_t (by omega) k1
  have hf : fT a n = decide (2 * a ≤ n) := by unfold fT; rw [ca, cn]; rfl
  by_cases h2 : 2 * a ≤ n
  · rw [decide_eq_true h2] at hf
    have e : uT a n r k = 0 := by unfold uT; simp [ca, cn, ck, r0, hf]
    exact ⟨⟨fun _ => e, fun _ => h2⟩, fun h => absurd h2 h⟩
  · rw [decide_eq_false h2] at hf
    have hk : ¬k = 0 := by omega
    by_cases hp : pT a n = 0
    · have e : uT a n r k = 64 := by unfold uT; simp [ca, cn, ck, r0, hf, hk, hp]
      exact ⟨⟨fun h => absurd h h2, fun h => by omega⟩, fun _ _ => e⟩
    · have e : uT a n r k = miT (cdT (k * 65536) (miT r 1000000 * pT a n)) 64 := by unfold uT; simp [ca, cn, ck, r0, hf, hk, hp]
      have p0 := (pT_b a n).1
      have m0 : 1 ≤ miT r 1000000 := by unfold miT; omega
      have s0 : 0 < miT r 1000000 * pT a n := Int.mul_pos (by omega) (by omega)
      have hc := cdT_hi (a := k * 65536) s0
      refine ⟨⟨fun h => absurd h h2, fun h => ?_⟩, fun _ h => ?_⟩
      · exfalso
        rw [e] at h
        have hz : cdT (k * 65536) (miT r 1000000 * pT a n) = 0 := by unfold miT at h ⊢; omega
        rw [hz] at hc
        omega
      · exfalso
        apply hp
        unfold pT
        rw [hf, ca, cn]
        rw [decide_eq_false (show ¬a < n by omega)]
        rfl
/-- What is written in a pause. -/
theorem uT_pays {a n r k : Int} (h0 : ¬uT a n r k = 0) (h1 : uT a n r k < 64) (r1 : r ≤ 3000) :
    k * 65536 ≤ uT a n r k * r * pT a n ∧ (uT a n r k - 1) * r * pT a n < k * 65536 ∧ 1 ≤ r := by
  rcases uT_ways a n r k with ⟨e, -⟩ | ⟨e, -⟩ | ⟨e, -⟩ | ⟨e, -⟩ | ⟨e, -⟩ | ⟨e, -⟩ | ⟨e, -⟩ | ⟨e, -, -, -, r0, -, -, hp⟩
  any_goals omega
  have p0 := (pT_b a n).1
  have hm : miT r 1000000 = r := by unfold miT; omega
  rw [hm] at e
  have s0 : 0 < r * pT a n := Int.mul_pos (by omega) (by omega)
  have e2 : uT a n r k = cdT (k * 65536) (r * pT a n) := by
    unfold miT at e
    omega
  rw [e2, Int.mul_assoc, Int.mul_assoc]
  exact ⟨cdT_hi s0, cdT_lo s0, r0⟩
/-- The products fit. -/
theorem pays_num {p r x : Int} (p0 : 0 ≤ p) (p1 : p ≤ 64) (r0 : 0 ≤ r) (r1 : r ≤ 3000) (x0 : 0 ≤ x) (x1 : x ≤ 512) : 0 ≤ p * r ∧ p * r ≤ 192000 ∧ 0 ≤ p * r * x ∧ p * r * x ≤ 98304000 := by
  have h0 := Int.mul_nonneg p0 r0
  have h1 : p * r ≤ 64 * 3000 := Int.mul_le_mul p1 r1 r0 (by omega)
  have h2 : p * r * x ≤ 192000 * 512 := Int.mul_le_mul (by omega) x1 x0 (by omega)
  exact ⟨h0, by omega, Int.mul_nonneg h0 x0, by omega⟩
end Go.Mine
namespace Go.Proofs.Ytgeicbkhhmlceaa
open Go.RowKit Go.Mine
theorem aw_p : pT 12 16 = 128 := by decide
theorem aw_1 : uT 12 16 256 1 = 2 := by decide
theorem aw_2 : uT 16 16 256 1 = 64 := by decide
theorem aw_3 : uT 8 16 256 1 = 0 := by decide
theorem aw_4 : fT 8 16 = true := by decide
theorem aw_5 : fT 9 16 = false := by decide
theorem awake_any (w : World) : Calls Try.prog 14 #[] w (RetG (.bool true) w) := by
  go_enter Try.func14, Try.ntmps14
  go_wp2_with fail
  with_reducible refine (pos_p aw_p).mono ?_
  rintro e w1 ⟨rfl, rfl⟩
  go_wp2_with fail
  with_reducible refine (pause_p aw_1).mono ?_
  rintro e w1 ⟨rfl, rfl⟩
  go_wp2_with fail
  with_reducible refine (pause_p aw_2).mono ?_
  rintro e w1 ⟨rfl, rfl⟩
  go_wp2_with fail
  with_reducible refine (pause_p aw_3).mono ?_
  rintro e w1 ⟨rfl, rfl⟩
  go_wp2_with fail
  with_reducible refine (free_p aw_4).mono ?_
  rintro e w1 ⟨rfl, rfl⟩
  go_wp2_with fail
  with_reducible refine (free_p aw_5).mono ?_
  rintro e w1 ⟨rfl, rfl⟩
  go_wp2
  go_ret
  exact ⟨rfl, Grew.refl _⟩
end Go.Proofs.Ytgeicbkhhmlceaa
