/- What Count and Next find, as lists: plain mathematics. -/
import Derived.Test.YtdlhihllmidfeaaRm7
namespace Go.Proofs.Ytdlhihllmidfeaa
open Go.RowKit Go.Mine

/-- A frame with the mark. -/
def hitB (mk : Int) (l : Lef) : Bool := frB l.1 && hasB mk l.2
def mk4 (mk : Int) : Prop := mk = 0 ∨ mk = 1 ∨ mk = 2 ∨ mk = 4
/-- The indices below n with a hit, in ascending order. -/
def hitS (mk : Int) (f : Fen) : Nat → List Int
  | 0 => []
  | k + 1 => hitS mk f k ++ (if hitB mk (f k) = true then [(k : Int)] else [])
def hitN (mk : Int) (f : Fen) : Nat → Int
  | 0 => 0
  | k + 1 => hitN mk f k + (if hitB mk (f k) = true then 1 else 0)
theorem hitS_len (mk : Int) (f : Fen) : ∀ n, ((hitS mk f n).length : Int) = hitN mk f n
  | 0 => rfl
  | k + 1 => by
    rw [hitS, hitN, List.length_append, ← hitS_len mk f k]
    by_cases h : hitB mk (f k) = true
    · rw [if_pos h, if_pos h]; simp
    · rw [if_neg h, if_neg h]; simp
theorem hitS_le (mk : Int) (f : Fen) : ∀ n, (hitS mk f n).length ≤ n
  | 0 => Nat.le_refl _
  | k + 1 => by
    rw [hitS, List.length_append]
    have := hitS_le mk f k
    by_cases h : hitB mk (f k) = true
    · rw [if_pos h]; simp; omega
    · rw [if_neg h]; simp; omega
theorem hitN_add (mk : Int) (f : Fen) (a : Nat) : ∀ b, hitN mk f (a + b) = hitN mk f a + hitN mk (fun i => f (a + i)) b
  | 0 => by simp [hitN]
  | b + 1 => by
    rw [← Nat.add_assoc, hitN, hitN_add mk f a b, hitN]
    omega
theorem hitN_none {mk : Int} {f : Fen} : ∀ {n : Nat}, (∀ i, i < n → hitB mk (f i) = false) → hitN mk f n = 0
  | 0, _ => rfl
  | k + 1, h => by
    rw [hitN, hitN_none (fun i hi => h i (by omega)), h k (by omega)]
    rfl
theorem hitS_skip {mk : Int} {f : Fen} {a : Nat} : ∀ {n : Nat}, (∀ i, a ≤ i → i < a + n → hitB mk (f i) = false) → hitS mk f (a + n) = hitS mk f a
  | 0, _ => rfl
  | k + 1, h => by
    rw [← Nat.add_assoc, hitS, hitS_skip (fun i h1 h2 => h i h1 (by omega)), h (a + k) (by omega) (by omega)]
    simp
theorem has_or {mk a b : Int} (hm : mk4 mk) (a0 : 0 ≤ a) (a1 : a ≤ 7) (b0 : 0 ≤ b) (b1 : b ≤ 7) : hasB mk (orI a b) = (hasB mk a || hasB mk b) := by
  have ha : a = 0 ∨ a = 1 ∨ a = 2 ∨ a = 3 ∨ a = 4 ∨ a = 5 ∨ a = 6 ∨ a = 7 := by omega
  have hb : b = 0 ∨ b = 1 ∨ b = 2 ∨ b = 3 ∨ b = 4 ∨ b = 5 ∨ b = 6 ∨ b = 7 := by omega
  rcases ha with rfl | rfl | rfl | rfl | rfl | rfl | rfl | rfl <;> rcases hb with rfl | rfl | rfl | rfl | rfl | rfl | rfl | rfl <;> rcases hm with rfl | rfl | rfl | rfl <;> decide +kernel
theorem has_zero {mk : Int} (hm : mk4 mk) (a : Int) (h : hasB mk 0 = true) (a0 : 0 ≤ a) (a1 : a ≤ 7) : hasB mk a = true := by
  have ha : a = 0 ∨ a = 1 ∨ a = 2 ∨ a = 3 ∨ a = 4 ∨ a = 5 ∨ a = 6 ∨ a = 7 := by omega
  rcases hm with rfl | rfl | rfl | rfl
  · rcases ha with rfl | rfl | rfl | rfl | rfl | rfl | rfl | rfl <;> decide +kernel
  · exact absurd h (by decide +kernel)
  · exact absurd h (by decide +kernel)
  · exact absurd h (by decide +kernel)
/-- Of a subtree without the mark none of its leaves has it. -/
theorem orM_no {mk : Int} (hm : mk4 mk) : ∀ (h : Nat) (f : Fen), GoodF f → hasB mk (orM h f) = false → ∀ i, i < p4 h → hasB mk (f i).2 = false
  | 0, f, _, hn, i, hi => by
    have hi : i < 1 := hi
    have : i = 0 := by omega
    subst this
    exact hn
  | h + 1, f, hg, hn, i, hi => by
    obtain ⟨hk, hj, he⟩ := split4 hi
    generalize hK : i / p4 h = k at *
    generalize i % p4 h = j at *
    have o0 := orM_in h _ (hg.sub h 0)
    have o1 := orM_in h _ (hg.sub h 1)
    have o2 := orM_in h _ (hg.sub h 2)
    have o3 := orM_in h _ (hg.sub h 3)
    have z8 := or8 (a := 0) (b := orM h (sub h f 0)) (by omega) (by omega) o0.1 o0.2
    have z9 := or8 z8.1 z8.2.1 o1.1 o1.2
    have z10 := or8 z9.1 z9.2.1 o2.1 o2.2
    unfold Go.Mine.orM at hn
    have e3 := has_or hm z10.1 z10.2.1 o3.1 o3.2
    have e2 := has_or hm z9.1 z9.2.1 o2.1 o2.2
    have e1 := has_or hm z8.1 z8.2.1 o1.1 o1.2
    have e0 := has_or hm (a := 0) (by omega) (by omega) o0.1 o0.2
    first
      | rw [e3, e2, e1, e0] at hn
      | (simp only [e3, e2, e1, e0] at hn)
    simp only [Bool.or_eq_false_iff] at hn
    have hs : ∀ q, q < 4 → hasB mk (orM h (sub h f q)) = false := by
      intro q hq
      have : q = 0 ∨ q = 1 ∨ q = 2 ∨ q = 3 := by omega
      rcases this with rfl | rfl | rfl | rfl
      · exact hn.1.1.1.2
      · exact hn.1.1.2
      · exact hn.1.2
      · exact hn.2
    have := orM_no hm h (sub h f k) (hg.sub h k) (hs k hk) j hj
    unfold sub at this
    rw [he]; exact this
theorem hit_none {mk : Int} (hm : mk4 mk) {h : Nat} {f : Fen} (hg : GoodF f) (hn : hasB mk (orM h f) = false) : ∀ i, i < p4 h → hitB mk (f i) = false := fun i hi => by
  unfold hitB
  rw [orM_no hm h f hg hn i hi, Bool.and_false]
theorem cntR_hit {mk : Int} (hm : mk4 mk) : ∀ (h : Nat) (f : Fen), GoodF f → cntR mk h f = hitN mk f (p4 h)
  | 0, f, _ => by
    rw [show p4 0 = 0 + 1 from rfl, hitN, hitN]
    unfold cntR hitB
    cases hasB mk (f 0).2 <;> cases frB (f 0).1 <;> rfl
  | h + 1, f, hg => by
    unfold cntR
    cases hn : hasB mk (orM (h + 1) f)
    · exact (hitN_none (hit_none hm hg hn)).symm
    · dsimp only
      rw [cntR_hit hm h _ (hg.sub h 0), cntR_hit hm h _ (hg.sub h 1), cntR_hit hm h _ (hg.sub h 2), cntR_hit hm h _ (hg.sub h 3), show p4 (h + 1) = p4 h + p4 h + p4 h + p4 h from by show 4 * p4 h = _; omega,
        hitN_add, hitN_add, hitN_add]
      have e0 : sub h f 0 = f := by funext i; unfold sub; congr 1; omega
      have e1 : sub h f 1 = fun i => f (p4 h + i) := by funext i; unfold sub; congr 1; omega
      have e2 : sub h f 2 = fun i => f (p4 h + p4 h + i) := by funext i; unfold sub; congr 1; omega
      have e3 : sub h f 3 = fun i => f (p4 h + p4 h + p4 h + i) := by funext i; unfold sub; congr 1; omega
      rw [e0, e1, e2, e3]
      omega
/-- What a search from an index on finds below n. -/
def Finds (mk : Int) (f : Fen) (n from' : Nat) (o : Int × Bool) : Prop :=
  (o.2 = true ∧ ∃ i : Nat, o.1 = (i : Int) ∧ from' ≤ i ∧ i < n ∧ hitB mk (f i) = true ∧ ∀ j, from' ≤ j → j < i → hitB mk (f j) = false) ∨
  (o.2 = false ∧ o.1 = 0 ∧ ∀ j, from' ≤ j → j < n → hitB mk (f j) = false)
theorem emp_hit {mk : Int} {h : Nat} {f : Fen} (e : emp h f = true) : ∀ j, j < p4 h → hitB mk (f j) = false := fun j hj => by
  rw [(emp_iff h f).1 e j hj]
  rfl
theorem ffG_true {mk : Int} (hm : mk4 mk) {h : Nat} {f : Fen} {from' : Nat} (hg : GoodF f) (h1 : ffG mk h f from' = true) : ∀ j, from' ≤ j → j < p4 h → hitB mk (f j) = false := by
  unfold ffG at h1
  cases he : emp h f
  · rw [he] at h1
    dsimp only at h1
    cases hh : hasB mk (orM h f)
    · exact fun j _ hj => hit_none hm hg hh j hj
    · rw [hh] at h1
      dsimp only at h1
      have := of_decide_eq_true h1
      exact fun j h2 h3 => by omega
  · exact fun j _ hj => emp_hit he j hj
theorem ffGo_finds {mk : Int} {f : Fen} {P from' : Nat} {r : Nat → Int × Bool} (hP : 0 < P) (hr : ∀ k, k < 4 → Finds mk (fun i => f (k * P + i)) P (from' - k * P) (r k)) :
    ∀ (n k : Nat), n + k = 4 → (∀ j, from' ≤ j → j < k * P → hitB mk (f j) = false) → Finds mk f (4 * P) from' (ffGo r P n k)
  | 0, k, hn, hb => by
    have hk : k = 4 := by omega
    subst hk
    exact .inr ⟨rfl, rfl, hb⟩
  | n + 1, k, hn, hb => by
    have hk := hr k (by omega)
    unfold ffGo
    have hkP : k * P + P ≤ 4 * P := by
      have : (k + 1) * P ≤ 4 * P := Nat.mul_le_mul_right P (by omega)
      rw [Nat.succ_mul] at this
      exact this
    rcases hk with ⟨h2, i, h1, hi, hiP, hh, hno⟩ | ⟨h2, h1, hno⟩
    · rw [h2]
      dsimp only
      refine .inl ⟨rfl, k * P + i, ?_, by omega, by omega, hh, fun j hj hj2 => ?_⟩
      · rw [h1]; omega
      · rcases Nat.lt_or_ge j (k * P) with hlt | hge
        · exact hb j hj hlt
        · have this : hitB mk (f (k * P + (j - k * P))) = false := hno (j - k * P) (by omega) (by omega)
          rw [show k * P + (j - k * P) = j from by omega] at this
          exact this
    · rw [h2]
      dsimp only
      refine ffGo_finds hP hr n (k + 1) (by omega) (fun j hj hj2 => ?_)
      rcases Nat.lt_or_ge j (k * P) with hlt | hge
      · exact hb j hj hlt
      · have h5 : j < k * P + P := by rw [Nat.succ_mul] at hj2; exact hj2
        have this : hitB mk (f (k * P + (j - k * P))) = false := hno (j - k * P) (by omega) (by omega)
        rw [show k * P + (j - k * P) = j from by omega] at this
        exact this
theorem ffR_finds {mk : Int} (hm : mk4 mk) : ∀ (h : Nat) (f : Fen) (from' : Nat), GoodF f → Finds mk f (p4 h) from' (ffR mk h f from')
  | 0, f, from', hg => by
    unfold ffR
    cases hG : ffG mk 0 f from'
    · obtain ⟨_, h2, h3⟩ := ffG_false hG
      have h3 : from' < 1 := h3
      have h0 : from' = 0 := by omega
      subst h0
      dsimp only
      have h2 : hasB mk (f 0).2 = true := h2
      cases hf : frB (f 0).1
      · refine .inr ⟨rfl, rfl, fun j _ hj => ?_⟩
        have hj : j < 1 := hj
        have : j = 0 := by omega
        subst this
        unfold hitB
        rw [hf]; rfl
      · refine .inl ⟨rfl, 0, rfl, Nat.le_refl _, by decide, ?_, fun j _ hj => by omega⟩
        unfold hitB
        rw [hf, h2]; rfl
    · exact .inr ⟨rfl, rfl, ffG_true hm hg hG⟩
  | h + 1, f, from', hg => by
    unfold ffR
    cases hG : ffG mk (h + 1) f from'
    · obtain ⟨-, -, h3⟩ := ffG_false hG
      dsimp only
      have hP := p4_pos h
      have e4 : p4 (h + 1) = 4 * p4 h := rfl
      rw [e4] at h3 ⊢
      have hq : from' / p4 h < 4 := (Nat.div_lt_iff_lt_mul hP).2 h3
      refine ffGo_finds hP (fun k _ => ?_) _ _ (by omega) (fun j hj hj2 => ?_)
      · have := ffR_finds hm h (sub h f k) (from' - k * p4 h) (hg.sub h k)
        exact this
      · have := Nat.div_mul_le_self from' (p4 h)
        omega
    · exact .inr ⟨rfl, rfl, ffG_true hm hg hG⟩
theorem finds_next {mk : Int} {f : Fen} {n from' : Nat} {o : Int × Bool} (h : Finds mk f n from' o) (hn : from' ≤ n) :
    (o.2 = true ∧ ∃ i : Nat, o.1 = (i : Int) ∧ from' ≤ i ∧ i < n ∧ hitS mk f (i + 1) = hitS mk f from' ++ [(i : Int)]) ∨ (o.2 = false ∧ hitS mk f n = hitS mk f from') := by
  rcases h with ⟨h2, i, h1, hi, hin, hh, hno⟩ | ⟨h2, -, hno⟩
  · refine .inl ⟨h2, i, h1, hi, hin, ?_⟩
    have e := hitS_skip (mk := mk) (f := f) (a := from') (n := i - from') (fun j h3 h4 => hno j h3 (by omega))
    rw [show from' + (i - from') = i from by omega] at e
    rw [hitS, if_pos hh, e]
  · refine .inr ⟨h2, ?_⟩
    have e := hitS_skip (mk := mk) (f := f) (a := from') (n := n - from') (fun j h3 h4 => hno j h3 (by omega))
    rw [show from' + (n - from') = n from by omega] at e
    exact e
/-- The indices of the entries that are frames with the mark. -/
def selE (mk : Int) (L : List En) : List Int := (L.filter fun e => hitB mk e.2).map (·.1)
theorem selE_snoc (mk : Int) (L : List En) (e : En) : selE mk (L ++ [e]) = selE mk L ++ (if hitB mk e.2 = true then [e.1] else []) := by
  unfold selE
  rw [List.filter_append, List.map_append]
  cases h : hitB mk e.2 <;> simp [h]
theorem selE_S (mk : Int) (f : Fen) : ∀ n, selE mk (entS f 0 n) = hitS mk f n
  | 0 => rfl
  | k + 1 => by
    rw [entS, hitS, ← selE_S mk f k]
    by_cases h0 : (f k).1 = 0
    · have hb : hitB mk (f k) = false := by unfold hitB frB; rw [h0]; rfl
      rw [if_pos h0, hb]; simp
    · rw [if_neg h0, selE_snoc, Int.zero_add]
theorem selE_R (mk : Int) (h : Nat) (f : Fen) : selE mk (entR h f 0) = hitS mk f (p4 h) := by rw [entR_S, selE_S]
theorem take_snoc_getD {α : Type} {d : α} (L : List α) (k : Nat) (h : k < L.length) : L.take (k + 1) = L.take k ++ [L.getD k d] := take_getD L k h
theorem hit_test {mk a : Int} (hm : mk4 mk) (a0 : 0 ≤ a) (a1 : a ≤ 7) : hasB mk a = ((mk == 0) || (andI a mk != 0)) := by
  have ha : a = 0 ∨ a = 1 ∨ a = 2 ∨ a = 3 ∨ a = 4 ∨ a = 5 ∨ a = 6 ∨ a = 7 := by omega
  rcases ha with rfl | rfl | rfl | rfl | rfl | rfl | rfl | rfl <;> rcases hm with rfl | rfl | rfl | rfl <;> decide +kernel
end Go.Proofs.Ytdlhihllmidfeaa
