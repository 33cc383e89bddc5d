/- Lists of spans: plain mathematics of layer 4. -/
import Derived.Test.YtfoeemibhkkbgaaLay
namespace Go.Proofs.Ytfoeemibhkkbgaa
open Go.Mine

abbrev Sp := Int × Int
def wpL (L : List Sp) (q : Int) : List Sp := match L.getLast? with | none => [(q, 2)] | some x => if x.1 + x.2 = q then L.dropLast ++ [(x.1, x.2 + 2)] else L ++ [(q, 2)]
theorem wpL_nil (q : Int) : wpL [] q = [(q, 2)] := rfl
theorem wpL_yes (M : List Sp) (s c q : Int) (h : s + c = q) : wpL (M ++ [(s, c)]) q = M ++ [(s, c + 2)] := by simp [wpL, h]
theorem wpL_no (M : List Sp) (s c q : Int) (h : s + c ≠ q) : wpL (M ++ [(s, c)]) q = M ++ [(s, c)] ++ [(q, 2)] := by simp [wpL, h]
def reL (L : List Sp) (q m : Int) : List Sp := match L.getLast? with | none => [(q, 2)] | some x => if x.1 + x.2 = q ∧ x.2 + 2 ≤ m then L.dropLast ++ [(x.1, x.2 + 2)] else L ++ [(q, 2)]
theorem reL_nil (q m : Int) : reL [] q m = [(q, 2)] := rfl
theorem reL_yes (M : List Sp) (s c q m : Int) (h : s + c = q) (k : c + 2 ≤ m) : reL (M ++ [(s, c)]) q m = M ++ [(s, c + 2)] := by simp [reL, h, k]
theorem reL_no (M : List Sp) (s c q m : Int) (h : ¬ (s + c = q ∧ c + 2 ≤ m)) : reL (M ++ [(s, c)]) q m = M ++ [(s, c)] ++ [(q, 2)] := by simp only [reL, List.getLast?_append, List.getLast?_singleton, Option.some_or, if_neg h]
def chB (xs : List Int) (p : Int) : Bool := decide (p ∈ xs)
def joinL (s : Int) (xs : List Int) : Nat → List Sp | 0 => [] | k + 1 => if chB xs k then wpL (joinL s xs k) (pagF s k) else joinL s xs k
def refL (s : Int) (xs : List Int) (m : Int) : Nat → List Sp | 0 => [] | k + 1 => if chB xs k then reL (refL s xs m k) (pagF s k) m else refL s xs m k

def partsN : Nat → Int → Int → Int → List Sp | 0, _, _, _ => [] | f + 1, s, c, m => if 0 < c then (s, min c m) :: partsN f (s + min c m) (c - min c m) m else []
def partsL (s c m : Int) : List Sp := partsN c.toNat s c m
theorem partsN_fuel (m : Int) (hm : 1 ≤ m) : ∀ (f : Nat) (s c : Int), c.toNat ≤ f → partsN f s c m = partsN c.toNat s c m
  | 0, s, c, h => by rw [show c.toNat = 0 from by omega]
  | f + 1, s, c, h => by
    by_cases hc : 0 < c
    · obtain ⟨k, hk⟩ : ∃ k, c.toNat = k + 1 := ⟨c.toNat - 1, by omega⟩
      rw [hk, partsN, partsN, if_pos hc, if_pos hc, partsN_fuel m hm f _ (c - min c m) (by omega), partsN_fuel m hm k _ (c - min c m) (by omega)]
    · rw [partsN, if_neg hc, show c.toNat = 0 from by omega, partsN]
theorem partsL_pos (s c m : Int) (hm : 1 ≤ m) (hc : 0 < c) : partsL s c m = (s, min c m) :: partsL (s + min c m) (c - min c m) m := by
  obtain ⟨k, hk⟩ : ∃ k, c.toNat = k + 1 := ⟨c.toNat - 1, by omega⟩
  unfold partsL
  rw [hk, partsN, if_pos hc, partsN_fuel m hm k _ (c - min c m) (by omega)]
theorem partsL_zero (s c m : Int) (hc : c ≤ 0) : partsL s c m = [] := by
  unfold partsL
  rw [show c.toNat = 0 from by omega, partsN]
theorem partsL_len (m : Int) (hm : 1 ≤ m) : ∀ (n : Nat) (s c : Int), c.toNat ≤ n → (partsL s c m).length ≤ n := by
  intro n
  induction n with
  | zero => intro s c h; rw [partsL_zero s c m (by omega)]; simp
  | succ n ih =>
    intro s c h
    by_cases hc : 0 < c
    · rw [partsL_pos s c m hm hc]
      have := ih (s + min c m) (c - min c m) (by omega)
      simp
      omega
    · rw [partsL_zero s c m (by omega)]; simp
/-- What may be a span of a device. -/
def spB (x : Sp) : Bool := decide (0 ≤ x.1 ∧ x.1 ≤ 127 ∧ 0 < x.2 ∧ x.2 ≤ 128 - x.1)
def splitL (L : List Sp) (m : Int) : List Sp := L.flatMap fun x => if spB x then partsL x.1 x.2 m else []
theorem splitL_snoc (M : List Sp) (x : Sp) (m : Int) : splitL (M ++ [x]) m = splitL M m ++ (if spB x then partsL x.1 x.2 m else []) := by simp [splitL]
theorem splitL_nil (m : Int) : splitL [] m = [] := rfl

/-! A run that grows by a page. -/
theorem parts_two (s m : Int) (hm : 2 ≤ m) : partsL s 2 m = [(s, 2)] := by
  rw [partsL_pos s 2 m (by omega) (by omega), partsL_zero _ _ _ (by omega), show min 2 m = 2 from by omega]
/-- The parts of c sectors end with one that ends where they end; two sectors more are its, if it has room, or a part of their own. -/
theorem parts_grow (m : Int) (hm : 2 ≤ m) (he : m % 2 = 0) : ∀ (n : Nat) (s c : Int), c.toNat ≤ n → 0 < c → c % 2 = 0 →
    ∃ Q a b, partsL s c m = Q ++ [(a, b)] ∧ a + b = s + c ∧ b ≤ m ∧ 0 < b ∧ b % 2 = 0 ∧ partsL s (c + 2) m = if b + 2 ≤ m then Q ++ [(a, b + 2)] else Q ++ [(a, b)] ++ [(s + c, 2)] := by
  intro n
  induction n with
  | zero => intro s c h; omega
  | succ n ih =>
    intro s c h hc h2
    by_cases hle : c ≤ m
    · refine ⟨[], s, c, ?_, by omega, hle, hc, h2, ?_⟩
      · rw [partsL_pos s c m (by omega) hc, show min c m = c from by omega, partsL_zero _ _ _ (by omega)]; rfl
      · by_cases h3 : c + 2 ≤ m
        · rw [if_pos h3, partsL_pos s (c + 2) m (by omega) (by omega), show min (c + 2) m = c + 2 from by omega, partsL_zero _ _ _ (by omega)]; rfl
        · have : c = m := by omega
          subst this
          rw [if_neg h3, partsL_pos s (c + 2) c (by omega) (by omega), show min (c + 2) c = c from by omega, show c + 2 - c = 2 from by omega, parts_two _ _ hm]; rfl
    · obtain ⟨Q, a, b, e1, e2, e3, e4, e5, e6⟩ := ih (s + m) (c - m) (by omega) (by omega) (by omega)
      refine ⟨(s, m) :: Q, a, b, ?_, by omega, e3, e4, e5, ?_⟩
      · rw [partsL_pos s c m (by omega) hc, show min c m = m from by omega, e1]; rfl
      · rw [partsL_pos s (c + 2) m (by omega) (by omega), show min (c + 2) m = m from by omega, show c + 2 - m = c - m + 2 from by omega, e6, show s + m + (c - m) = s + c from by omega]
        split <;> rfl

/-- All spans of L have an even number of sectors of the slot's pages, and end at q or before. -/
def Good (lo : Int) (L : List Sp) (q : Int) : Prop := ∀ x ∈ L, lo ≤ x.1 ∧ 0 < x.2 ∧ x.2 % 2 = 0 ∧ x.1 + x.2 ≤ q
theorem good_snoc {lo : Int} {M : List Sp} {x : Sp} {q : Int} (h : Good lo M q) (hx : lo ≤ x.1 ∧ 0 < x.2 ∧ x.2 % 2 = 0 ∧ x.1 + x.2 ≤ q) : Good lo (M ++ [x]) q := fun y hy => by
  rcases List.mem_append.1 hy with h1 | h1
  · exact h y h1
  · simp at h1; subst h1; exact hx
theorem good_wider {lo : Int} {M : List Sp} {q q' : Int} (h : Good lo M q) (hq : q ≤ q') : Good lo M q' := fun y hy => by have := h y hy; omega
theorem good_left {lo : Int} {M : List Sp} {x : Sp} {q : Int} (h : Good lo (M ++ [x]) q) : Good lo M q ∧ lo ≤ x.1 ∧ 0 < x.2 ∧ x.2 % 2 = 0 ∧ x.1 + x.2 ≤ q :=
  ⟨fun y hy => h y (List.mem_append_left _ hy), h x (by simp)⟩
theorem good_wpL {lo : Int} {L : List Sp} {q q' : Int} (h : Good lo L q) (hq : lo ≤ q) (hq' : q + 2 ≤ q') : Good lo (wpL L q) q' := by
  rcases List.eq_nil_or_concat L with rfl | ⟨M, ⟨s, c⟩, rfl⟩
  · intro y hy; simp [wpL] at hy; subst hy; simp; omega
  · rw [List.concat_eq_append] at h ⊢
    obtain ⟨h1, h2, h3, h4, h5⟩ := good_left h
    by_cases e : s + c = q
    · rw [wpL_yes _ _ _ _ e]; exact good_snoc (good_wider h1 (by omega)) (by simp at *; omega)
    · rw [wpL_no _ _ _ _ e]; exact good_snoc (good_wider h (by omega)) (by simp; omega)
theorem spB_yes {x : Sp} {q : Int} (h0 : 0 ≤ x.1) (h1 : 0 < x.2) (h2 : x.1 + x.2 ≤ q) (hq : q ≤ 128) : spB x = true := by
  unfold spB; exact decide_eq_true (by omega)
theorem join_step {lo : Int} {L : List Sp} {q m : Int} (hlo : 0 ≤ lo) (h : Good lo L q) (hq : lo ≤ q) (hq2 : q + 2 ≤ 128) (hm : 2 ≤ m) (he : m % 2 = 0) : splitL (wpL L q) m = reL (splitL L m) q m := by
  rcases List.eq_nil_or_concat L with rfl | ⟨M, ⟨s, c⟩, rfl⟩
  · show splitL ([] ++ [(q, 2)]) m = _
    rw [splitL_snoc, if_pos (spB_yes (q := q + 2) (by simp; omega) (by simp) (by simp) hq2), parts_two _ _ hm]
    rfl
  · rw [List.concat_eq_append] at h ⊢
    obtain ⟨h1, h2, h3, h4, h5⟩ := good_left h
    simp only at h2 h3 h4 h5
    obtain ⟨Q, a, b, e1, e2, e3, e4, e5, e6⟩ := parts_grow m hm he c.toNat s c (Nat.le_refl _) h3 h4
    have y0 : spB (s, c) = true := spB_yes (q := q) (by simp; omega) h3 h5 (by omega)
    by_cases e : s + c = q
    · have y1 : spB (s, c + 2) = true := spB_yes (q := q + 2) (by simp; omega) (by simp; omega) (by simp; omega) hq2
      rw [wpL_yes _ _ _ _ e, splitL_snoc, if_pos y1, splitL_snoc, if_pos y0, e1, e6, ← List.append_assoc]
      by_cases hb : b + 2 ≤ m
      · rw [if_pos hb, reL_yes _ _ _ _ _ (by omega) hb, List.append_assoc]
      · rw [if_neg hb, reL_no _ _ _ _ _ (by omega), e]
        simp
    · have y2 : spB (q, 2) = true := spB_yes (q := q + 2) (by simp; omega) (by simp) (by simp) hq2
      rw [wpL_no _ _ _ _ e, splitL_snoc, if_pos y2, splitL_snoc, if_pos y0, e1, ← List.append_assoc, reL_no _ _ _ _ _ (by omega), parts_two _ _ hm]
theorem pag_eq {s : Int} {k : Nat} (h0 : 0 ≤ s) (h1 : s ≤ 6) (hk : k < 8) : pagF s k = s * 18 + 2 + k * 2 := by rw [pagF, if_pos (by omega)]
theorem join_good {s : Int} {xs : List Int} (h0 : 0 ≤ s) (h1 : s ≤ 6) : ∀ k, k ≤ 8 → Good (s * 18 + 2) (joinL s xs k) (s * 18 + 2 + k * 2)
  | 0, _ => fun y hy => by simp [joinL] at hy
  | k + 1, hk => by
    have ih := join_good (xs := xs) h0 h1 k (by omega)
    rw [joinL]
    split
    · rw [pag_eq h0 h1 (by omega)]
      exact good_wpL ih (by omega) (by omega)
    · exact good_wider ih (by omega)
/-- The runs of pages, divided, are those that are made page by page. -/
theorem runs_same {s m : Int} {xs : List Int} (h0 : 0 ≤ s) (h1 : s ≤ 6) (hm : 2 ≤ m) (he : m % 2 = 0) : ∀ k, k ≤ 8 → splitL (joinL s xs k) m = refL s xs m k
  | 0, _ => rfl
  | k + 1, hk => by
    have ih := runs_same (xs := xs) h0 h1 hm he k (by omega)
    rw [joinL, refL]
    split
    · rw [← ih, pag_eq h0 h1 (by omega)]
      exact join_step (by omega) (join_good h0 h1 k (by omega)) (by omega) (by omega) hm he
    · exact ih
theorem wpL_len (L : List Sp) (q : Int) : (wpL L q).length ≤ L.length + 1 := by
  rcases List.eq_nil_or_concat L with rfl | ⟨M, ⟨s, c⟩, rfl⟩
  · simp [wpL]
  · rw [List.concat_eq_append]
    by_cases e : s + c = q
    · rw [wpL_yes _ _ _ _ e]; simp
    · rw [wpL_no _ _ _ _ e]; simp
theorem join_len (s : Int) (xs : List Int) : ∀ k, (joinL s xs k).length ≤ k
  | 0 => by simp [joinL]
  | k + 1 => by
    have ih := join_len s xs k
    rw [joinL]
    split
    · have := wpL_len (joinL s xs k) (pagF s k); omega
    · omega
theorem split_len (m : Int) (hm : 1 ≤ m) : ∀ L : List Sp, (splitL L m).length ≤ 128 * L.length
  | [] => by simp [splitL]
  | x :: L => by
    have ih := split_len m hm L
    have e : splitL (x :: L) m = (if spB x then partsL x.1 x.2 m else []) ++ splitL L m := rfl
    rw [e, List.length_append, List.length_cons]
    have : (if spB x then partsL x.1 x.2 m else []).length ≤ 128 := by
      split
      · rename_i h
        refine partsL_len m hm 128 _ _ ?_
        simp [spB] at h
        omega
      · simp
    omega
end Go.Proofs.Ytfoeemibhkkbgaa
