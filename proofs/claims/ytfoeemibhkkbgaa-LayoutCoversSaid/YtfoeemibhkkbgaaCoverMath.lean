/- The sectors of spans: plain mathematics of layer 4's LayoutCovers. -/
import Derived.Test.YtfoeemibhkkbgaaSpanMath
namespace Go.Proofs.Ytfoeemibhkkbgaa
open Go.Mine

def secs1 (x : Sp) : List Int := (List.range x.2.toNat).map fun i : Nat => x.1 + (i : Int)
def secs (L : List Sp) : List Int := L.flatMap secs1
theorem secs1_len (x : Sp) : (secs1 x).length = x.2.toNat := by simp [secs1]
theorem secs1_at (x : Sp) (k : Nat) (h : k < x.2.toNat) : (secs1 x)[k]? = some (x.1 + k) := by simp [secs1, h]
theorem secs1_zero (a c : Int) (h : c ≤ 0) : secs1 (a, c) = [] := by simp [secs1]; omega
theorem secs1_app (a n c : Int) (h0 : 0 ≤ n) (h1 : n ≤ c) : secs1 (a, c) = secs1 (a, n) ++ secs1 (a + n, c - n) := by
  apply List.ext_getElem?
  intro i
  by_cases hi : i < n.toNat
  · rw [List.getElem?_append_left (by rw [secs1_len]; exact hi), secs1_at _ _ (by simp; omega), secs1_at _ _ (by simpa using hi)]
  · rw [List.getElem?_append_right (by rw [secs1_len]; simp; omega), secs1_len]
    by_cases hc : i < c.toNat
    · rw [secs1_at _ _ (by simpa using hc), secs1_at _ _ (by simp; omega)]
      simp
      omega
    · rw [List.getElem?_eq_none (by rw [secs1_len]; simp; omega), List.getElem?_eq_none (by rw [secs1_len]; simp; omega)]
theorem secs_app (L M : List Sp) : secs (L ++ M) = secs L ++ secs M := by simp [secs]
theorem secs_one (x : Sp) : secs [x] = secs1 x := by simp [secs]
theorem secs_cons (x : Sp) (L : List Sp) : secs (x :: L) = secs1 x ++ secs L := by simp [secs]
theorem secs_parts (m : Int) (hm : 1 ≤ m) : ∀ (n : Nat) (a c : Int), c.toNat ≤ n → secs (partsL a c m) = secs1 (a, c) := by
  intro n
  induction n with
  | zero => intro a c h; rw [partsL_zero _ _ _ (by omega), secs1_zero _ _ (by omega)]; rfl
  | succ n ih =>
    intro a c h
    by_cases hc : 0 < c
    · rw [partsL_pos a c m hm hc, secs_cons, ih _ _ (by omega), ← secs1_app a (min c m) c (by omega) (by omega)]
    · rw [partsL_zero _ _ _ (by omega), secs1_zero _ _ (by omega)]; rfl
def AllSp (L : List Sp) : Prop := ∀ x ∈ L, spB x = true
theorem secs_split (m : Int) (hm : 1 ≤ m) : ∀ L : List Sp, AllSp L → secs (splitL L m) = secs L
  | [], _ => rfl
  | x :: L, h => by
    have ih := secs_split m hm L fun y hy => h y (List.mem_cons.2 (.inr hy))
    have e : splitL (x :: L) m = (if spB x then partsL x.1 x.2 m else []) ++ splitL L m := rfl
    rw [e, h x (List.mem_cons.2 (.inl rfl)), if_pos rfl, secs_app, ih, secs_cons, secs_parts m hm _ _ _ (Nat.le_refl _)]
theorem secs_wpL {lo : Int} {L : List Sp} {q : Int} (h : Good lo L q) : secs (wpL L q) = secs L ++ [q, q + 1] := by
  have two : secs1 (q, 2) = [q, q + 1] := by simp [secs1, List.range_succ]
  rcases List.eq_nil_or_concat L with rfl | ⟨M, ⟨s, c⟩, rfl⟩
  · rw [wpL_nil, secs_one, two]; rfl
  · rw [List.concat_eq_append] at h ⊢
    obtain ⟨h1, h2, h3, h4, h5⟩ := good_left h
    simp only at h3 h5
    by_cases e : s + c = q
    · rw [wpL_yes _ _ _ _ e, secs_app, secs_app, secs_one, secs_one, secs1_app s c (c + 2) (by omega) (by omega), e, show c + 2 - c = 2 from by omega, two, List.append_assoc]
    · rw [wpL_no _ _ _ _ e, secs_app, secs_one, two]
/-- The sectors of those pages below k that are in a list, in ascending order. -/
def secP (s : Int) (xs : List Int) : Nat → List Int | 0 => [] | k + 1 => if chB xs k then secP s xs k ++ [pagF s k, pagF s k + 1] else secP s xs k
theorem secs_join {s : Int} {xs : List Int} (h0 : 0 ≤ s) (h1 : s ≤ 6) : ∀ k, k ≤ 8 → secs (joinL s xs k) = secP s xs k
  | 0, _ => rfl
  | k + 1, hk => by
    have ih := secs_join (xs := xs) h0 h1 k (by omega)
    rw [joinL, secP]
    split
    · rw [secs_wpL (lo := s * 18 + 2) (by rw [pag_eq h0 h1 (by omega)]; exact join_good h0 h1 k (by omega)), ih]
    · exact ih
theorem good_spB {lo q : Int} {L : List Sp} (h : Good lo L q) (h0 : 0 ≤ lo) (hq : q ≤ 128) : AllSp L := fun x hx => by
  have := h x hx
  exact spB_yes (q := q) (by omega) (by omega) (by omega) hq
/-- The parts of a span are in it, and not longer than m. -/
theorem parts_in (m : Int) (hm : 1 ≤ m) : ∀ (n : Nat) (a c : Int), c.toNat ≤ n → ∀ x ∈ partsL a c m, a ≤ x.1 ∧ 0 < x.2 ∧ x.2 ≤ m ∧ x.1 + x.2 ≤ a + c := by
  intro n
  induction n with
  | zero => intro a c h x hx; rw [partsL_zero _ _ _ (by omega)] at hx; simp at hx
  | succ n ih =>
    intro a c h x hx
    by_cases hc : 0 < c
    · rw [partsL_pos a c m hm hc] at hx
      rcases List.mem_cons.1 hx with rfl | hx
      · simp; omega
      · have := ih _ _ (by omega) x hx
        omega
    · rw [partsL_zero _ _ _ (by omega)] at hx; simp at hx
theorem split_in {L : List Sp} {m : Int} (hm : 1 ≤ m) {x : Sp} (hx : x ∈ splitL L m) : spB x = true ∧ x.2 ≤ m := by
  unfold splitL at hx
  obtain ⟨y, hy, hxy⟩ := List.mem_flatMap.1 hx
  cases hb : spB y
  · rw [hb] at hxy; simp at hxy
  · rw [hb, if_pos rfl] at hxy
    have := parts_in m hm _ _ _ (Nat.le_refl _) x hxy
    simp [spB] at hb ⊢
    omega
theorem runs_secs {s m : Int} {xs : List Int} (h0 : 0 ≤ s) (h1 : s ≤ 6) (hm : 2 ≤ m) : secs (splitL (joinL s xs 8) (m / 2 * 2)) = secP s xs 8 := by
  rw [secs_split _ (by omega) _ (good_spB (join_good h0 h1 8 (Nat.le_refl _)) (by omega) (by omega)), secs_join h0 h1 8 (Nat.le_refl _)]

theorem len_secs : ∀ L : List Sp, AllSp L → L.length ≤ (secs L).length
  | [], _ => by simp
  | x :: L, h => by
    have ih := len_secs L fun y hy => h y (List.mem_cons.2 (.inr hy))
    have h1 := h x (List.mem_cons.2 (.inl rfl))
    simp [spB] at h1
    rw [secs_cons, List.length_append, secs1_len, List.length_cons]
    omega
/-! Where a sector stands. -/
def off (L : List Sp) (i : Nat) : Nat := (secs (L.take i)).length
theorem off_zero (L : List Sp) : off L 0 = 0 := by simp [off, secs]
theorem take_at (L : List Sp) (i : Nat) (h : i < L.length) : L.take (i + 1) = L.take i ++ [L.getD i (0, 0)] := by
  rw [List.take_succ_eq_append_getElem h]
  simp [List.getD, h]
theorem off_succ (L : List Sp) (i : Nat) (h : i < L.length) : off L (i + 1) = off L i + (L.getD i (0, 0)).2.toNat := by
  unfold off
  rw [take_at L i h, secs_app, secs_one, List.length_append, secs1_len]
theorem off_end (L : List Sp) (i : Nat) (h : L.length ≤ i) : off L i = (secs L).length := by
  unfold off
  rw [List.take_of_length_le h]
theorem secs_at (L : List Sp) (i k : Nat) (h : i < L.length) (hk : k < (L.getD i (0, 0)).2.toNat) : (secs L)[off L i + k]? = some ((L.getD i (0, 0)).1 + k) := by
  have e : L = L.take (i + 1) ++ L.drop (i + 1) := (List.take_append_drop _ _).symm
  rw [take_at L i h] at e
  have e2 : secs L = secs (L.take i) ++ (secs1 (L.getD i (0, 0)) ++ secs (L.drop (i + 1))) := by
    conv => lhs; rw [e]
    rw [secs_app, secs_app, secs_one, List.append_assoc]
  rw [e2]
  unfold off
  rw [List.getElem?_append_right (by omega), Nat.add_sub_cancel_left, List.getElem?_append_left (by rw [secs1_len]; exact hk), secs1_at _ _ hk]

/-! The sectors of the pages ascend, and are those of the set. -/
theorem secP_lt {s : Int} {xs : List Int} (h0 : 0 ≤ s) (h1 : s ≤ 6) : ∀ k, k ≤ 8 → ∀ x ∈ secP s xs k, s * 18 + 2 ≤ x ∧ x < s * 18 + 2 + k * 2
  | 0, _, x, hx => by simp [secP] at hx
  | k + 1, hk, x, hx => by
    have ih := secP_lt (xs := xs) h0 h1 k (by omega)
    have hp := pag_eq (k := k) h0 h1 (by omega)
    rw [secP] at hx
    split at hx
    · rcases List.mem_append.1 hx with hx | hx
      · have := ih x hx; omega
      · simp at hx; omega
    · have := ih x hx; omega
theorem secP_asc {s : Int} {xs : List Int} (h0 : 0 ≤ s) (h1 : s ≤ 6) : ∀ k, k ≤ 8 → (secP s xs k).Pairwise (· < ·)
  | 0, _ => by simp [secP]
  | k + 1, hk => by
    have ih := secP_asc (xs := xs) h0 h1 k (by omega)
    have hp := pag_eq (k := k) h0 h1 (by omega)
    have hl := secP_lt (xs := xs) h0 h1 k (by omega)
    rw [secP]
    split
    · refine List.pairwise_append.2 ⟨ih, by simp; omega, fun a ha b hb => ?_⟩
      have := hl a ha
      simp at hb
      omega
    · exact ih
theorem secP_len (s : Int) (xs : List Int) : ∀ k, (secP s xs k).length ≤ 2 * k
  | 0 => by simp [secP]
  | k + 1 => by
    have ih := secP_len s xs k
    rw [secP]
    split
    · simp; omega
    · omega
def cntN : Nat → (Int → Bool) → Nat | 0, _ => 0 | n + 1, f => cntN n f + if f n then 1 else 0
theorem cntN_congr {f g : Int → Bool} (h : ∀ x, f x = g x) : ∀ n, cntN n f = cntN n g
  | 0 => rfl
  | n + 1 => by rw [cntN, cntN, cntN_congr h n, h]
theorem cntN_put (f : Int → Bool) (x : Int) : ∀ n : Nat, cntN n (fun y => f y || decide (y = x)) = cntN n f + if (0 ≤ x ∧ x < n) ∧ f x = false then 1 else 0
  | 0 => by simp [cntN]; omega
  | n + 1 => by
    have ih := cntN_put f x n
    rw [cntN, cntN, ih]
    by_cases e : (n : Int) = x
    · subst e
      have : ¬ ((0 ≤ (n : Int) ∧ (n : Int) < (n : Int)) ∧ f n = false) := by omega
      rw [if_neg this]
      cases hf : f n
      · simp; omega
      · simp
    · have e1 : (f n || decide ((n : Int) = x)) = f n := by rw [decide_eq_false e, Bool.or_false]
      rw [e1]
      have e2 : ((0 ≤ x ∧ x < (n : Int)) ∧ f x = false) ↔ ((0 ≤ x ∧ x < ((n + 1 : Nat) : Int)) ∧ f x = false) := by constructor <;> (rintro ⟨h1, h2⟩; exact ⟨by omega, h2⟩)
      simp only [e2]
      omega
def fL (l : List Int) (y : Int) : Bool := decide (y ∈ l)
theorem fL_snoc (l : List Int) (x y : Int) : fL (l ++ [x]) y = (fL l y || decide (y = x)) := by
  unfold fL
  rw [Bool.eq_iff_iff]
  simp
theorem cnt_rev : ∀ r : List Int, r.reverse.Nodup → (∀ x ∈ r.reverse, 0 ≤ x ∧ x < 128) → cntN 128 (fL r.reverse) = r.reverse.length
  | [], _, _ => by decide +kernel
  | x :: r, hn, hb => by
    rw [List.reverse_cons] at *
    have ih := cnt_rev r (List.nodup_append.1 hn).1 (fun y hy => hb y (List.mem_append_left _ hy))
    rw [cntN_congr (fL_snoc r.reverse x) 128, cntN_put, ih]
    have h1 := hb x (by simp)
    have h2 : fL r.reverse x = false := by
      unfold fL
      rw [decide_eq_false_iff_not]
      intro hx
      exact (List.nodup_append.1 hn).2.2 x hx x (by simp) rfl
    rw [if_pos ⟨by omega, h2⟩]
    simp
theorem cnt_asc {l : List Int} (h : l.Pairwise (· < ·)) (hb : ∀ x ∈ l, 0 ≤ x ∧ x < 128) : cntN 128 (fL l) = l.length :=
  by have := cnt_rev l.reverse (by rw [List.reverse_reverse]; exact h.imp fun h => by omega) (by rw [List.reverse_reverse]; exact hb); rwa [List.reverse_reverse] at this
/-- The sectors in the order in which they are wanted. -/
def secW (s : Int) (xs : List Int) : List Int := xs.flatMap fun p => [pagF s p, pagF s p + 1]
theorem secW_snoc (s : Int) (xs : List Int) (p : Int) : secW s (xs ++ [p]) = secW s xs ++ [pagF s p] ++ [pagF s p + 1] := by simp [secW]
theorem secW_len (s : Int) : ∀ xs : List Int, (secW s xs).length = 2 * xs.length
  | [] => rfl
  | p :: xs => by
    have ih := secW_len s xs
    have e : secW s (p :: xs) = [pagF s p, pagF s p + 1] ++ secW s xs := rfl
    rw [e, List.length_append, ih]
    simp
    omega
theorem mem_secP {s : Int} {xs : List Int} : ∀ (k : Nat) (x : Int), x ∈ secP s xs k ↔ ∃ p : Nat, p < k ∧ (p : Int) ∈ xs ∧ (x = pagF s p ∨ x = pagF s p + 1)
  | 0, x => by simp [secP]
  | k + 1, x => by
    have ih := mem_secP (s := s) (xs := xs) k x
    rw [secP]
    by_cases hc : (k : Int) ∈ xs
    · rw [if_pos (by simpa [chB] using hc), List.mem_append, ih]
      constructor
      · rintro (⟨p, h1, h2, h3⟩ | h)
        · exact ⟨p, by omega, h2, h3⟩
        · exact ⟨k, by omega, hc, by simpa using h⟩
      · rintro ⟨p, h1, h2, h3⟩
        by_cases e : p = k
        · subst e; right; simpa using h3
        · exact .inl ⟨p, by omega, h2, h3⟩
    · rw [if_neg (by simpa [chB] using hc), ih]
      constructor
      · rintro ⟨p, h1, h2, h3⟩; exact ⟨p, by omega, h2, h3⟩
      · rintro ⟨p, h1, h2, h3⟩
        by_cases e : p = k
        · subst e; exact absurd h2 hc
        · exact ⟨p, by omega, h2, h3⟩
theorem want_same {s : Int} {xs : List Int} (h : ∀ x ∈ xs, 0 ≤ x ∧ x < 8) (y : Int) : fL (secW s xs) y = fL (secP s xs 8) y := by
  unfold fL
  rw [Bool.eq_iff_iff, decide_eq_true_eq, decide_eq_true_eq, mem_secP]
  unfold secW
  rw [List.mem_flatMap]
  constructor
  · rintro ⟨p, hp, hy⟩
    have := h p hp
    obtain ⟨q, rfl⟩ := Int.eq_ofNat_of_zero_le this.1
    exact ⟨q, by omega, hp, by simpa using hy⟩
  · rintro ⟨p, -, hp, hy⟩
    exact ⟨p, hp, by simpa using hy⟩
end Go.Proofs.Ytfoeemibhkkbgaa
