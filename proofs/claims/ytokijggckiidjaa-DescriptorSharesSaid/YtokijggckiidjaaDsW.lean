/- Which Open a descriptor came from (layer 18), as plain mathematics: words of my own, no program is named here. -/
import Derived.Test.YtokijggckiidjaaDsL
namespace Go.Mine
open Go Go.RowKit
def whoW (W : List Int) (p k : Nat) : Int := W.getD (p * 16 + k) 0
def eD (d : Dd) (p k : Nat) : Int := (d.t.getD p []).getD k 0
/-- The descriptors d; which Open each came from; the offset of each Open. -/
structure ShI (d : Dd) (W OF : List Int) : Prop where
  ok : OkDd d
  tl : d.t.length = 3
  wl : W.length = 48
  z : ∀ p k, p < 3 → k < 16 → (eD d p k = 0 ↔ whoW W p k = 0)
  r : ∀ p k (n : Nat), p < 3 → k < 16 → eD d p k = (n : Int) + 1 → 1 ≤ whoW W p k ∧ whoW W p k ≤ OF.length ∧ (d.o.getD n zDs).o = OF.getD (whoW W p k - 1).toNat 0
  e : ∀ p k p' k', p < 3 → k < 16 → p' < 3 → k' < 16 → eD d p k ≠ 0 → eD d p' k' ≠ 0 → (eD d p k = eD d p' k' ↔ whoW W p k = whoW W p' k')
theorem whoW_set {W : List Int} (hw : W.length = 48) {p k p' k' : Nat} (hp : p < 3) (hk : k < 16) (hk' : k' < 16) (v : Int) : whoW (W.set (p * 16 + k) v) p' k' = if p' = p ∧ k' = k then v else whoW W p' k' := by
  unfold whoW
  by_cases h : p' = p ∧ k' = k
  · rw [if_pos h, h.1, h.2]; exact setD_eq (by omega)
  · rw [if_neg h, setD_ne (by omega)]
theorem eD_setT {T : List (List Int)} {o o' : List Ds} (h16 : ∀ p, p < T.length → (T.getD p []).length = 16) {p i p' k' : Nat} {v : Int} (hp' : p' < T.length) (hk' : k' < 16) : eD ⟨setT T p i v, o'⟩ p' k' = if p' = p ∧ k' = i then v else eD ⟨T, o⟩ p' k' := by
  unfold eD
  rcases setT_at (T := T) (p := p) (i := i) (v := v) hp' (i' := k') (by rw [h16 p' hp']; exact hk') with ⟨e, h⟩ | ⟨e, h⟩
  · rw [if_pos h]; exact e
  · rw [if_neg h]; exact e
theorem ShI.ent {d : Dd} {W OF : List Int} (h : ShI d W OF) {p k : Nat} (hp : p < 3) (hk : k < 16) : eD d p k = 0 ∨ ∃ n : Nat, eD d p k = (n : Int) + 1 ∧ n < d.o.length := by
  have := h.ok.n p (by rw [h.tl]; exact hp) k hk
  have e : eD d p k = (d.t.getD p []).getD k 0 := rfl
  by_cases h0 : eD d p k = 0
  · exact .inl h0
  · exact .inr ⟨(eD d p k - 1).toNat, by omega, by omega⟩
theorem ShI.start : ShI (newD 3) (List.replicate 48 0) [] := by
  have hrow : ∀ p k, p < 3 → k < 16 → eD (newD 3) p k = 0 := fun p k hp hk => by
    show ((List.replicate 3 (List.replicate 16 (0 : Int))).getD p []).getD k 0 = 0
    have h1 : (List.replicate 3 (List.replicate 16 (0 : Int))).getD p [] = List.replicate 16 0 := by
      have hp' : p < (List.replicate 3 (List.replicate 16 (0 : Int))).length := by rw [List.length_replicate]; exact hp
      rw [getD_get hp', List.getElem_replicate]
    rw [h1]
    have hk' : k < (List.replicate 16 (0 : Int)).length := by rw [List.length_replicate]; exact hk
    rw [getD_get hk', List.getElem_replicate]
  have hwho : ∀ p k, p < 3 → k < 16 → whoW (List.replicate 48 0) p k = 0 := fun p k hp hk => by
    unfold whoW
    have hk' : p * 16 + k < (List.replicate 48 (0 : Int)).length := by rw [List.length_replicate]; omega
    rw [getD_get hk', List.getElem_replicate]
  refine ⟨newD_ok (by decide) (by decide), List.length_replicate, List.length_replicate, fun p k hp hk => ?_, fun p k n hp hk he => ?_, fun p k p' k' hp hk hp' hk' h1 => ?_⟩
  · rw [hrow p k hp hk, hwho p k hp hk]
  · rw [hrow p k hp hk] at he; omega
  · exact absurd (hrow p k hp hk) h1
/-- The least free one. -/
theorem ShI.least {d : Dd} {W OF : List Int} (h : ShI d W OF) {p L : Nat} (hp : p < 3) (hL : L ≤ 16) (hk : ∀ j, j < L → whoW W p j ≠ 0) (h0 : L < 16 → whoW W p L = 0) : frD (d.t.getD p []) = L := by
  have hl := h.ok.t p (by rw [h.tl]; exact hp)
  by_cases hlt : L < 16
  · exact frD_at (by omega) ((h.z p L hp hlt).2 (h0 hlt)) (fun j hj h1 => hk j hj ((h.z p j hp (by omega)).1 h1))
  · obtain rfl : L = 16 := by omega
    rw [frD_none (fun j hj h1 => hk j (by omega) ((h.z p j hp (by omega)).1 h1)), hl]
theorem ShI.opn {d : Dd} {W OF : List Int} (h : ShI d W OF) {p : Nat} (hp : p < 3) (hf : frD (d.t.getD p []) < 16) {x : Ds} (hx : rtD x = true) (hr : x.r = 1) (ho : x.o = 0) : ShI (opD d p x) (W.set (p * 16 + frD (d.t.getD p [])) ((OF.length : Int) + 1)) (OF ++ [0]) := by
  have hpt : p < d.t.length := by rw [h.tl]; exact hp
  have ok := opD_ok h.ok hpt hf (rtD_iff.1 hx) hr
  have hE : ∀ p' k', p' < 3 → k' < 16 → eD (opD d p x) p' k' = if p' = p ∧ k' = frD (d.t.getD p []) then (atD d.o : Int) + 1 else eD d p' k' := fun p' k' h1 h2 => eD_setT h.ok.t (by rw [h.tl]; exact h1) h2
  have hW : ∀ p' k', k' < 16 → whoW (W.set (p * 16 + frD (d.t.getD p [])) ((OF.length : Int) + 1)) p' k' = if p' = p ∧ k' = frD (d.t.getD p []) then (OF.length : Int) + 1 else whoW W p' k' := fun p' k' h2 => whoW_set h.wl hp hf h2 _
  have hno : ∀ p' k', p' < 3 → k' < 16 → eD d p' k' ≠ (atD d.o : Int) + 1 := fun p' k' h1 h2 he => by
    have h3 := cntD_mem (T := d.t) (p := p') (i := k') (k := atD d.o) (by rw [h.tl]; exact h1) (by rw [h.ok.t p' (by rw [h.tl]; exact h1)]; exact h2) he
    rw [atD_cnt h.ok] at h3
    omega
  refine ⟨ok, (setT_len _ _ _ _).trans h.tl, List.length_set.trans h.wl, fun p' k' h1 h2 => ?_, fun p' k' n h1 h2 he => ?_, fun p1 k1 p2 k2 a1 b1 a2 b2 n1 n2 => ?_⟩
  · rw [hE p' k' h1 h2, hW p' k' h2]
    split
    · constructor <;> intro <;> omega
    · exact h.z p' k' h1 h2
  · rw [hE p' k' h1 h2] at he
    rw [hW p' k' h2]
    show _ ∧ _ ∧ ((putD d.o (atD d.o) x).getD n zDs).o = _
    by_cases hc : p' = p ∧ k' = frD (d.t.getD p [])
    · rw [if_pos hc] at he ⊢
      obtain rfl : n = atD d.o := by omega
      rw [putD_eq x (atD_le _), ho, List.length_append, List.length_singleton]
      refine ⟨by omega, by omega, ?_⟩
      rw [show ((OF.length : Int) + 1 - 1).toNat = OF.length by omega]
      simp [List.getD]
    · rw [if_neg hc] at he ⊢
      have h3 := h.r p' k' n h1 h2 he
      have hne : n ≠ atD d.o := fun q => hno p' k' h1 h2 (by rw [he, q])
      rw [putD_ne x (atD_le _) hne, List.length_append, List.length_singleton]
      refine ⟨h3.1, by omega, ?_⟩
      rw [h3.2.2]
      simp only [List.getD]
      rw [List.getElem?_append_left (by omega)]
  · rw [hE p1 k1 a1 b1] at n1 ⊢
    rw [hE p2 k2 a2 b2] at n2 ⊢
    rw [hW p1 k1 b1, hW p2 k2 b2]
    by_cases c1 : p1 = p ∧ k1 = frD (d.t.getD p []) <;> by_cases c2 : p2 = p ∧ k2 = frD (d.t.getD p [])
    · rw [if_pos c1, if_pos c2, if_pos c1, if_pos c2]; exact ⟨fun _ => rfl, fun _ => rfl⟩
    · rw [if_pos c1, if_neg c2, if_pos c1, if_neg c2]
      rw [if_neg c2] at n2
      rcases h.ent a2 b2 with q | ⟨n, q, -⟩
      · exact absurd q n2
      · have := h.r p2 k2 n a2 b2 q
        exact ⟨fun e => absurd e.symm (hno p2 k2 a2 b2), fun e => by omega⟩
    · rw [if_neg c1, if_pos c2, if_neg c1, if_pos c2]
      rw [if_neg c1] at n1
      rcases h.ent a1 b1 with q | ⟨n, q, -⟩
      · exact absurd q n1
      · have := h.r p1 k1 n a1 b1 q
        exact ⟨fun e => absurd e (hno p1 k1 a1 b1), fun e => by omega⟩
    · rw [if_neg c1, if_neg c2, if_neg c1, if_neg c2]
      rw [if_neg c1] at n1
      rw [if_neg c2] at n2
      exact h.e p1 k1 p2 k2 a1 b1 a2 b2 n1 n2
theorem ShI.dup {d : Dd} {W OF : List Int} (h : ShI d W OF) {p q n : Nat} (hp : p < 3) (hq : q < 16) (hf : frD (d.t.getD p []) < 16) (he : eD d p q = (n : Int) + 1) (hn : n < d.o.length) : ShI (duD d p n) (W.set (p * 16 + frD (d.t.getD p [])) (whoW W p q)) OF := by
  have hpt : p < d.t.length := by rw [h.tl]; exact hp
  have ok := duD_ok h.ok hpt hf hq hn he
  have hE : ∀ p' k', p' < 3 → k' < 16 → eD (duD d p n) p' k' = if p' = p ∧ k' = frD (d.t.getD p []) then eD d p q else eD d p' k' := fun p' k' h1 h2 => by rw [he]; exact eD_setT h.ok.t (by rw [h.tl]; exact h1) h2
  have hW : ∀ p' k', k' < 16 → whoW (W.set (p * 16 + frD (d.t.getD p [])) (whoW W p q)) p' k' = if p' = p ∧ k' = frD (d.t.getD p []) then whoW W p q else whoW W p' k' := fun p' k' h2 => whoW_set h.wl hp hf h2 _
  have hO : ∀ m, ((duD d p n).o.getD m zDs).o = (d.o.getD m zDs).o := fun m => by
    show ((d.o.set n _).getD m zDs).o = _
    by_cases e : m = n
    · subst e; rw [setO_eq hn]
    · rw [setO_ne e]
  refine ⟨ok, (setT_len _ _ _ _).trans h.tl, List.length_set.trans h.wl, fun p' k' h1 h2 => ?_, fun p' k' m h1 h2 hm => ?_, fun p1 k1 p2 k2 a1 b1 a2 b2 n1 n2 => ?_⟩
  · rw [hE p' k' h1 h2, hW p' k' h2]
    split
    · exact h.z p q hp hq
    · exact h.z p' k' h1 h2
  · rw [hE p' k' h1 h2] at hm
    rw [hW p' k' h2, hO]
    split at hm
    · rename_i hc; rw [if_pos hc]; exact h.r p q m hp hq hm
    · rename_i hc; rw [if_neg hc]; exact h.r p' k' m h1 h2 hm
  · rw [hE p1 k1 a1 b1] at n1 ⊢
    rw [hE p2 k2 a2 b2] at n2 ⊢
    rw [hW p1 k1 b1, hW p2 k2 b2]
    by_cases c1 : p1 = p ∧ k1 = frD (d.t.getD p []) <;> by_cases c2 : p2 = p ∧ k2 = frD (d.t.getD p [])
    · rw [if_pos c1, if_pos c2, if_pos c1, if_pos c2]; exact ⟨fun _ => rfl, fun _ => rfl⟩
    · rw [if_pos c1] at n1; rw [if_neg c2] at n2
      rw [if_pos c1, if_neg c2, if_pos c1, if_neg c2]
      exact h.e p q p2 k2 hp hq a2 b2 n1 n2
    · rw [if_neg c1] at n1; rw [if_pos c2] at n2
      rw [if_neg c1, if_pos c2, if_neg c1, if_pos c2]
      exact h.e p1 k1 p q a1 b1 hp hq n1 n2
    · rw [if_neg c1] at n1; rw [if_neg c2] at n2
      rw [if_neg c1, if_neg c2, if_neg c1, if_neg c2]
      exact h.e p1 k1 p2 k2 a1 b1 a2 b2 n1 n2
/-- Some descriptor is still of that Open. -/
def leftW (W : List Int) (x : Int) : Prop := ∃ p k, p < 3 ∧ k < 16 ∧ whoW W p k = x
theorem ShI.cls {d : Dd} {W OF : List Int} (h : ShI d W OF) {p q n : Nat} (hp : p < 3) (hq : q < 16) (he : eD d p q = (n : Int) + 1) (hn : n < d.o.length) :
    ShI (clD d p q n).1 (W.set (p * 16 + q) 0) OF ∧ ((clD d p q n).2 = true ↔ ¬leftW (W.set (p * 16 + q) 0) (whoW W p q)) := by
  have hpt : p < d.t.length := by rw [h.tl]; exact hp
  have ok := clD_ok h.ok hpt hq hn he
  have hE0 : ∀ p' k', p' < 3 → k' < 16 → eD ⟨setT d.t p q 0, d.o⟩ p' k' = if p' = p ∧ k' = q then 0 else eD d p' k' := fun p' k' h1 h2 => eD_setT h.ok.t (by rw [h.tl]; exact h1) h2
  have hE : ∀ p' k', p' < 3 → k' < 16 → eD (clD d p q n).1 p' k' = if p' = p ∧ k' = q then 0 else eD d p' k' := fun p' k' h1 h2 => by
    rw [← hE0 p' k' h1 h2]
    show ((clD d p q n).1.t.getD p' []).getD k' 0 = _
    rw [clD_tab]; rfl
  have hW : ∀ p' k', k' < 16 → whoW (W.set (p * 16 + q) 0) p' k' = if p' = p ∧ k' = q then 0 else whoW W p' k' := fun p' k' h2 => whoW_set h.wl hp hq h2 _
  have hwq := h.r p q n hp hq he
  have htl : (clD d p q n).1.t.length = 3 := by rw [clD_tab, setT_len, h.tl]
  have hcnt : ∀ m, 0 < cntD (setT d.t p q 0).flatten m ↔ ∃ p' k', p' < 3 ∧ k' < 16 ∧ ¬(p' = p ∧ k' = q) ∧ eD d p' k' = (m : Int) + 1 := fun m => by
    constructor
    · intro hm
      obtain ⟨p', k', h1, h2, h3⟩ := cntD_ex hm
      have hp' : p' < 3 := by rw [setT_len, h.tl] at h1; exact h1
      have hk' : k' < 16 := by rw [setT_row h.ok.t p' h1] at h2; exact h2
      have h4 : eD ⟨setT d.t p q 0, d.o⟩ p' k' = (m : Int) + 1 := h3
      rw [hE0 p' k' hp' hk'] at h4
      by_cases hc : p' = p ∧ k' = q
      · rw [if_pos hc] at h4; omega
      · rw [if_neg hc] at h4; exact ⟨p', k', hp', hk', hc, h4⟩
    · rintro ⟨p', k', h1, h2, h3, h4⟩
      have h5 : eD ⟨setT d.t p q 0, d.o⟩ p' k' = (m : Int) + 1 := by rw [hE0 p' k' h1 h2, if_neg h3]; exact h4
      have h6 : p' < (setT d.t p q 0).length := by rw [setT_len, h.tl]; exact h1
      exact cntD_mem h6 (by rw [setT_row h.ok.t p' h6]; exact h2) h5
  have hO : ∀ p' k' (m : Nat), p' < 3 → k' < 16 → ¬(p' = p ∧ k' = q) → eD d p' k' = (m : Int) + 1 → ((clD d p q n).1.o.getD m zDs).o = (d.o.getD m zDs).o := fun p' k' m h1 h2 h3 h4 => by
    have hm := (hcnt m).2 ⟨p', k', h1, h2, h3, h4⟩
    by_cases hg : 0 < (d.o.getD n zDs).r - 1
    · rw [clD_t hg]
      show ((d.o.set n _).getD m zDs).o = _
      by_cases e : m = n
      · subst e; rw [setO_eq hn]
      · rw [setO_ne e]
    · have hc := clD_cnt h.ok hpt hq he m
      have hrn := (h.ok.r n hn).1
      have hne : m ≠ n := fun e => by
        subst e
        rw [if_pos rfl] at hc
        omega
      have hml : m < (clD d p q n).1.o.length := by
        have h7 := (ok.n p' (by rw [htl]; exact h1) k' h2).2
        have h8 : ((clD d p q n).1.t.getD p' []).getD k' 0 = (m : Int) + 1 := by
          have := hE p' k' h1 h2
          rw [if_neg h3, h4] at this
          exact this
        rw [h8] at h7
        omega
      rw [clD_f hg] at hml ⊢
      have hml2 : m < lsD (d.o.set n zDs) (d.o.set n zDs).length := by
        have : m < (trD (d.o.set n zDs)).length := hml
        rwa [trD_len] at this
      show ((trD (d.o.set n zDs)).getD m zDs).o = _
      rw [trD_at hml2, setO_ne hne]
  refine ⟨⟨ok, htl, List.length_set.trans h.wl, fun p' k' h1 h2 => ?_, fun p' k' m h1 h2 hm => ?_, fun p1 k1 p2 k2 a1 b1 a2 b2 n1 n2 => ?_⟩, ?_⟩
  · rw [hE p' k' h1 h2, hW p' k' h2]
    split
    · exact ⟨fun _ => rfl, fun _ => rfl⟩
    · exact h.z p' k' h1 h2
  · rw [hE p' k' h1 h2] at hm
    by_cases hc : p' = p ∧ k' = q
    · rw [if_pos hc] at hm; omega
    · rw [if_neg hc] at hm
      rw [hW p' k' h2, if_neg hc, hO p' k' m h1 h2 hc hm]
      exact h.r p' k' m h1 h2 hm
  · rw [hE p1 k1 a1 b1] at n1 ⊢
    rw [hE p2 k2 a2 b2] at n2 ⊢
    by_cases c1 : p1 = p ∧ k1 = q
    · rw [if_pos c1] at n1; exact absurd rfl n1
    · by_cases c2 : p2 = p ∧ k2 = q
      · rw [if_pos c2] at n2; exact absurd rfl n2
      · rw [if_neg c1] at n1 ⊢
        rw [if_neg c2] at n2 ⊢
        rw [hW p1 k1 b1, hW p2 k2 b2, if_neg c1, if_neg c2]
        exact h.e p1 k1 p2 k2 a1 b1 a2 b2 n1 n2
  · have hc := clD_cnt h.ok hpt hq he n
    rw [if_pos rfl] at hc
    have hrn := (h.ok.r n hn).1
    have hleft : 0 < cntD (setT d.t p q 0).flatten n ↔ leftW (W.set (p * 16 + q) 0) (whoW W p q) := by
      rw [hcnt n]
      constructor
      · rintro ⟨p', k', h1, h2, h3, h4⟩
        refine ⟨p', k', h1, h2, ?_⟩
        rw [hW p' k' h2, if_neg h3]
        exact (h.e p' k' p q h1 h2 hp hq (by omega) (by omega)).1 (by rw [h4, he])
      · rintro ⟨p', k', h1, h2, h3⟩
        rw [hW p' k' h2] at h3
        by_cases hx : p' = p ∧ k' = q
        · rw [if_pos hx] at h3; omega
        · rw [if_neg hx] at h3
          have hnz : eD d p' k' ≠ 0 := fun q0 => by have := (h.z p' k' h1 h2).1 q0; omega
          exact ⟨p', k', h1, h2, hx, by rw [← he]; exact (h.e p' k' p q h1 h2 hp hq hnz (by omega)).2 h3⟩
    by_cases hg : 0 < (d.o.getD n zDs).r - 1
    · rw [clD_t hg]
      exact ⟨fun e => (by simp at e), fun e => absurd (hleft.1 (by omega)) e⟩
    · rw [clD_f hg]
      exact ⟨fun _ hl => by have := hleft.2 hl; omega, fun _ => rfl⟩
theorem ShI.frk {d : Dd} {W W' OF : List Int} (h : ShI d W OF) {a b : Nat} (ha : a < 3) (hb : b < 3) (hz : ∀ k, k < 16 → whoW W b k = 0) (hl : W'.length = 48) (hW : ∀ p k, p < 3 → k < 16 → whoW W' p k = if p = b then whoW W a k else whoW W p k) : ShI (fkD d a b) W' OF := by
  have hat : a < d.t.length := by rw [h.tl]; exact ha
  have hbt : b < d.t.length := by rw [h.tl]; exact hb
  have ok := fkD_ok h.ok hat hbt (fun i hi => (h.z b i hb hi).2 (hz i hi))
  have hE : ∀ p k, p < 3 → k < 16 → eD (fkD d a b) p k = if p = b then eD d a k else eD d p k := fun p k h1 h2 => by
    show ((fkD d a b).t.getD p []).getD k 0 = _
    rw [fkD_row (by rw [h.tl]; exact h1)]
    split
    · rfl
    · rfl
  have hO : ∀ m, m < d.o.length → ((fkD d a b).o.getD m zDs).o = (d.o.getD m zDs).o := fun m hm => by
    show ((addD d.o _).getD m zDs).o = _
    rw [addD_at hm]
  have hml : ∀ p k (m : Nat), p < 3 → k < 16 → eD d p k = (m : Int) + 1 → m < d.o.length := fun p k m h1 h2 h3 => by
    rcases h.ent h1 h2 with q | ⟨n, q, hq⟩ <;> omega
  have hs : ∀ p k, p < 3 → k < 16 → ∃ p', p' < 3 ∧ eD (fkD d a b) p k = eD d p' k ∧ whoW W' p k = whoW W p' k := fun p k h1 h2 => by
    rw [hE p k h1 h2, hW p k h1 h2]
    by_cases c : p = b
    · rw [if_pos c, if_pos c]; exact ⟨a, ha, rfl, rfl⟩
    · rw [if_neg c, if_neg c]; exact ⟨p, h1, rfl, rfl⟩
  refine ⟨ok, List.length_set.trans h.tl, hl, fun p k h1 h2 => ?_, fun p k n h1 h2 he => ?_, fun p1 k1 p2 k2 a1 b1 a2 b2 n1 n2 => ?_⟩
  · obtain ⟨p', hp', e1, e2⟩ := hs p k h1 h2
    rw [e1, e2]; exact h.z p' k hp' h2
  · obtain ⟨p', hp', e1, e2⟩ := hs p k h1 h2
    rw [e1] at he
    rw [e2, hO n (hml p' k n hp' h2 he)]
    exact h.r p' k n hp' h2 he
  · obtain ⟨q1, hq1, e1, e2⟩ := hs p1 k1 a1 b1
    obtain ⟨q2, hq2, e3, e4⟩ := hs p2 k2 a2 b2
    rw [e1] at n1
    rw [e3] at n2
    rw [e1, e2, e3, e4]
    exact h.e q1 k1 q2 k2 hq1 b1 hq2 b2 n1 n2
theorem ShI.upd {d : Dd} {W OF : List Int} (h : ShI d W OF) {p q n : Nat} (hp : p < 3) (hq : q < 16) (he : eD d p q = (n : Int) + 1) (hn : n < d.o.length) {y : Ds} (hy : (0 ≤ y.o ∧ y.o ≤ 128) ∧ 0 ≤ y.c ∧ y.c ≤ 1000000) : ShI (upO d n y) W (OF.set (whoW W p q - 1).toNat y.o) := by
  have hpos := cntD_mem (T := d.t) (p := p) (i := q) (k := n) (by rw [h.tl]; exact hp) (by rw [h.ok.t p (by rw [h.tl]; exact hp)]; exact hq) he
  have hrn := (h.ok.r n hn).1
  have ok := upO_ok h.ok hn (by omega) hy
  have hE : ∀ p k, eD (upO d n y) p k = eD d p k := fun p k => rfl
  have hwq := h.r p q n hp hq he
  refine ⟨ok, h.tl, h.wl, h.z, fun p' k' m h1 h2 hm => ?_, h.e⟩
  have hm' : eD d p' k' = (m : Int) + 1 := hm
  have h3 := h.r p' k' m h1 h2 hm'
  rw [List.length_set]
  refine ⟨h3.1, h3.2.1, ?_⟩
  have hee := h.e p' k' p q h1 h2 hp hq (by omega) (by omega)
  show ((d.o.set n _).getD m zDs).o = _
  by_cases e : m = n
  · subst e
    have hw : whoW W p' k' = whoW W p q := hee.1 (by rw [hm', he])
    rw [setO_eq hn, hw, setD_eq (by omega)]
  · have hw : whoW W p' k' ≠ whoW W p q := fun e2 => e (by have := hee.2 e2; omega)
    rw [setO_ne e, setD_ne (by omega)]
    exact h3.2.2
/-- What looking up answers. -/
theorem ShI.lk {d : Dd} {W OF : List Int} (h : ShI d W OF) {p k : Nat} (hp : p < 3) (hk : k < 16) : (whoW W p k = 0 ∧ lkD d p k = (0, zDs, 4)) ∨ ∃ n : Nat, whoW W p k ≠ 0 ∧ eD d p k = (n : Int) + 1 ∧ n < d.o.length ∧ lkD d p k = ((n : Int), d.o.getD n zDs, 0) := by
  have p1 : (0 : Int) ≤ (p : Int) ∧ (p : Int) ≤ (d.t.length : Int) - 1 := by rw [h.tl]; omega
  have q1 : (0 : Int) ≤ (k : Int) ∧ (k : Int) ≤ 15 := by omega
  have ee : entD d p k = eD d p k := rfl
  rcases h.ent hp hk with q | ⟨n, q, hn⟩
  · exact .inl ⟨(h.z p k hp hk).1 q, lkD_4 (okD_iff.2 h.ok) p1 (fun hh => hh.2 (by rw [ee]; exact q))⟩
  · refine .inr ⟨n, fun h0 => by have := (h.z p k hp hk).2 h0; omega, q, hn, ?_⟩
    rw [lkD_0 (okD_iff.2 h.ok) p1 q1 (by rw [ee]; omega), ee, q, show (n : Int) + 1 - 1 = (n : Int) by omega, Int.toNat_natCast]
/-! In memory. -/
def wA (W : List Int) : Array Value := (W.map (Value.int .i64)).toArray
theorem wA_set (W : List Int) (i : Nat) (x : Int) : (wA W).setIfInBounds i (.int .i64 x) = wA (W.set i x) := by
  unfold wA
  rw [List.setIfInBounds_toArray, List.map_set]
def pH (lo gd gw : Nat) (v : Value) (z : Nat) : Prop := lo ≤ z ∧ z ≠ gd ∧ z ≠ gw ∧ v.ownBlock ≠ some z
structure ShW (w : World) (TD TW Ti : TypeId) (gd gw : Nat) (v : Value) (OF W : List Int) (a b : Value) (d : Dd) (wr : World) : Prop where
  dbox : Own wr gd TD #[a, b]
  who : Own wr gw TW (wA W)
  row : RowE Ti 1 enc1 wr (w.heap.size + 1) v OF
  dd : DdP wr (pH (w.heap.size + 1) gd gw v) a b d
  rd : v.ownBlock ≠ some gd
  rw : v.ownBlock ≠ some gw
  ne : gd ≠ gw
  ld : w.heap.size + 1 ≤ gd
  lw : w.heap.size + 1 ≤ gw
  tp : Tp (w.heap.size + 1) wr w.heap.size
  g : Grew w wr
section
variable {w wr w' w2 E : World} {TD TW Ti : TypeId} {gd gw : Nat} {v a b x y : Value} {OF W : List Int} {d d' : Dd}
theorem ShW.grew (h : ShW w TD TW Ti gd gw v OF W a b d wr) (k : Grew wr w') : ShW w TD TW Ti gd gw v OF W a b d w' := ⟨h.dbox.grew k, h.who.grew k, h.row.grew k, h.dd.grew k, h.rd, h.rw, h.ne, h.ld, h.lw, h.tp.grew k, h.g.trans k⟩
theorem ShW.next (h : ShW w TD TW Ti gd gw v OF W a b d wr) (t : Tp (w.heap.size + 1) w' w.heap.size) (k : wr.grownBy w' (some w.heap.size)) : ShW w TD TW Ti gd gw v OF W a b d w' := by
  have h1 := h.ld
  have h2 := h.lw
  exact ⟨h.dbox.past k (by omega), h.who.past k (by omega), h.row.past k (by omega), h.dd.past k (fun e => by have := e.1; omega), h.rd, h.rw, h.ne, h.ld, h.lw, t, h.g.past k (Nat.le_refl _)⟩
theorem ShW.hl (h : ShW w TD TW Ti gd gw v OF W a b d wr) : w.heap.size + 1 ≤ wr.heap.size := by have := h.dbox.lt; have := h.ld; omega
/-- New descriptors, not in the box yet. -/
theorem ShW.res (h : ShW w TD TW Ti gd gw v OF W a b d wr) (D : DdP w2 (pW (pH (w.heap.size + 1) gd gw v) wr) x y d') : DdP w2 (pH (w.heap.size + 1) gd gw v) x y d' := D.mono fun z hz => by
  rcases hz with hz | hz
  · exact hz
  · have h1 := h.dbox.lt
    have h2 := h.who.lt
    have h3 := h.hl
    exact ⟨by omega, by omega, by omega, fun e => by have := h.row.lt z e; omega⟩
theorem ShW.put (h : ShW w TD TW Ti gd gw v OF W a b d wr) (D : DdP wr (pH (w.heap.size + 1) gd gw v) x y d') (hw : (wr.setCell ⟨gd, 0, none⟩ x).setCell ⟨gd, 1, none⟩ y = E) : ShW w TD TW Ti gd gw v OF W x y d' E := by
  have gg := grown2D hw
  have h1 := h.ld
  refine ⟨h.dbox.store2D hw, h.who.far2D hw h.ne.symm, h.row.keptG gg (fun k e e2 => by injection e with e; subst e; exact h.rd e2), D.past gg (fun e => e.2.1 rfl), h.rd, h.rw, h.ne, h.ld, h.lw, ?_, h.g.far2D hw (by omega)⟩
  rw [← hw]
  exact (h.tp.set (p := ⟨gd, 0, none⟩) (show w.heap.size + 1 ≤ gd from h1) x).set (p := ⟨gd, 1, none⟩) (show w.heap.size + 1 ≤ gd from h1) y
theorem ShW.setW (h : ShW w TD TW Ti gd gw v OF W a b d wr) (i : Nat) (z : Int) : ShW w TD TW Ti gd gw v OF (W.set i z) a b d (wr.setCell ⟨gw, i, none⟩ (.int .i64 z)) := by
  have gg : wr.grownBy (wr.setCell ⟨gw, i, none⟩ (.int .i64 z)) (some gw) := grown_set (p := ⟨gw, i, none⟩) (grown_refl wr (some gw)) (.inl rfl) _
  have h2 := h.lw
  have hs := h.who.set i (.int .i64 z)
  rw [wA_set] at hs
  exact ⟨h.dbox.past gg h.ne, hs, h.row.keptG gg (fun k e e2 => by injection e with e; subst e; exact h.rw e2), h.dd.past gg (fun e => e.2.2.1 rfl), h.rd, h.rw, h.ne, h.ld, h.lw, h.tp.set (p := ⟨gw, i, none⟩) (show w.heap.size + 1 ≤ gw from h2) _, h.g.set (p := ⟨gw, i, none⟩) (show w.heap.size ≤ gw by omega) _⟩
theorem ShW.whoAt (h : ShW w TD TW Ti gd gw v OF W a b d wr) (hl : W.length = 48) {p k : Nat} (hp : p < 3) (hk : k < 16) : wr.cell? ⟨gw, p * 16 + k, none⟩ = some (.int .i64 (whoW W p k)) := by
  rw [h.who.cell]
  unfold wA whoW
  have hi : p * 16 + k < W.length := by omega
  simp [List.getD, hi]
theorem ShW.whoFz (h : ShW w TD TW Ti gd gw v OF W a b d wr) (i : Nat) : wr.frozen? ⟨gw, i, none⟩ = false := h.who.frozen i
/-- One more Open. -/
theorem ShW.app (h : ShW w TD TW Ti gd gw v OF W a b d wr) {W1 wx : World} (gW : Grew wr W1) {z : Int} {g' n' c' : Nat} (hr : RowE Ti 1 enc1 wx (w.heap.size + 1) (.slice (some ⟨g', 0, none⟩) n' c') (OF ++ [z])) (k : W1.grownBy wx v.ownBlock) (ho : v.ownBlock = some g' ∨ g' = W1.heap.size) :
    ShW w TD TW Ti gd gw (.slice (some ⟨g', 0, none⟩) n' c') (OF ++ [z]) W a b d wx := by
  have h1 := h.grew gW
  have hd := h1.dbox.lt
  have hw := h1.who.lt
  have hva := fun x (e : v.ownBlock = some x) => h1.row.above x e
  have hne : ∀ x, x < W1.heap.size → v.ownBlock ≠ some x → (Value.slice (some ⟨g', 0, none⟩) n' c').ownBlock ≠ some x := fun x hx hv e => by
    have e2 : some g' = some x := e
    injection e2 with e2
    subst e2
    rcases ho with ho | ho
    · exact hv ho
    · omega
  have D2 : DdP W1 (fun z => pH (w.heap.size + 1) gd gw v z ∧ z < W1.heap.size) a b d := h1.dd.lt
  have D3 : DdP wx (fun z => pH (w.heap.size + 1) gd gw v z ∧ z < W1.heap.size) a b d := D2.keptG k (fun z e hz => hz.1.2.2.2 e)
  exact ⟨h1.dbox.keptN k h.rd, h1.who.keptN k h.rw, hr, D3.mono fun z hz => ⟨hz.1.1, hz.1.2.1, hz.1.2.2.1, hne z hz.2 hz.1.2.2.2⟩, hne gd hd h.rd, hne gw hw h.rw, h.ne, h.ld, h.lw, h1.tp.keptA k (B := w.heap.size + 1) hva (Nat.le_refl _), Grew.keptA h1.g k hva (by omega)⟩
theorem ShW.setO {go n c : Nat} (h : ShW w TD TW Ti gd gw (.slice (some ⟨go, 0, none⟩) n c) OF W a b d wr) (j : Nat) (z : Int) : ShW w TD TW Ti gd gw (.slice (some ⟨go, 0, none⟩) n c) (OF.set j z) W a b d (wr.setCell ⟨go, j, none⟩ (.int .i64 z)) := by
  have gg : wr.grownBy (wr.setCell ⟨go, j, none⟩ (.int .i64 z)) (some go) := grown_set (p := ⟨go, j, none⟩) (grown_refl wr (some go)) (.inl rfl) _
  have h2 := h.row.above go rfl
  have e1 : gd ≠ go := fun e => h.rd (congrArg some e.symm)
  have e2 : gw ≠ go := fun e => h.rw (congrArg some e.symm)
  exact ⟨h.dbox.past gg e1, h.who.past gg e2, h.row.storeI j z, h.dd.past gg (fun e => e.2.2.2 rfl), h.rd, h.rw, h.ne, h.ld, h.lw, h.tp.set (p := ⟨go, j, none⟩) (show w.heap.size + 1 ≤ go from h2) _, h.g.set (p := ⟨go, j, none⟩) (show w.heap.size ≤ go by omega) _⟩
end
end Go.Mine
namespace Go.Mine
open Go Go.RowKit
/-- Numbers stored one behind the other. -/
def setsW : List Int → Nat → List Int → List Int
  | W, _, [] => W
  | W, o, x :: xs => setsW (W.set o x) (o + 1) xs
theorem setsW_len : ∀ (xs : List Int) (o : Nat) (W : List Int), (setsW W o xs).length = W.length
  | [], _, _ => rfl
  | x :: xs, o, W => (setsW_len xs (o + 1) (W.set o x)).trans List.length_set
theorem setsW_at : ∀ (xs : List Int) (o : Nat) (W : List Int) (i : Nat), i < W.length → (setsW W o xs).getD i 0 = if o ≤ i ∧ i < o + xs.length then xs.getD (i - o) 0 else W.getD i 0
  | [], o, W, i, _ => by
    have : ¬(o ≤ i ∧ i < o + ([] : List Int).length) := by simp only [List.length_nil]; omega
    rw [if_neg this]; rfl
  | x :: xs, o, W, i, hi => by
    show (setsW (W.set o x) (o + 1) xs).getD i 0 = _
    rw [setsW_at xs (o + 1) (W.set o x) i (by rw [List.length_set]; exact hi), List.length_cons]
    by_cases h1 : o + 1 ≤ i ∧ i < o + 1 + xs.length
    · rw [if_pos h1, if_pos (by omega), show i - o = (i - (o + 1)) + 1 by omega]
      rfl
    · rw [if_neg h1]
      by_cases h2 : o = i
      · subst h2
        rw [if_pos (by omega), Nat.sub_self, setD_eq hi]; rfl
      · rw [if_neg (by omega), setD_ne (fun e => h2 e.symm)]
/-- One process's numbers. -/
def rowW (W : List Int) (p : Nat) : List Int := (W.drop (p * 16)).take 16
theorem rowW_len {W : List Int} (hw : W.length = 48) {p : Nat} (hp : p < 3) : (rowW W p).length = 16 := by unfold rowW; rw [List.length_take, List.length_drop]; omega
theorem rowW_at {W : List Int} {p k : Nat} (hk : k < 16) : (rowW W p).getD k 0 = whoW W p k := by
  unfold rowW whoW
  simp only [List.getD]
  rw [List.getElem?_take, if_pos hk, List.getElem?_drop]
theorem forkW {W : List Int} (hw : W.length = 48) {a b : Nat} (ha : a < 3) (hb : b < 3) : ∀ p k, p < 3 → k < 16 → whoW (setsW W (b * 16) (rowW W a)) p k = if p = b then whoW W a k else whoW W p k := by
  intro p k hp hk
  unfold whoW
  rw [setsW_at _ _ _ _ (by omega), rowW_len hw ha]
  by_cases e : p = b
  · subst e
    rw [if_pos rfl, if_pos (by omega), show p * 16 + k - p * 16 = k by omega, rowW_at hk]; rfl
  · rw [if_neg e, if_neg (by omega)]
theorem ShW.setsW {w : World} {TD TW Ti : TypeId} {gd gw : Nat} {v a b : Value} {OF : List Int} {d : Dd} : ∀ (xs : List Int) (o : Nat) (W : List Int) (wr : World), ShW w TD TW Ti gd gw v OF W a b d wr → ShW w TD TW Ti gd gw v OF (setsW W o xs) a b d (wr.setCells gw o (xs.map (Value.int .i64)))
  | [], _, _, _, h => h
  | x :: xs, o, W, _, h => ShW.setsW xs (o + 1) (W.set o x) _ (h.setW o x)
theorem ShW.rangeW {w wr : World} {TD TW Ti : TypeId} {gd gw : Nat} {v a b : Value} {OF W : List Int} {d : Dd} (h : ShW w TD TW Ti gd gw v OF W a b d wr) (hl : W.length = 48) {p : Nat} (hp : p < 3) : ∀ j u, ((rowW W p).map (Value.int .i64))[j]? = some u → wr.cell? ⟨gw, p * 16 + j, none⟩ = some u := by
  intro j u hu
  rw [List.getElem?_map] at hu
  have hj : j < 16 := by
    rw [← rowW_len hl hp]
    exact Decidable.byContradiction fun hn => by
      rw [List.getElem?_eq_none (Nat.le_of_not_lt hn)] at hu
      cases hu
  rw [h.whoAt hl hp hj, ← rowW_at hj]
  simp only [List.getD]
  cases hq : (rowW W p)[j]? with
  | none => rw [hq] at hu; cases hu
  | some x => rw [hq] at hu; simpa using hu
end Go.Mine
namespace Go.Mine
open Go Go.RowKit
/-- Not the box gx either. -/
def pX (lo gd gw gx : Nat) (v : Value) (z : Nat) : Prop := pH lo gd gw v z ∧ z ≠ gx
section
variable {w wr w' w2 E : World} {TD TW Ti : TypeId} {gd gw gx : Nat} {v a b x y : Value} {OF W : List Int} {d d' : Dd}
theorem ShW.newX (h : ShW w TD TW Ti gd gw v OF W a b d wr) (o : Obj) : DdP (wr.alloc o) (pX (w.heap.size + 1) gd gw wr.heap.size v) a b d ∧ v.ownBlock ≠ some wr.heap.size ∧ wr.heap.size ≠ gd ∧ wr.heap.size ≠ gw ∧ w.heap.size + 1 ≤ wr.heap.size := by
  have h1 := h.dbox.lt
  have h2 := h.who.lt
  exact ⟨(h.dd.lt.mono fun z hz => ⟨hz.1, by have := hz.2; omega⟩).grew ((Grew.refl wr).alloc o), fun e => by have := h.row.lt _ e; omega, by omega, by omega, h.hl⟩
theorem ShW.resX (h : ShW w TD TW Ti gd gw v OF W a b d wr) (hx : gx < wr.heap.size) (D : DdP w2 (pW (pX (w.heap.size + 1) gd gw gx v) wr) x y d') : DdP w2 (pX (w.heap.size + 1) gd gw gx v) x y d' := D.mono fun z hz => by
  rcases hz with hz | hz
  · exact hz
  · have h1 := h.dbox.lt
    have h2 := h.who.lt
    have h3 := h.hl
    exact ⟨⟨by omega, by omega, by omega, fun e => by have := h.row.lt z e; omega⟩, by omega⟩
theorem ShW.farX (h : ShW w TD TW Ti gd gw v OF W a b d wr) (hD : DdP wr (pX (w.heap.size + 1) gd gw gx v) a b d) (hr : v.ownBlock ≠ some gx) (h1 : gx ≠ gd) (h2 : gx ≠ gw) (hl : w.heap.size + 1 ≤ gx) (hw : (wr.setCell ⟨gx, 0, none⟩ x).setCell ⟨gx, 1, none⟩ y = E) : ShW w TD TW Ti gd gw v OF W a b d E := by
  have gg := grown2D hw
  exact ⟨h.dbox.far2D hw h1.symm, h.who.far2D hw h2.symm, h.row.keptG gg (fun k e e2 => by injection e with e; subst e; exact hr e2), (hD.past gg (fun e => e.2 rfl)).mono fun z hz => hz.1, h.rd, h.rw, h.ne, h.ld, h.lw, by
    rw [← hw]
    exact (h.tp.set (p := ⟨gx, 0, none⟩) (show w.heap.size + 1 ≤ gx from hl) x).set (p := ⟨gx, 1, none⟩) (show w.heap.size + 1 ≤ gx from hl) y, h.g.far2D hw (by omega)⟩
end
end Go.Mine
