/- A tree depends on its entries only: plain mathematics. -/
import Derived.Test.YtdlhihllmidfeaaRb4
import Derived.Test.YtdlhihllmidfeaaRm7
import Derived.Test.YtdlhihllmidfeaaRx15
namespace Go.Proofs.Ytdlhihllmidfeaa
open Go.RowKit Go.Mine

theorem heights_le {w w' : World} {p q : Nat → Prop} {h k : Nat} {f : Fen} {s s' : Value} {x m x' m' : Int} (n : TreeF w p h f s x m) (n' : TreeF w' q k f s' x' m') : k ≤ h := by
  rcases Nat.lt_or_ge h k with hl | hl
  · exfalso
    cases k with
    | zero => omega
    | succ r =>
      have hv : (!onlyB r f) = true := n'.valid
      have ho : onlyB r f = true := (onlyB_iff r f).2 (fun j hj _ => n.out j (Nat.le_trans (p4_mono (by omega)) hj))
      rw [ho] at hv
      cases hv
  · exact hl
theorem heights {w w' : World} {p q : Nat → Prop} {h k : Nat} {f : Fen} {s s' : Value} {x m x' m' : Int} (n : TreeF w p h f s x m) (n' : TreeF w' q k f s' x' m') : k = h :=
  Nat.le_antisymm (heights_le n n') (heights_le n' n)
/-- Two valid trees with the same entries are the same. -/
theorem same_trees {w : World} {p q : Nat → Prop} {h k : Nat} {f : Fen} {s s' : Value} {x m x' m' : Int} (n : TreeF w p h f s x m) (n' : TreeF w q k f s' x' m') :
    Calls Try.prog 34 #[treeV h s x m, treeV k s' x' m'] w (RetG (.bool true) w) := by
  obtain rfl := heights n n'
  exact Same_f _ f s s' _ _ _ _ _ _ w n.node n'.node n.good
theorem entS_lt {f : Fen} {n : Nat} {e : En} (h : e ∈ entS f 0 n) : e.1 < (n : Int) := by
  obtain ⟨i, hi, rfl, -⟩ := entS_mem h
  show (0 : Int) + (i : Int) < n
  omega
theorem entS_apart (f : Fen) : ∀ n, (entS f 0 n).Pairwise fun a b => a.1 ≠ b.1
  | 0 => List.Pairwise.nil
  | k + 1 => by
    rw [entS, List.pairwise_append]
    refine ⟨entS_apart f k, ?_, fun a ha b hb => ?_⟩
    · split <;> simp
    · have h1 := entS_lt ha
      split at hb
      · exact absurd hb (by simp)
      · simp at hb
        subst hb
        show a.1 ≠ (k : Int)
        omega
theorem fnOf_S {f : Fen} (hg : GoodF f) : ∀ n i, fnOf (entS f 0 n) i = if i < n then f i else (0, 0)
  | 0, i => rfl
  | k + 1, i => by
    rw [entS]
    have hz : (f k).1 = 0 → f k = (0, 0) := fun h => Prod.ext h ((hg k).2.2.2 (by rw [h]; exact Int.le_refl _))
    by_cases h0 : (f k).1 = 0
    · rw [if_pos h0, List.append_nil, fnOf_S hg k]
      by_cases hi : i = k
      · subst hi; rw [if_neg (by omega), if_pos (by omega), hz h0]
      · by_cases h1 : i < k
        · rw [if_pos h1, if_pos (by omega)]
        · rw [if_neg h1, if_neg (by omega)]
    · rw [if_neg h0, fnOf_snoc (e := ((0 : Int) + (k : Int), f k)) (by show (0 : Int) ≤ 0 + (k : Int); omega) (by
        rw [List.any_eq_false]
        intro y hy
        have := entS_lt hy
        simp
        omega)]
      have e1 : ((0 : Int) + (k : Int)).toNat = k := by omega
      show updG (fnOf (entS f 0 k)) ((0 : Int) + (k : Int)).toNat (f k) i = _
      rw [e1]
      unfold updG
      by_cases hi : i = k
      · subst hi; rw [if_pos rfl, if_pos (by omega)]
      · rw [if_neg hi, fnOf_S hg k]
        by_cases h1 : i < k
        · rw [if_pos h1, if_pos (by omega)]
        · rw [if_neg h1, if_neg (by omega)]
theorem fnOf_R {h : Nat} {f : Fen} (hg : GoodF f) (ho : ∀ j, p4 h ≤ j → f j = (0, 0)) : fnOf (entR h f 0) = f := by
  funext i
  rw [entR_S, fnOf_S hg]
  by_cases hi : i < p4 h
  · rw [if_pos hi]
  · rw [if_neg hi, ho i (by omega)]
theorem p4_256' {h : Nat} (hh : h ≤ 4) : p4 h ≤ 256 := p4_mono hh
theorem ents_ok {h : Nat} {f : Fen} (hh : h ≤ 4) (hg : GoodF f) : bldE (entR h f 0) = 0 := by
  rw [entR_S]
  refine bldE_ok (errL_ok _ fun k hk => ?_) (dupL_no fun k hk => dupAt_no fun j hj => ?_)
  · have hm : (entS f 0 (p4 h)).getD k (0, (0, 0)) ∈ entS f 0 (p4 h) := by rw [List.getD_eq_getElem?_getD, List.getElem?_eq_getElem hk, Option.getD_some]; exact List.getElem_mem hk
    obtain ⟨i, hi, e, hn⟩ := entS_mem hm
    rw [e]
    have h2 := p4_256' hh
    obtain ⟨-, g1, g2, g3⟩ := hg i
    generalize f i = l at *
    obtain ⟨v, m⟩ := l
    exact chk_good (by omega) (by omega) (by dsimp only at *; omega)
  · have hp := List.pairwise_iff_getElem.1 (entS_apart f (p4 h)) j k (by omega) hk hj
    rw [List.getD_eq_getElem?_getD, List.getElem?_eq_getElem (by omega), List.getD_eq_getElem?_getD, List.getElem?_eq_getElem hk, Option.getD_some, Option.getD_some]
    exact hp
/-- The entries that are not in M yet. -/
def hideF (M : List En) (F : Fen) : Fen := fun i => if (M.any fun e => decide (e.1 = (i : Int))) = true then (0, 0) else F i
def OkM (f : Fen) (M : List En) : Prop := (M.Pairwise fun a b => a.1 ≠ b.1) ∧ ∀ e ∈ M, ∃ i : Nat, i < 256 ∧ e = ((i : Int), f i) ∧ (f i).1 ≠ 0
theorem okM_R {h : Nat} {f : Fen} (hh : h ≤ 4) : OkM f (entR h f 0) := by
  rw [entR_S]
  refine ⟨entS_apart f _, fun e he => ?_⟩
  obtain ⟨i, hi, e1, hn⟩ := entS_mem he
  have := p4_256' hh
  exact ⟨i, by omega, by rw [e1, Int.zero_add], hn⟩
theorem OkM.erase {f : Fen} {M : List En} (h : OkM f M) (i : Nat) : OkM f (M.eraseIdx i) :=
  ⟨h.1.sublist (List.eraseIdx_sublist M i), fun e he => h.2 e ((List.eraseIdx_sublist M i).mem he)⟩
theorem erase_any {M : List En} (h : M.Pairwise fun a b => a.1 ≠ b.1) {i : Nat} (hi : i < M.length) (j : Int) : ((M.eraseIdx i).any fun e => decide (e.1 = j)) = ((M.any fun e => decide (e.1 = j)) && !decide (M[i].1 = j)) := by
  induction M generalizing i with
  | nil => simp at hi
  | cons x M ih =>
    obtain ⟨h1, h2⟩ := List.pairwise_cons.1 h
    cases i with
    | zero =>
      rw [List.eraseIdx_cons_zero, List.any_cons, List.getElem_cons_zero]
      by_cases hx : x.1 = j
      · rw [decide_eq_true hx]
        simp only [Bool.true_or, Bool.true_and, Bool.not_true]
        rw [List.any_eq_false]
        intro y hy
        have := h1 y hy
        simp
        intro e; exact this (by rw [hx, e])
      · rw [decide_eq_false hx]; simp
    | succ i =>
      have hi2 : i < M.length := by simpa using hi
      rw [List.eraseIdx_cons_succ, List.any_cons, List.any_cons, List.getElem_cons_succ, ih h2 hi2]
      by_cases hx : x.1 = j
      · have : ¬M[i].1 = j := fun e => h1 M[i] (List.getElem_mem hi2) (by rw [hx, e])
        rw [decide_eq_true hx, decide_eq_false this]; simp
      · rw [decide_eq_false hx]; simp
theorem hide_erase {F : Fen} {M : List En} (h : M.Pairwise fun a b => a.1 ≠ b.1) {i ix : Nat} (hi : i < M.length) (he : M[i].1 = (ix : Int)) : hideF (M.eraseIdx i) F = updG (hideF M F) ix (F ix) := by
  funext j
  unfold hideF updG
  rw [erase_any h hi]
  by_cases hj : j = ix
  · subst hj
    rw [if_pos rfl, decide_eq_true he]
    simp
  · rw [if_neg hj, he, decide_eq_false (by omega), Bool.not_false, Bool.and_true]
theorem hide_nil (F : Fen) : hideF [] F = F := by funext i; rfl
theorem hide_at {F : Fen} {M : List En} {i ix : Nat} (hi : i < M.length) (he : M[i].1 = (ix : Int)) : hideF M F ix = (0, 0) := by
  unfold hideF
  rw [if_pos]
  rw [List.any_eq_true]
  exact ⟨M[i], List.getElem_mem hi, decide_eq_true he⟩
/-- The entries, and one that is not among them. -/
def xtraF (f : Fen) (i : Nat) : Fen := if (f i).1 = 0 then updG f i (77, 0) else f
theorem hide_all {h : Nat} {f : Fen} (hg : GoodF f) (ho : ∀ j, p4 h ≤ j → f j = (0, 0)) (i : Nat) : hideF (entR h f 0) (xtraF f i) = if (f i).1 = 0 then updG f0 i (77, 0) else f0 := by
  have hz : ∀ j : Nat, (f j).1 = 0 → f j = (0, 0) := fun j h => Prod.ext h ((hg j).2.2.2 (by rw [h]; exact Int.le_refl _))
  have ok : ∀ j : Nat, ((entR h f 0).any fun e => decide (e.1 = (j : Int))) = true ↔ ¬(f j).1 = 0 := fun j => by
    constructor
    · intro hx
      obtain ⟨e, he, h2⟩ := List.any_eq_true.1 hx
      rw [entR_S] at he
      obtain ⟨k, hk, rfl, hn⟩ := entS_mem he
      have : k = j := by simp at h2; omega
      subst this; exact hn
    · intro hx
      rw [entR_S]
      have hj : j < p4 h := by
        rcases Nat.lt_or_ge j (p4 h) with h1 | h1
        · exact h1
        · rw [ho j h1] at hx; exact absurd rfl hx
      have hf := fnOf_S hg (p4 h) j
      rw [if_pos hj] at hf
      unfold fnOf at hf
      cases hL : (entS f 0 (p4 h)).find? (fun e => e.1 == (j : Int)) with
      | none => rw [hL] at hf; dsimp only at hf; rw [← hf] at hx; exact absurd rfl hx
      | some y =>
        have hy := List.mem_of_find?_eq_some hL
        have hp := List.find?_some hL
        rw [List.any_eq_true]
        exact ⟨y, hy, by simpa using hp⟩
  funext j
  unfold hideF
  by_cases hj : (f j).1 = 0
  · have h1 : ¬((entR h f 0).any fun e => decide (e.1 = (j : Int))) = true := fun h => (ok j).1 h hj
    rw [if_neg h1]
    unfold xtraF
    by_cases hi : (f i).1 = 0
    · rw [if_pos hi, if_pos hi]
      unfold updG
      by_cases e : j = i
      · rw [if_pos e, if_pos e]
      · rw [if_neg e, if_neg e, hz j hj]; rfl
    · rw [if_neg hi, if_neg hi, hz j hj]; rfl
  · have h1 := (ok j).2 hj
    rw [if_pos h1]
    by_cases hi : (f i).1 = 0
    · rw [if_pos hi]
      unfold updG
      by_cases e : j = i
      · subst e; exact absurd hi hj
      · rw [if_neg e]; rfl
    · rw [if_neg hi]; rfl
theorem xtra_at {f : Fen} {i ix : Nat} (h : ¬(f ix).1 = 0) : xtraF f i ix = f ix := by
  unfold xtraF
  by_cases hi : (f i).1 = 0
  · rw [if_pos hi]
    unfold updG
    by_cases e : ix = i
    · subst e; exact absurd hi h
    · rw [if_neg e]
  · rw [if_neg hi]
theorem xtra_back {f : Fen} (hg : GoodF f) {i : Nat} (hi : (f i).1 = 0) : updG (xtraF f i) i (0, 0) = f := by
  have hz : f i = (0, 0) := Prod.ext hi ((hg i).2.2.2 (by rw [hi]; exact Int.le_refl _))
  unfold xtraF
  rw [if_pos hi]
  funext j
  unfold updG
  by_cases e : j = i
  · subst e; rw [if_pos rfl, hz]
  · rw [if_neg e, if_neg e]
/-- Marks that are given one by one. -/
def mkTo (m : Int) : Nat → Int
  | 0 => 0
  | 1 => bits .and .i64 m 1
  | 2 => orI (bits .and .i64 m 1) (bits .and .i64 m 2)
  | _ => m
theorem mk_step {m : Int} (a0 : 0 ≤ m) (a1 : m ≤ 7) : (∀ b : Bool, (bits .and .i64 m 1 != 0) = b → mkTo m 1 = if b = true then orI (mkTo m 0) 1 else mkTo m 0) ∧ (∀ b : Bool, (bits .and .i64 m 2 != 0) = b → mkTo m 2 = if b = true then orI (mkTo m 1) 2 else mkTo m 1) ∧
    (∀ b : Bool, (bits .and .i64 m 4 != 0) = b → mkTo m 3 = if b = true then orI (mkTo m 2) 4 else mkTo m 2) := by
  have ha : m = 0 ∨ m = 1 ∨ m = 2 ∨ m = 3 ∨ m = 4 ∨ m = 5 ∨ m = 6 ∨ m = 7 := by omega
  rcases ha with rfl | rfl | rfl | rfl | rfl | rfl | rfl | rfl <;> refine ⟨fun b hb => ?_, fun b hb => ?_, fun b hb => ?_⟩ <;> subst hb <;> decide +kernel
theorem upd_upd (F : Fen) (i : Nat) (a b : Lef) : updG (updG F i a) i b = updG F i b := by
  funext j
  unfold updG
  by_cases e : j = i
  · rw [if_pos e, if_pos e]
  · rw [if_neg e, if_neg e, if_neg e]
end Go.Proofs.Ytdlhihllmidfeaa
