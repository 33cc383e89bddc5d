/- A region that draws its order, by an invariant over what has been carried out: a proof for each operation in place of one for each order. No program is imported. -/
import Derived.Orders
import Derived.Deep.QuietTactic
namespace Go.Mine
open Go

section
variable {P : Program} {ops : Array Oper} {Q : Exit → Act → World → Prop} {md : Region.Mode}

/-- Which operations have been carried out, with one more. -/
def upD (d : Nat → Bool) (i : Nat) : Nat → Bool := fun j => if j = i then true else d j
/-- What an operation waits for has been carried out. -/
def Aft (md : Region.Mode) (d : Nat → Bool) (o : Oper) : Bool := o.after.all fun e => !Region.binds md e || d e.on
/-- An operation waits for earlier ones only. -/
def acycB (md : Region.Mode) (ops : Array Oper) : Bool := (List.range ops.size).all fun i => match ops[i]? with
  | some o => o.after.all fun e => !Region.binds md e || decide (e.on < i)
  | none => true

theorem acyc_spec (h : acycB md ops = true) {i : Nat} {o : Oper} (ho : ops[i]? = some o) : ∀ e ∈ o.after, Region.binds md e = true → e.on < i := by
  intro e he hb
  have hi : i < ops.size := (Array.getElem?_eq_some_iff.1 ho).1
  have h1 := List.all_eq_true.1 h i (List.mem_range.2 hi)
  simp only [ho] at h1
  have h2 := Array.all_eq_true_iff_forall_mem.1 h1 e he
  simpa [hb] using h2

theorem ready_none (hac : acycB md ops = true) {listed : Array Bool} (hs : listed.size = ops.size) (hr : Region.ready md ops listed = []) : ∀ i, i < ops.size → listed.getD i false = true := by
  intro i
  induction i using Nat.strongRecOn with
  | ind i ih =>
    intro hi
    cases hl : listed.getD i false with
    | true => rfl
    | false =>
      obtain ⟨o, ho⟩ : ∃ o, ops[i]? = some o := ⟨_, Array.getElem?_eq_getElem hi⟩
      have hm : i ∈ Region.ready md ops listed := by
        rw [mem_ready]
        refine ⟨?_, o, ho, fun e he hb => ?_⟩
        · have h2 : i < listed.size := by omega
          simpa [h2] using hl
        · have h3 := acyc_spec hac ho e he hb
          exact ih e.on h3 (by omega)
      rw [hr] at hm
      cases hm

/-- How many are still to come. -/
def leftN (listed : Array Bool) : Nat := listed.toList.countP (fun b => !b)
theorem leftN_set {listed : Array Bool} {i : Nat} (h : listed.getD i true = false) : leftN (listed.setIfInBounds i true) + 1 = leftN listed := by
  obtain ⟨l⟩ := listed
  unfold leftN
  rcases Nat.lt_or_ge i l.length with hi | hi
  · have hg : l[i] = false := by simpa [hi] using h
    clear h
    induction l generalizing i with
    | nil => simp at hi
    | cons x l ih =>
      cases i with
      | zero =>
        have hx : x = false := hg
        subst hx
        simp
      | succ n =>
        have hn : n < l.length := by simpa using hi
        have h2 := ih hn (by simpa using hg)
        simp only [List.setIfInBounds_toArray, List.set_cons_succ, List.countP_cons] at h2 ⊢
        omega
  · simp [hi] at h
theorem leftN_zero {listed : Array Bool} (h : leftN listed = 0) (i : Nat) : listed.getD i true = true := by
  obtain ⟨l⟩ := listed
  unfold leftN at h
  rcases Nat.lt_or_ge i l.length with hi | hi
  · have := List.countP_eq_zero.1 h l[i] (List.getElem_mem hi)
    simpa [hi] using this
  · simp [hi]

theorem wpAny_inv (hac : acycB md ops = true) (J : (Nat → Bool) → Act → World → Prop)
    (hs : ∀ (i : Nat) (o : Oper), ops[i]? = some o → ∀ d a w, J d a w → d i = false → Aft md d o = true → wpOp P ops Q i (J (upD d i)) a w)
    (hend : ∀ a w, J (fun j => decide (j < ops.size)) a w → Q .normal a w) :
    ∀ (fuel : Nat) (listed : Array Bool) (a : Act) (w : World), listed.size = ops.size → leftN listed = fuel → J (fun j => listed.getD j false) a w → wpAny P md ops Q fuel listed a w := by
  intro fuel
  have fin : ∀ (listed : Array Bool) (a : Act) (w : World), listed.size = ops.size → J (fun j => listed.getD j false) a w → Region.ready md ops listed = [] → Q .normal a w := by
    intro listed a w hz hJ hr
    have he : (fun j => listed.getD j false) = (fun j => decide (j < ops.size)) := by
      funext j
      rcases Nat.lt_or_ge j ops.size with hj | hj
      · rw [ready_none hac hz hr j hj]; simp [hj]
      · have h2 : listed.size ≤ j := by omega
        simp [Array.getElem?_eq_none h2, hj]
    rw [he] at hJ
    exact hend a w hJ
  induction fuel with
  | zero =>
    intro listed a w hz hl hJ
    have hr : Region.ready md ops listed = [] := by
      cases hr : Region.ready md ops listed with
      | nil => rfl
      | cons x xs =>
        have hm : x ∈ Region.ready md ops listed := by rw [hr]; simp
        have h1 := (mem_ready.1 hm).1
        rw [leftN_zero hl x] at h1
        cases h1
    exact ⟨hr, fin listed a w hz hJ hr⟩
  | succ fuel ih =>
    intro listed a w hz hl hJ
    refine ⟨fin listed a w hz hJ, fun i hi => ?_⟩
    obtain ⟨h1, o, ho, h3⟩ := mem_ready.1 hi
    have hil : i < listed.size := by
      rcases Nat.lt_or_ge i listed.size with h' | h'
      · exact h'
      · simp [Array.getElem?_eq_none h'] at h1
    have h1' : listed.getD i false = false := by simpa [hil] using h1
    have hst := hs i o ho (fun j => listed.getD j false) a w hJ h1' (by
      unfold Aft
      rw [Array.all_eq_true_iff_forall_mem]
      intro e he
      cases hb : Region.binds md e
      · rfl
      · simp only [Bool.not_true, Bool.false_or]; exact h3 e he hb)
    refine wpOp_mono (fun a' w' hJ' => ?_) hst
    refine ih (listed.setIfInBounds i true) a' w' (by simpa using hz) (by have := leftN_set h1; omega) ?_
    have he : (fun j => (listed.setIfInBounds i true).getD j false) = upD (fun j => listed.getD j false) i := by
      funext j
      unfold upD
      by_cases hj : j = i
      · subst hj; simp [hil]
      · rw [getD_set_ne false (Ne.symm hj)]; simp [hj]
    rw [he]
    exact hJ'

/-- What is to be shown: for each operation, that it keeps the invariant. -/
def StepsI (P : Program) (md : Region.Mode) (ops : Array Oper) (Q : Exit → Act → World → Prop) (J : (Nat → Bool) → Act → World → Prop) : Nat → List Oper → Prop
  | _, [] => True
  | i, o :: l => (∀ d a w, J d a w → d i = false → Aft md d o = true → ∀ K : Act → World → Prop, (∀ a' w', J (upD d i) a' w' → K a' w') →
      if Region.wanted o (yielded ops a.tmps) then o.wp P a w K Q else K (a.put o.dst undef) w) ∧ StepsI P md ops Q J (i + 1) l

theorem StepsI.nil {J : (Nat → Bool) → Act → World → Prop} {i : Nat} : StepsI P md ops Q J i [] := trivial
theorem StepsI.cons {J : (Nat → Bool) → Act → World → Prop} {i : Nat} {o : Oper} {l : List Oper}
    (h : ∀ d a w, J d a w → d i = false → Aft md d o = true → ∀ K : Act → World → Prop, (∀ a' w', J (upD d i) a' w' → K a' w') →
      if Region.wanted o (yielded ops a.tmps) then o.wp P a w K Q else K (a.put o.dst undef) w)
    (k : StepsI P md ops Q J (i + 1) l) : StepsI P md ops Q J i (o :: l) := ⟨h, k⟩
theorem StepsI.at {J : (Nat → Bool) → Act → World → Prop} : ∀ {l : List Oper} {i : Nat}, StepsI P md ops Q J i l → ∀ (k : Nat) (o : Oper), l[k]? = some o →
    ∀ d a w, J d a w → d (i + k) = false → Aft md d o = true → ∀ K : Act → World → Prop, (∀ a' w', J (upD d (i + k)) a' w' → K a' w') →
      if Region.wanted o (yielded ops a.tmps) then o.wp P a w K Q else K (a.put o.dst undef) w
  | [], _, _, k, o, hk => by simp at hk
  | x :: l, i, h, 0, o, hk => by
    have hk : x = o := by simpa using hk
    subst hk
    exact h.1
  | x :: l, i, h, k + 1, o, hk => by
    have h2 := StepsI.at h.2 k o (by simpa using hk)
    rw [show i + (k + 1) = i + 1 + k from by omega]
    exact h2

/-- An act with some slots written. -/
def puts (a : Act) (l : List (Nat × Value)) : Act := l.foldl (fun a p => a.put (some p.1) p.2) a
theorem put_self (a : Act) (k : Nat) : a.put (some k) (a.tmps.getD k undef) = a := by
  obtain ⟨⟨l⟩, ds⟩ := a
  simp only [Act.put]
  congr 1
  rcases Nat.lt_or_ge k l.length with hk | hk
  · simp [hk]
  · simp [List.set_eq_of_length_le hk]
theorem puts_self (ks : List Nat) (a : Act) : a = puts a (ks.map fun k => (k, a.tmps.getD k undef)) := by
  induction ks with
  | nil => rfl
  | cons k ks ih =>
    show a = puts (a.put (some k) (a.tmps.getD k undef)) (ks.map fun k => (k, a.tmps.getD k undef))
    rw [put_self]
    exact ih
/-- **A region that draws its order, by an invariant**: J A d a w: of the act A at the start, the operations of d have been carried out. -/
theorem wp_region_inv {id : Nat} {l : List Oper} {a : Act} {w : World} (J0 : Act → (Nat → Bool) → Act → World → Prop) (hm : P.follows .mixedOrders = true) (hac : acycB .any l.toArray = true)
    (h0 : J0 a (fun _ => false) a w.drew) (hs : StepsI P .any l.toArray Q (J0 a) 0 l) (hend : ∀ a' w', J0 a (fun j => decide (j < l.length)) a' w' → Q .normal a' w') :
    (Code.region id l.toArray true).wp P Q a w := by
  generalize J0 a = J at *
  refine wp_region_any hm ?_
  refine wpAny_inv hac J (fun i o ho d a w hJ hd hA => ?_) (by simpa using hend) _ _ a _ (by simp) ?_ ?_
  · have h1 := StepsI.at hs i o (by simpa using ho) d a w hJ (by simpa using hd) hA (J (upD d i)) (fun a' w' h => by simpa using h)
    unfold wpOp
    simp only [ho]
    split
    · rename_i hw; rw [if_pos hw] at h1; exact .inl h1
    · rename_i hw; rw [if_neg hw] at h1; exact h1
  · unfold leftN; simp [List.countP_replicate]
  · have he : (fun j => (Array.replicate l.toArray.size false).getD j false) = (fun _ => false) := by
      funext j
      rcases Nat.lt_or_ge j l.length with hj | hj
      · simp [hj]
      · simp [hj]
    rw [he]
    exact h0
end
end Go.Mine
