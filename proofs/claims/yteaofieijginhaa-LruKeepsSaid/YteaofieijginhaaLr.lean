/- Active and inactive lists (layer 8): what they are, and what is told of them: no program is named here. -/
import Derived.Test.YteaofieijginhaaBase
import Derived.Test.YteaofieijginhaaRows2
namespace Go.Mine
open Go Go.RowKit

structure Lr where
  a : List Int
  i : List Int
  r : List Int
/-- The place of a number, or -1. -/
def atI : List Int → Int → Int
  | [], _ => -1
  | x :: l, n => if x = n then 0 else if atI l n < 0 then -1 else atI l n + 1
def wol (l : List Int) (n : Int) : List Int := l.filter fun x => decide (x ≠ n)
/-- The list, ascending, with one number more. -/
def inl : List Int → Int → List Int
  | [], n => [n]
  | x :: l, n => if n < x then n :: x :: l else x :: inl l n
def AscP (l : List Int) : Prop := l.Pairwise (· < ·)
def OkP (x : Lr) : Prop := (∀ f ∈ x.a ++ x.i, 1 ≤ f ∧ f ≤ 64) ∧ (x.a ++ x.i).Nodup ∧ (∀ f ∈ x.r, f ∈ x.a ++ x.i) ∧ AscP x.r
instance (l : List Int) : Decidable (AscP l) := by unfold AscP; infer_instance
instance (x : Lr) : Decidable (OkP x) := by unfold OkP; infer_instance
def okB (x : Lr) : Bool := decide (OkP x)
def inB (x : Lr) (f : Int) : Bool := decide (f ∈ x.a) || decide (f ∈ x.i)
/-- The error of Add, and of Remove and Touch: 1 not right, 2 no frame, k there already (or not there). -/
def addE (x : Lr) (f : Int) : Int := match okB x with
  | false => 1
  | true => match decide (1 ≤ f ∧ f ≤ 64) with
    | false => 2
    | true => match inB x f with
      | true => 5
      | false => 0
def remE (x : Lr) (f : Int) : Int := match okB x with
  | false => 1
  | true => match decide (1 ≤ f ∧ f ≤ 64) with
    | false => 2
    | true => match inB x f with
      | false => 4
      | true => 0
def addX (x : Lr) (f : Int) (act : Bool) : Lr := if addE x f = 0 then (match act with
  | true => ⟨f :: x.a, x.i, x.r⟩
  | false => ⟨x.a, f :: x.i, x.r⟩) else x
def remX (x : Lr) (f : Int) : Lr := if remE x f = 0 then ⟨wol x.a f, wol x.i f, wol x.r f⟩ else x
def touX (x : Lr) (f : Int) : Lr := if remE x f = 0 then (match decide (f ∈ x.r) with
  | false => ⟨x.a, x.i, inl x.r f⟩
  | true => match decide (f ∈ x.i) with
    | true => ⟨f :: x.a, wol x.i f, wol x.r f⟩
    | false => x) else x
/-- One step of Balance: the last one of Active. -/
def balS (x : Lr) : Lr := match decide (x.a.getLastD 0 ∈ x.r) with
  | true => ⟨x.a.getLastD 0 :: x.a.dropLast, x.i, wol x.r (x.a.getLastD 0)⟩
  | false => ⟨x.a.dropLast, x.a.getLastD 0 :: x.i, x.r⟩
def balN : Nat → Lr → Lr
  | 0, x => x
  | n + 1, x => if x.i.length < x.a.length then balN n (balS x) else x
def balX (x : Lr) : Lr := match okB x with
  | false => x
  | true => balN x.a.length x
/-- One frame that Scan looks at. -/
def scnS (held : Int → Bool) (f : Int) (s : Lr × List Int) : Lr × List Int := match held f with
  | true => s
  | false => match decide (f ∈ s.1.r) with
    | true => (⟨s.1.a, f :: wol s.1.i f, wol s.1.r f⟩, s.2)
    | false => (s.1, s.2 ++ [f])
/-- The frames of L, from the last of the first k on, until there are n victims. -/
def scnN (held : Int → Bool) (L : List Int) (n : Int) : Nat → Lr × List Int → Lr × List Int
  | 0, s => s
  | k + 1, s => if (s.2.length : Int) < n then scnN held L n k (scnS held (L.getD k 0) s) else s
def scnF (x : Lr) (n : Int) (held : Int → Bool) : Lr × List Int := match okB x && decide (1 ≤ n) with
  | false => (x, [])
  | true => scnN held x.i n x.i.length (x, [])

theorem atI_ge (l : List Int) (n : Int) : -1 ≤ atI l n := by
  induction l with
  | nil => unfold atI; omega
  | cons x l ih => unfold atI; split <;> (try split) <;> omega
theorem atI_in {l : List Int} {n : Int} : 0 ≤ atI l n ↔ n ∈ l := by
  induction l with
  | nil => unfold atI; simp
  | cons x l ih =>
    have h := atI_ge l n
    unfold atI
    rw [List.mem_cons]
    split
    · next e => exact ⟨fun _ => .inl e.symm, fun _ => Int.le_refl _⟩
    · next e =>
      have e' : ¬n = x := fun h => e h.symm
      split
      · next h2 => exact ⟨fun h3 => by omega, fun h3 => by have := ih.2 (h3.resolve_left e'); omega⟩
      · next h2 => exact ⟨fun _ => .inr (ih.1 (by omega)), fun _ => by omega⟩
theorem atI_no {l : List Int} {n : Int} (h : ¬n ∈ l) : atI l n = -1 := by
  have h1 := atI_ge l n
  have h2 : ¬0 ≤ atI l n := fun k => h (atI_in.1 k)
  omega
theorem atI_at : ∀ (l : List Int) (n : Int) (i : Nat), i < l.length → ¬n ∈ l.take i → l.getD i 0 = n → atI l n = i
  | [], _, _, h, _, _ => by simp at h
  | x :: l, n, 0, _, _, e => by unfold atI; rw [if_pos (show x = n from e)]; rfl
  | x :: l, n, i + 1, h, hn, e => by
    rw [List.take_succ_cons, List.mem_cons, not_or] at hn
    have ih := atI_at l n i (by simpa using h) hn.2 e
    unfold atI
    rw [if_neg (fun h => hn.1 h.symm), ih, if_neg (by omega)]
    omega
theorem mem_wol {l : List Int} {n f : Int} : f ∈ wol l n ↔ f ∈ l ∧ ¬f = n := by unfold wol; simp
theorem wol_not {l : List Int} {n : Int} (h : ¬n ∈ l) : wol l n = l := List.filter_eq_self.2 fun _ hx => decide_eq_true (fun e => h (e ▸ hx))
theorem mem_inl {l : List Int} {n f : Int} : f ∈ inl l n ↔ f = n ∨ f ∈ l := by
  induction l with
  | nil => simp [inl]
  | cons x l ih =>
    unfold inl
    split
    · simp
    · rw [List.mem_cons, ih, List.mem_cons]
      constructor
      · rintro (h | h | h) <;> simp [h]
      · rintro (h | h | h) <;> simp [h]
theorem asc_wol {l : List Int} (h : AscP l) (n : Int) : AscP (wol l n) := List.Pairwise.filter _ h
theorem asc_inl {l : List Int} (h : AscP l) {n : Int} (hn : ¬n ∈ l) : AscP (inl l n) := by
  induction l with
  | nil => exact List.pairwise_singleton _ _
  | cons x l ih =>
    have h1 := List.pairwise_cons.1 h
    unfold inl
    split
    · next hlt =>
      refine List.pairwise_cons.2 ⟨fun y hy => ?_, h⟩
      rcases List.mem_cons.1 hy with rfl | hy
      · exact hlt
      · have := h1.1 y hy; omega
    · next hlt =>
      refine List.pairwise_cons.2 ⟨fun y hy => ?_, ih h1.2 fun e => hn (List.mem_cons_of_mem _ e)⟩
      rcases mem_inl.1 hy with rfl | hy
      · have : ¬y = x := fun e => hn (e ▸ List.mem_cons_self ..)
        omega
      · exact h1.1 y hy
theorem getD_mem {L : List Int} {k : Nat} (h : k < L.length) : L.getD k 0 ∈ L := by rw [List.getD, List.getElem?_eq_getElem h]; exact List.getElem_mem h
/-- The frames of the lists, in their order. -/
def Lr.all (x : Lr) : List Int := x.a ++ x.i
theorem ok_perm {x y : Lr} (h : OkP x) (hp : y.all.Perm x.all) (hr : ∀ f ∈ y.r, f ∈ x.r) (ha : AscP y.r) : OkP y :=
  ⟨fun f hf => h.1 f (hp.mem_iff.1 hf), (hp.nodup_iff).2 h.2.1, fun f hf => hp.mem_iff.2 (h.2.2.1 f (hr f hf)), ha⟩
theorem perm_front {A I : List Int} {f : Int} (hn : I.Nodup) (hf : f ∈ I) : ((f :: A) ++ wol I f).Perm (A ++ I) := by
  have h1 : (f :: wol I f).Perm I := by
    have : wol I f = I.erase f := by
      unfold wol
      rw [hn.erase_eq_filter]
      congr 1
      funext y
      by_cases e : y = f <;> simp [e]
    rw [this]
    exact (List.perm_cons_erase hf).symm
  exact (List.perm_middle.symm).trans (List.Perm.append_left A h1)
theorem nodup_i {x : Lr} (h : OkP x) : x.i.Nodup := (List.nodup_append.1 h.2.1).2.1
theorem nodup_a {x : Lr} (h : OkP x) : x.a.Nodup := (List.nodup_append.1 h.2.1).1
theorem ok_tou {x : Lr} {f : Int} (h : OkP x) : OkP (touX x f) ∧ (touX x f).all.Perm x.all := by
  unfold touX
  split
  · next he =>
    have hin : f ∈ x.all := by
      unfold remE at he
      rw [show okB x = true from decide_eq_true h] at he
      simp only at he
      cases hd : decide (1 ≤ f ∧ f ≤ 64) <;> rw [hd] at he <;> simp only at he
      · omega
      · cases hi : inB x f <;> rw [hi] at he <;> simp only at he
        · omega
        · unfold inB at hi
          unfold Lr.all
          simpa using hi
    cases hr : decide (f ∈ x.r)
    · have hr' : ¬f ∈ x.r := of_decide_eq_false hr
      refine ⟨⟨h.1, h.2.1, fun g hg => ?_, asc_inl h.2.2.2 hr'⟩, List.Perm.refl _⟩
      rcases mem_inl.1 hg with rfl | hg
      · exact hin
      · exact h.2.2.1 g hg
    · cases hi : decide (f ∈ x.i)
      · exact ⟨h, List.Perm.refl _⟩
      · have hp := perm_front (A := x.a) (nodup_i h) (of_decide_eq_true hi)
        exact ⟨ok_perm h hp (fun g hg => (mem_wol.1 hg).1) (asc_wol h.2.2.2 f), hp⟩
  · exact ⟨h, List.Perm.refl _⟩
theorem last_split {l : List Int} (h : l ≠ []) : l = l.dropLast ++ [l.getLastD 0] := by
  have := List.dropLast_concat_getLast h
  rw [List.getLastD_eq_getLast?, List.getLast?_eq_some_getLast h]
  exact this.symm
theorem ok_balS {x : Lr} (h : OkP x) (h0 : x.i.length < x.a.length) : OkP (balS x) ∧ (balS x).all.Perm x.all := by
  have hne : x.a ≠ [] := by intro e; rw [e] at h0; simp at h0
  have hl := last_split hne
  unfold balS
  generalize x.a.getLastD 0 = f at *
  cases hr : decide (f ∈ x.r)
  · have hp : (Lr.all ⟨x.a.dropLast, f :: x.i, x.r⟩).Perm x.all := by
      unfold Lr.all
      conv => rhs; rw [hl]
      rw [List.append_assoc]
      exact List.Perm.refl _
    exact ⟨ok_perm h hp (fun g hg => hg) h.2.2.2, hp⟩
  · have hp : (Lr.all ⟨f :: x.a.dropLast, x.i, wol x.r f⟩).Perm x.all := by
      unfold Lr.all
      conv => rhs; rw [hl]
      exact List.Perm.append_right _ ((List.perm_append_singleton f x.a.dropLast).symm)
    exact ⟨ok_perm h hp (fun g hg => (mem_wol.1 hg).1) (asc_wol h.2.2.2 f), hp⟩
theorem ok_balN : ∀ (n : Nat) {x : Lr}, OkP x → OkP (balN n x) ∧ (balN n x).all.Perm x.all
  | 0, _, h => ⟨h, List.Perm.refl _⟩
  | n + 1, x, h => by
    unfold balN
    split
    · next h0 =>
      obtain ⟨h1, h2⟩ := ok_balS h h0
      obtain ⟨h3, h4⟩ := ok_balN n h1
      exact ⟨h3, h4.trans h2⟩
    · exact ⟨h, List.Perm.refl _⟩
theorem ok_bal {x : Lr} (h : OkP x) : OkP (balX x) ∧ (balX x).all.Perm x.all := by
  unfold balX
  rw [show okB x = true from decide_eq_true h]
  exact ok_balN _ h
theorem ok_scnS {held : Int → Bool} {f : Int} {s : Lr × List Int} (h : OkP s.1) (hf : f ∈ s.1.i) : OkP (scnS held f s).1 ∧ (scnS held f s).1.all.Perm s.1.all ∧ ∀ g, g ∈ (scnS held f s).1.i ↔ g ∈ s.1.i := by
  unfold scnS
  cases held f
  · cases hr : decide (f ∈ s.1.r)
    · exact ⟨h, List.Perm.refl _, fun _ => Iff.rfl⟩
    · have hp : (Lr.all ⟨s.1.a, f :: wol s.1.i f, wol s.1.r f⟩).Perm s.1.all := by
        have h1 := perm_front (A := ([] : List Int)) (nodup_i h) hf
        exact List.Perm.append_left _ h1
      refine ⟨ok_perm h hp (fun g hg => (mem_wol.1 hg).1) (asc_wol h.2.2.2 f), hp, fun g => ?_⟩
      show g ∈ f :: wol s.1.i f ↔ g ∈ s.1.i
      rw [List.mem_cons, mem_wol]
      constructor
      · rintro (rfl | h)
        · exact hf
        · exact h.1
      · intro hg
        by_cases e : g = f
        · exact .inl e
        · exact .inr ⟨hg, e⟩
  · exact ⟨h, List.Perm.refl _, fun _ => Iff.rfl⟩
theorem ok_scnN {held : Int → Bool} {L : List Int} {n : Int} : ∀ (k : Nat) {s : Lr × List Int}, k ≤ L.length → OkP s.1 → (∀ g, g ∈ s.1.i ↔ g ∈ L) → OkP (scnN held L n k s).1 ∧ (scnN held L n k s).1.all.Perm s.1.all ∧ ∀ g, g ∈ (scnN held L n k s).1.i ↔ g ∈ L
  | 0, _, _, h, hi => ⟨h, List.Perm.refl _, hi⟩
  | k + 1, s, hk, h, hi => by
    unfold scnN
    split
    · have hf : L.getD k 0 ∈ s.1.i := (hi _).2 (by rw [List.getD, List.getElem?_eq_getElem (by omega)]; exact List.getElem_mem _)
      obtain ⟨h1, h2, h3⟩ := ok_scnS (held := held) h hf
      obtain ⟨h4, h5, h6⟩ := ok_scnN k (by omega) h1 (fun g => (h3 g).trans (hi g))
      exact ⟨h4, h5.trans h2, h6⟩
    · exact ⟨h, List.Perm.refl _, hi⟩
theorem ok_scn {x : Lr} {n : Int} {held : Int → Bool} (h : OkP x) : OkP (scnF x n held).1 ∧ (scnF x n held).1.all.Perm x.all ∧ ∀ g, g ∈ (scnF x n held).1.i ↔ g ∈ x.i := by
  unfold scnF
  split
  · exact ⟨h, List.Perm.refl _, fun _ => Iff.rfl⟩
  · exact ok_scnN _ (Nat.le_refl _) h fun _ => Iff.rfl
end Go.Mine
