/- What the calls make of descriptors (layer 18), as plain mathematics, and that right ones stay right: words of my own, no program is named here. -/
import Derived.Test.YtokijggckiidjaaDsM
import Derived.Test.YtokijggckiidjaaZnA
namespace Go.Mine
open Go Go.RowKit
/-- The least free descriptor of a table (its length, if there is none). -/
def frD : List Int → Nat
  | [] => 0
  | x :: l => match decide (x = 0) with | true => 0 | false => frD l + 1
theorem frD_at : ∀ {L : List Int} {i : Nat}, i < L.length → L.getD i 0 = 0 → (∀ j, j < i → L.getD j 0 ≠ 0) → frD L = i
  | [], _, h, _, _ => absurd h (by simp)
  | x :: l, 0, _, h0, _ => by
    have : x = 0 := h0
    show (match decide (x = 0) with | true => 0 | false => frD l + 1) = 0
    rw [decide_eq_true this]
  | x :: l, i + 1, h, h0, hk => by
    have : ¬x = 0 := hk 0 (by omega)
    show (match decide (x = 0) with | true => 0 | false => frD l + 1) = i + 1
    rw [decide_eq_false this, frD_at (L := l) (i := i) (by simpa using h) h0 (fun j hj => hk (j + 1) (by omega))]
theorem frD_none : ∀ {L : List Int}, (∀ j, j < L.length → L.getD j 0 ≠ 0) → frD L = L.length
  | [], _ => rfl
  | x :: l, hk => by
    have : ¬x = 0 := hk 0 (by simp)
    show (match decide (x = 0) with | true => 0 | false => frD l + 1) = l.length + 1
    rw [decide_eq_false this, frD_none (L := l) (fun j hj => hk (j + 1) (by simp; omega))]
theorem frD_le : ∀ {L : List Int}, frD L ≤ L.length
  | [] => Nat.le_refl _
  | x :: l => by
    have := frD_le (L := l)
    by_cases e : x = 0
    · have : frD (x :: l) = 0 := by
        show (match decide (x = 0) with | true => 0 | false => frD l + 1) = 0
        rw [decide_eq_true e]
      omega
    · have : frD (x :: l) = frD l + 1 := by
        show (match decide (x = 0) with | true => 0 | false => frD l + 1) = frD l + 1
        rw [decide_eq_false e]
      rw [List.length_cons]; omega
theorem frD_get : ∀ {L : List Int}, frD L < L.length → L.getD (frD L) 0 = 0
  | [], h => absurd h (by simp)
  | x :: l, h => by
    by_cases e : x = 0
    · have : frD (x :: l) = 0 := by
        show (match decide (x = 0) with | true => 0 | false => frD l + 1) = 0
        rw [decide_eq_true e]
      rw [this]; exact e
    · have : frD (x :: l) = frD l + 1 := by
        show (match decide (x = 0) with | true => 0 | false => frD l + 1) = frD l + 1
        rw [decide_eq_false e]
      rw [this] at h ⊢
      exact frD_get (L := l) (by simpa using h)
theorem frD_ne : ∀ {L : List Int} {j : Nat}, j < frD L → L.getD j 0 ≠ 0
  | [], j, h => absurd h (by simp [frD])
  | x :: l, j, h => by
    by_cases e : x = 0
    · have : frD (x :: l) = 0 := by
        show (match decide (x = 0) with | true => 0 | false => frD l + 1) = 0
        rw [decide_eq_true e]
      omega
    · have : frD (x :: l) = frD l + 1 := by
        show (match decide (x = 0) with | true => 0 | false => frD l + 1) = frD l + 1
        rw [decide_eq_false e]
      rw [this] at h
      cases j with
      | zero => exact e
      | succ j => exact frD_ne (L := l) (j := j) (by omega)
def freI (L : List Int) : Int := match decide (frD L < 16) with | true => (frD L : Int) | false => -1
theorem freI_at {L : List Int} {i : Nat} (h16 : i < 16) (h : i < L.length) (h0 : L.getD i 0 = 0) (hk : ∀ j, j < i → L.getD j 0 ≠ 0) : freI L = i := by
  unfold freI
  rw [frD_at h h0 hk, decide_eq_true h16]
theorem freI_none {L : List Int} (h : L.length = 16) (hk : ∀ j, j < 16 → L.getD j 0 ≠ 0) : freI L = -1 := by
  unfold freI
  rw [frD_none (fun j hj => hk j (by omega)), decide_eq_false (by omega)]
theorem freI_lt {L : List Int} (h : frD L < 16) : freI L = frD L := by unfold freI; rw [decide_eq_true h]
theorem freI_ge {L : List Int} (h : ¬frD L < 16) : freI L = -1 := by unfold freI; rw [decide_eq_false h]
/-- What looking up answers. -/
def entD (d : Dd) (p q : Int) : Int := (d.t.getD p.toNat []).getD q.toNat 0
noncomputable def lkD (d : Dd) (p q : Int) : Int × Ds × Int := match okD d with
  | false => (0, zDs, 1)
  | true => match inD p 0 ((d.t.length : Int) - 1) with
    | false => (0, zDs, 2)
    | true => match inD q 0 15 && !decide (entD d p q = 0) with
      | false => (0, zDs, 4)
      | true => (entD d p q - 1, d.o.getD (entD d p q - 1).toNat zDs, 0)
theorem lkD_1 {d : Dd} {p q : Int} (h : okD d = false) : lkD d p q = (0, zDs, 1) := by unfold lkD; rw [h]
theorem lkD_2 {d : Dd} {p q : Int} (h : okD d = true) (hp : ¬(0 ≤ p ∧ p ≤ (d.t.length : Int) - 1)) : lkD d p q = (0, zDs, 2) := by unfold lkD; rw [h, inD_no hp]
theorem lkD_4 {d : Dd} {p q : Int} (h : okD d = true) (hp : 0 ≤ p ∧ p ≤ (d.t.length : Int) - 1) (hq : ¬((0 ≤ q ∧ q ≤ 15) ∧ entD d p q ≠ 0)) : lkD d p q = (0, zDs, 4) := by
  unfold lkD
  rw [h, inD_iff.2 hp]
  by_cases h1 : 0 ≤ q ∧ q ≤ 15
  · have : entD d p q = 0 := Decidable.of_not_not (fun h2 => hq ⟨h1, h2⟩)
    rw [inD_iff.2 h1, decide_eq_true this]; rfl
  · rw [inD_no h1]; rfl
theorem lkD_0 {d : Dd} {p q : Int} (h : okD d = true) (hp : 0 ≤ p ∧ p ≤ (d.t.length : Int) - 1) (hq : 0 ≤ q ∧ q ≤ 15) (he : entD d p q ≠ 0) : lkD d p q = (entD d p q - 1, d.o.getD (entD d p q - 1).toNat zDs, 0) := by
  unfold lkD
  rw [h, inD_iff.2 hp, inD_iff.2 hq, decide_eq_false he]; rfl
/-- A lookup that finds, with its place. -/
theorem lkD_get {d : Dd} {p q : Int} (h : (lkD d p q).2.2 = 0) : okD d = true ∧ ∃ pn qn k : Nat, p = pn ∧ q = qn ∧ pn < d.t.length ∧ qn < 16 ∧ (d.t.getD pn []).getD qn 0 = (k : Int) + 1 ∧ k < d.o.length ∧ lkD d p q = ((k : Int), d.o.getD k zDs, 0) := by
  cases h1 : okD d
  · rw [lkD_1 h1] at h; simp at h
  refine ⟨rfl, ?_⟩
  by_cases hp : 0 ≤ p ∧ p ≤ (d.t.length : Int) - 1
  · by_cases hq : (0 ≤ q ∧ q ≤ 15) ∧ entD d p q ≠ 0
    · obtain ⟨pn, rfl⟩ : ∃ n : Nat, p = n := ⟨p.toNat, by omega⟩
      obtain ⟨qn, rfl⟩ : ∃ n : Nat, q = n := ⟨q.toNat, by omega⟩
      have e := lkD_0 h1 hp hq.1 hq.2
      have hpn : pn < d.t.length := by omega
      have hqn : qn < 16 := by omega
      have r := (okD_iff.1 h1).n pn hpn qn hqn
      have hne := hq.2
      have ev : entD d pn qn = (d.t.getD pn []).getD qn 0 := rfl
      rw [ev] at e hne
      obtain ⟨k, hk⟩ : ∃ k : Nat, (d.t.getD pn []).getD qn 0 = (k : Int) + 1 := ⟨((d.t.getD pn []).getD qn 0 - 1).toNat, by omega⟩
      refine ⟨pn, qn, k, rfl, rfl, hpn, hqn, hk, by omega, ?_⟩
      rw [e, hk, show (k : Int) + 1 - 1 = (k : Int) by omega, Int.toNat_natCast]
    · rw [lkD_4 h1 hp hq] at h; simp at h
  · rw [lkD_2 h1 hp] at h; simp at h
/-! Changing a table. -/
def setT (T : List (List Int)) (p i : Nat) (v : Int) : List (List Int) := T.set p ((T.getD p []).set i v)
theorem setT_len (T : List (List Int)) (p i : Nat) (v : Int) : (setT T p i v).length = T.length := by simp [setT]
theorem setT_ne {T : List (List Int)} {p i k : Nat} {v : Int} (h : k ≠ p) : (setT T p i v).getD k [] = T.getD k [] := by
  unfold setT
  simp only [List.getD]
  rw [List.getElem?_set, if_neg (Ne.symm h)]
theorem setT_eq {T : List (List Int)} {p i : Nat} {v : Int} (h : p < T.length) : (setT T p i v).getD p [] = (T.getD p []).set i v := by
  unfold setT
  simp [List.getD, h]
theorem setD_ne {L : List Int} {i k : Nat} {v : Int} (h : k ≠ i) : (L.set i v).getD k 0 = L.getD k 0 := by
  simp only [List.getD]
  rw [List.getElem?_set, if_neg (Ne.symm h)]
theorem setD_eq {L : List Int} {i : Nat} {v : Int} (h : i < L.length) : (L.set i v).getD i 0 = v := by simp [List.getD, h]
theorem setO_ne {L : List Ds} {i k : Nat} {v : Ds} (h : k ≠ i) : (L.set i v).getD k zDs = L.getD k zDs := by
  simp only [List.getD]
  rw [List.getElem?_set, if_neg (Ne.symm h)]
theorem setO_eq {L : List Ds} {i : Nat} {v : Ds} (h : i < L.length) : (L.set i v).getD i zDs = v := by simp [List.getD, h]
theorem cnt_set : ∀ {L : List Int} {i : Nat} (v a : Int), i < L.length → (L.set i v).count a + (if L.getD i 0 = a then 1 else 0) = L.count a + if v = a then 1 else 0
  | x :: l, 0, v, a, _ => by
    show (v :: l).count a + (if x = a then 1 else 0) = (x :: l).count a + _
    rw [List.count_cons, List.count_cons]
    by_cases h1 : x = a <;> by_cases h2 : v = a <;> simp [h1, h2]
  | x :: l, i + 1, v, a, h => by
    have := cnt_set (L := l) (i := i) v a (by simpa using h)
    show (x :: l.set i v).count a + (if l.getD i 0 = a then 1 else 0) = (x :: l).count a + _
    rw [List.count_cons, List.count_cons]
    omega
theorem cnt_row : ∀ {T : List (List Int)} {p : Nat} (R : List Int) (a : Int), p < T.length → (T.set p R).flatten.count a + (T.getD p []).count a = T.flatten.count a + R.count a
  | x :: l, 0, R, a, _ => by
    show (R :: l).flatten.count a + x.count a = (x :: l).flatten.count a + _
    rw [List.flatten_cons, List.flatten_cons, List.count_append, List.count_append]
    omega
  | x :: l, p + 1, R, a, h => by
    have := cnt_row (T := l) (p := p) R a (by simpa using h)
    show (x :: l.set p R).flatten.count a + (l.getD p []).count a = (x :: l).flatten.count a + _
    rw [List.flatten_cons, List.flatten_cons, List.count_append, List.count_append]
    omega
theorem cntD_setT {T : List (List Int)} {p i : Nat} {v : Int} (hp : p < T.length) (hi : i < (T.getD p []).length) (k : Nat) :
    cntD (setT T p i v).flatten k + (if (T.getD p []).getD i 0 = (k : Int) + 1 then 1 else 0) = cntD T.flatten k + if v = (k : Int) + 1 then 1 else 0 := by
  have h1 := cnt_row (T := T) (p := p) ((T.getD p []).set i v) ((k : Int) + 1) hp
  have h2 := cnt_set (L := T.getD p []) (i := i) v ((k : Int) + 1) hi
  unfold cntD setT
  omega
/-- Who has a number is counted. -/
theorem cntD_mem {T : List (List Int)} {p i k : Nat} (hp : p < T.length) (hi : i < (T.getD p []).length) (h : (T.getD p []).getD i 0 = (k : Int) + 1) : 0 < cntD T.flatten k := by
  unfold cntD
  rw [List.count_pos_iff]
  refine List.mem_flatten.2 ⟨T.getD p [], by rw [getD_get hp]; exact List.getElem_mem _, ?_⟩
  rw [← h, getD_get hi]
  exact List.getElem_mem _
theorem cntD_ex {T : List (List Int)} {k : Nat} (h : 0 < cntD T.flatten k) : ∃ p i, p < T.length ∧ i < (T.getD p []).length ∧ (T.getD p []).getD i 0 = (k : Int) + 1 := by
  unfold cntD at h
  rw [List.count_pos_iff] at h
  obtain ⟨R, hR, hk⟩ := List.mem_flatten.1 h
  obtain ⟨p, hp, rfl⟩ := List.getElem_of_mem hR
  obtain ⟨i, hi, e⟩ := List.getElem_of_mem hk
  refine ⟨p, i, hp, by rw [getD_get hp]; exact hi, ?_⟩
  rw [getD_get hp, getD_get hi]
  exact e
/-! No more descriptions than descriptors. -/
def smD (F : List Int) : Nat → Nat
  | 0 => 0
  | m + 1 => smD F m + cntD F m
theorem smD_cons (x : Int) (F : List Int) : ∀ m : Nat, smD (x :: F) m = smD F m + if 1 ≤ x ∧ x ≤ m then 1 else 0
  | 0 => by
    have : ¬(1 ≤ x ∧ x ≤ ((0 : Nat) : Int)) := by omega
    rw [if_neg this]; rfl
  | m + 1 => by
    show smD (x :: F) m + cntD (x :: F) m = smD F m + cntD F m + _
    rw [smD_cons x F m]
    unfold cntD
    rw [List.count_cons]
    by_cases h1 : x = (m : Int) + 1
    · subst h1
      rw [if_neg (by omega), if_pos (by simp), if_pos (by omega)]
      omega
    · rw [if_neg (c := (x == (m : Int) + 1) = true) (by simpa using h1)]
      by_cases h2 : 1 ≤ x ∧ x ≤ (m : Int)
      · rw [if_pos h2, if_pos (by omega)]; omega
      · rw [if_neg h2, if_neg (by omega)]; omega
theorem smD_le (F : List Int) (m : Nat) : smD F m + F.count 0 ≤ F.length := by
  induction F with
  | nil =>
    have : ∀ m, smD [] m = 0 := fun m => by
      induction m with
      | zero => rfl
      | succ m ih => show smD [] m + cntD [] m = 0; rw [ih]; rfl
    rw [this]; simp
  | cons x F ih =>
    rw [smD_cons, List.count_cons, List.length_cons]
    by_cases h : x = 0
    · subst h
      rw [if_neg (by omega), if_pos (by simp)]; omega
    · rw [if_neg (c := (x == 0) = true) (by simpa using h)]
      split <;> omega
theorem smD_ge {F : List Int} : ∀ {m : Nat}, (∀ k, k < m → 0 < cntD F k) → m ≤ smD F m
  | 0, _ => Nat.zero_le _
  | m + 1, h => by
    have h1 := smD_ge (F := F) (m := m) (fun k hk => h k (by omega))
    have h2 := h m (by omega)
    show m + 1 ≤ smD F m + cntD F m
    omega
theorem flat_len : ∀ {T : List (List Int)}, (∀ p, p < T.length → (T.getD p []).length = 16) → T.flatten.length = 16 * T.length
  | [], _ => rfl
  | x :: l, h => by
    have h1 : x.length = 16 := h 0 (by simp)
    have h2 := flat_len (T := l) (fun p hp => h (p + 1) (by simpa using hp))
    rw [List.flatten_cons, List.length_append, h1, h2, List.length_cons]
    omega
/-- Where all descriptions are had and a descriptor is free, there is room for one more. -/
theorem room_D {d : Dd} (h : OkDd d) (ha : ∀ k, k < d.o.length → 0 < cntD d.t.flatten k) {p i : Nat} (hp : p < d.t.length) (hi : i < 16) (h0 : (d.t.getD p []).getD i 0 = 0) : d.o.length < 128 := by
  have h1 := smD_ge ha
  have h2 := smD_le d.t.flatten d.o.length
  have h3 := flat_len h.t
  have h4 : 0 < d.t.flatten.count 0 := by
    rw [List.count_pos_iff]
    refine List.mem_flatten.2 ⟨d.t.getD p [], by rw [getD_get hp]; exact List.getElem_mem _, ?_⟩
    have hi' : i < (d.t.getD p []).length := by rw [h.t p hp]; exact hi
    rw [← h0, getD_get hi']
    exact List.getElem_mem _
  have := h.t8
  omega
/-! Opening. -/
def atD (o : List Ds) : Nat := frD (o.map Ds.r)
def putD (o : List Ds) (k : Nat) (x : Ds) : List Ds := match decide (k < o.length) with | true => o.set k x | false => o ++ [x]
theorem mapR (o : List Ds) (k : Nat) : (o.map Ds.r).getD k 0 = (o.getD k zDs).r := by
  simp only [List.getD, List.getElem?_map]
  cases o[k]? <;> rfl
theorem atD_le (o : List Ds) : atD o ≤ o.length := by have := frD_le (L := o.map Ds.r); rwa [List.length_map] at this
theorem atD_get {o : List Ds} (h : atD o < o.length) : (o.getD (atD o) zDs).r = 0 := by
  rw [← mapR]
  exact frD_get (L := o.map Ds.r) (by rw [List.length_map]; exact h)
theorem atD_ne {o : List Ds} {j : Nat} (h : j < atD o) : (o.getD j zDs).r ≠ 0 := by
  rw [← mapR]
  exact frD_ne h
theorem atD_at {o : List Ds} {i : Nat} (h : i < o.length) (h0 : (o.getD i zDs).r = 0) (hk : ∀ j, j < i → (o.getD j zDs).r ≠ 0) : atD o = i :=
  frD_at (by rw [List.length_map]; exact h) (by rw [mapR]; exact h0) (fun j hj => by rw [mapR]; exact hk j hj)
theorem atD_none {o : List Ds} (hk : ∀ j, j < o.length → (o.getD j zDs).r ≠ 0) : atD o = o.length := by
  have := frD_none (L := o.map Ds.r) (fun j hj => by rw [mapR]; exact hk j (by rwa [List.length_map] at hj))
  rwa [List.length_map] at this
theorem putD_lt {o : List Ds} {k : Nat} (x : Ds) (h : k < o.length) : putD o k x = o.set k x := by unfold putD; rw [decide_eq_true h]
theorem putD_ge {o : List Ds} {k : Nat} (x : Ds) (h : ¬k < o.length) : putD o k x = o ++ [x] := by unfold putD; rw [decide_eq_false h]
def newD (n : Nat) : Dd := ⟨List.replicate n (List.replicate 16 0), []⟩
/-- The descriptors with one opened. -/
def opD (d : Dd) (p : Nat) (x : Ds) : Dd := ⟨setT d.t p (frD (d.t.getD p [])) ((atD d.o : Int) + 1), putD d.o (atD d.o) x⟩
noncomputable def opnD (d : Dd) (p : Int) (x : Ds) : Dd × Int × Int := match okD d with
  | false => (d, 0, 1)
  | true => match inD p 0 ((d.t.length : Int) - 1) && rtD x with
    | false => (d, 0, 2)
    | true => match decide (frD (d.t.getD p.toNat []) < 16) with
      | false => (d, 0, 3)
      | true => (opD d p.toNat x, (frD (d.t.getD p.toNat []) : Int), 0)
theorem opnD_1 {d : Dd} {p : Int} {x : Ds} (h : okD d = false) : opnD d p x = (d, 0, 1) := by unfold opnD; rw [h]
theorem opnD_2p {d : Dd} {p : Int} {x : Ds} (h : okD d = true) (hp : ¬(0 ≤ p ∧ p ≤ (d.t.length : Int) - 1)) : opnD d p x = (d, 0, 2) := by unfold opnD; rw [h, inD_no hp]; rfl
theorem opnD_2x {d : Dd} {p : Int} {x : Ds} (h : okD d = true) (hx : rtD x = false) : opnD d p x = (d, 0, 2) := by unfold opnD; rw [h, hx, Bool.and_false]
theorem opnD_3 {d : Dd} {p : Nat} {x : Ds} (h : okD d = true) (hp : p < d.t.length) (hx : rtD x = true) (hf : ¬frD (d.t.getD p []) < 16) : opnD d p x = (d, 0, 3) := by
  unfold opnD
  have hp1 : (0 : Int) ≤ (p : Int) ∧ (p : Int) ≤ (d.t.length : Int) - 1 := by omega
  rw [h, inD_iff.2 hp1, hx, Int.toNat_natCast, decide_eq_false hf]; rfl
theorem opnD_0 {d : Dd} {p : Nat} {x : Ds} (h : okD d = true) (hp : p < d.t.length) (hx : rtD x = true) (hf : frD (d.t.getD p []) < 16) : opnD d p x = (opD d p x, (frD (d.t.getD p []) : Int), 0) := by
  unfold opnD
  have hp1 : (0 : Int) ≤ (p : Int) ∧ (p : Int) ≤ (d.t.length : Int) - 1 := by omega
  rw [h, inD_iff.2 hp1, hx, Int.toNat_natCast, decide_eq_true hf]; rfl
theorem opnD_get {d : Dd} {p : Int} {x : Ds} (h : (opnD d p x).2.2 = 0) : okD d = true ∧ rtD x = true ∧ ∃ pn : Nat, p = pn ∧ pn < d.t.length ∧ frD (d.t.getD pn []) < 16 ∧ opnD d p x = (opD d pn x, (frD (d.t.getD pn []) : Int), 0) := by
  cases h1 : okD d
  · rw [opnD_1 h1] at h; simp at h
  by_cases hp : 0 ≤ p ∧ p ≤ (d.t.length : Int) - 1
  · obtain ⟨pn, rfl⟩ : ∃ n : Nat, p = n := ⟨p.toNat, by omega⟩
    cases h2 : rtD x
    · rw [opnD_2x h1 h2] at h; simp at h
    have hpn : pn < d.t.length := by omega
    by_cases hf : frD (d.t.getD pn []) < 16
    · exact ⟨rfl, rfl, pn, rfl, hpn, hf, opnD_0 h1 hpn h2 hf⟩
    · rw [opnD_3 h1 hpn h2 hf] at h; simp at h
  · rw [opnD_2p h1 hp] at h; simp at h
/-! Duplicating. -/
def duD (d : Dd) (p k : Nat) : Dd := ⟨setT d.t p (frD (d.t.getD p [])) ((k : Int) + 1), d.o.set k { d.o.getD k zDs with r := (d.o.getD k zDs).r + 1 }⟩
noncomputable def dupD (d : Dd) (p q : Int) : Dd × Int × Int := match decide ((lkD d p q).2.2 = 0) with
  | false => (d, 0, (lkD d p q).2.2)
  | true => match decide (frD (d.t.getD p.toNat []) < 16) with
    | false => (d, 0, 3)
    | true => (duD d p.toNat (lkD d p q).1.toNat, (frD (d.t.getD p.toNat []) : Int), 0)
theorem dupD_e {d : Dd} {p q : Int} (h : (lkD d p q).2.2 ≠ 0) : dupD d p q = (d, 0, (lkD d p q).2.2) := by unfold dupD; rw [decide_eq_false h]
theorem dupD_3 {d : Dd} {p : Nat} {q : Int} (h : (lkD d p q).2.2 = 0) (hf : ¬frD (d.t.getD p []) < 16) : dupD d p q = (d, 0, 3) := by
  unfold dupD
  rw [decide_eq_true h, Int.toNat_natCast, decide_eq_false hf]
theorem dupD_0 {d : Dd} {p k : Nat} {q : Int} (h : (lkD d p q).2.2 = 0) (hk : (lkD d p q).1 = k) (hf : frD (d.t.getD p []) < 16) : dupD d p q = (duD d p k, (frD (d.t.getD p []) : Int), 0) := by
  unfold dupD
  rw [decide_eq_true h, Int.toNat_natCast, decide_eq_true hf, hk, Int.toNat_natCast]
theorem dupD_get {d : Dd} {p q : Int} (h : (dupD d p q).2.2 = 0) : okD d = true ∧ ∃ pn qn k : Nat, p = pn ∧ q = qn ∧ pn < d.t.length ∧ qn < 16 ∧ (d.t.getD pn []).getD qn 0 = (k : Int) + 1 ∧ k < d.o.length ∧ frD (d.t.getD pn []) < 16 ∧ dupD d p q = (duD d pn k, (frD (d.t.getD pn []) : Int), 0) := by
  by_cases h1 : (lkD d p q).2.2 = 0
  · obtain ⟨ok, pn, qn, k, rfl, rfl, hp, hq, hk, ho, e⟩ := lkD_get h1
    by_cases hf : frD (d.t.getD pn []) < 16
    · exact ⟨ok, pn, qn, k, rfl, rfl, hp, hq, hk, ho, hf, dupD_0 h1 (by rw [e]) hf⟩
    · rw [dupD_3 h1 hf] at h; simp at h
  · rw [dupD_e h1] at h; exact absurd h h1
/-! Forking. -/
def addD (o : List Ds) (F : List Int) : List Ds := (List.range o.length).map fun k => { o.getD k zDs with r := (o.getD k zDs).r + cntD F k }
theorem addD_len (o : List Ds) (F : List Int) : (addD o F).length = o.length := by simp [addD]
theorem addD_at {o : List Ds} {F : List Int} {k : Nat} (h : k < o.length) : (addD o F).getD k zDs = { o.getD k zDs with r := (o.getD k zDs).r + cntD F k } := by simp [addD, List.getD, h]
theorem addD_nil (o : List Ds) : addD o [] = o := by
  refine List.ext_getElem (addD_len o []) fun k h1 h2 => ?_
  rw [← getD_get (d := zDs) h1, ← getD_get (d := zDs) h2, addD_at h2, cntD_nil]
  simp
theorem addD_0 (o : List Ds) (F : List Int) {n : Int} (h : n ≤ 0) : addD o (F ++ [n]) = addD o F := by
  unfold addD
  refine List.map_congr_left fun i _ => ?_
  rw [cntD_snoc, if_neg (by omega)]
  rfl
theorem addD_s (o : List Ds) (F : List Int) (k : Nat) : addD o (F ++ [(k : Int) + 1]) = (addD o F).set k { (addD o F).getD k zDs with r := ((addD o F).getD k zDs).r + 1 } := by
  refine List.ext_getElem (by simp [addD]) fun i h1 h2 => ?_
  have hi : i < o.length := by rwa [addD_len] at h1
  rw [List.getElem_set, ← getD_get (d := zDs) h1, addD_at hi, cntD_snoc]
  by_cases e : k = i
  · subst e
    rw [if_pos rfl, if_pos rfl, addD_at hi]
    simp only [Ds.mk.injEq, true_and]
    omega
  · rw [if_neg e, if_neg (by omega), ← getD_get (d := zDs), addD_at hi]
    rfl
def fkD (d : Dd) (a b : Nat) : Dd := ⟨d.t.set b (d.t.getD a []), addD d.o (d.t.getD a [])⟩
def zrD (L : List Int) : Bool := (List.range 16).all fun i => decide (L.getD i 0 = 0)
theorem zrD_iff {L : List Int} : zrD L = true ↔ ∀ i, i < 16 → L.getD i 0 = 0 := by
  unfold zrD
  rw [List.all_eq_true]
  exact ⟨fun h i hi => of_decide_eq_true (h i (List.mem_range.2 hi)), fun h i hi => decide_eq_true (h i (List.mem_range.1 hi))⟩
noncomputable def frkD (d : Dd) (a b : Int) : Dd × Int := match okD d with
  | false => (d, 1)
  | true => match inD a 0 ((d.t.length : Int) - 1) && inD b 0 ((d.t.length : Int) - 1) && !decide (a = b) with
    | false => (d, 2)
    | true => match zrD (d.t.getD b.toNat []) with
      | false => (d, 5)
      | true => (fkD d a.toNat b.toNat, 0)
theorem frkD_1 {d : Dd} {a b : Int} (h : okD d = false) : frkD d a b = (d, 1) := by unfold frkD; rw [h]
theorem frkD_2 {d : Dd} {a b : Int} (h : okD d = true) (hp : ¬((0 ≤ a ∧ a ≤ (d.t.length : Int) - 1) ∧ (0 ≤ b ∧ b ≤ (d.t.length : Int) - 1) ∧ a ≠ b)) : frkD d a b = (d, 2) := by
  unfold frkD
  rw [h]
  have : (inD a 0 ((d.t.length : Int) - 1) && inD b 0 ((d.t.length : Int) - 1) && !decide (a = b)) = false := by
    cases e : (inD a 0 ((d.t.length : Int) - 1) && inD b 0 ((d.t.length : Int) - 1) && !decide (a = b))
    · rfl
    · rw [Bool.and_eq_true, Bool.and_eq_true, inD_iff, inD_iff] at e
      exact absurd ⟨e.1.1, e.1.2, fun q => by have := e.2; rw [decide_eq_true q] at this; cases this⟩ hp
  rw [this]
theorem frkD_ok {a b : Nat} {d : Dd} (ha : a < d.t.length) (hb : b < d.t.length) (hab : a ≠ b) : (inD (a : Int) 0 ((d.t.length : Int) - 1) && inD (b : Int) 0 ((d.t.length : Int) - 1) && !decide ((a : Int) = (b : Int))) = true := by
  have h1 : (0 : Int) ≤ (a : Int) ∧ (a : Int) ≤ (d.t.length : Int) - 1 := by omega
  have h2 : (0 : Int) ≤ (b : Int) ∧ (b : Int) ≤ (d.t.length : Int) - 1 := by omega
  have h3 : ¬(a : Int) = (b : Int) := by omega
  rw [inD_iff.2 h1, inD_iff.2 h2, decide_eq_false h3]; rfl
theorem frkD_5 {d : Dd} {a b : Nat} (h : okD d = true) (ha : a < d.t.length) (hb : b < d.t.length) (hab : a ≠ b) (hz : ¬∀ i, i < 16 → (d.t.getD b []).getD i 0 = 0) : frkD d a b = (d, 5) := by
  unfold frkD
  have : zrD (d.t.getD b []) = false := by
    cases e : zrD (d.t.getD b [])
    · rfl
    · exact absurd (zrD_iff.1 e) hz
  rw [h, frkD_ok ha hb hab, Int.toNat_natCast, this]
theorem frkD_0 {d : Dd} {a b : Nat} (h : okD d = true) (ha : a < d.t.length) (hb : b < d.t.length) (hab : a ≠ b) (hz : ∀ i, i < 16 → (d.t.getD b []).getD i 0 = 0) : frkD d a b = (fkD d a b, 0) := by
  unfold frkD
  rw [h, frkD_ok ha hb hab, Int.toNat_natCast, Int.toNat_natCast, zrD_iff.2 hz]
theorem frkD_get {d : Dd} {a b : Int} (h : (frkD d a b).2 = 0) : okD d = true ∧ ∃ an bn : Nat, a = an ∧ b = bn ∧ an < d.t.length ∧ bn < d.t.length ∧ an ≠ bn ∧ (∀ i, i < 16 → (d.t.getD bn []).getD i 0 = 0) ∧ frkD d a b = (fkD d an bn, 0) := by
  cases h1 : okD d
  · rw [frkD_1 h1] at h; simp at h
  by_cases hp : (0 ≤ a ∧ a ≤ (d.t.length : Int) - 1) ∧ (0 ≤ b ∧ b ≤ (d.t.length : Int) - 1) ∧ a ≠ b
  · obtain ⟨an, rfl⟩ : ∃ n : Nat, a = n := ⟨a.toNat, by omega⟩
    obtain ⟨bn, rfl⟩ : ∃ n : Nat, b = n := ⟨b.toNat, by omega⟩
    have ha : an < d.t.length := by omega
    have hb : bn < d.t.length := by omega
    have hab : an ≠ bn := by omega
    by_cases hz : ∀ i, i < 16 → (d.t.getD bn []).getD i 0 = 0
    · exact ⟨rfl, an, bn, rfl, rfl, ha, hb, hab, hz, frkD_0 h1 ha hb hab hz⟩
    · rw [frkD_5 h1 ha hb hab hz] at h; simp at h
  · rw [frkD_2 h1 hp] at h; simp at h
/-! Closing. -/
def lsD (o : List Ds) : Nat → Nat
  | 0 => 0
  | n + 1 => match decide ((o.getD n zDs).r = 0) with | true => lsD o n | false => n + 1
def trD (o : List Ds) : List Ds := o.take (lsD o o.length)
theorem lsD_z {o : List Ds} {n : Nat} (h : (o.getD n zDs).r = 0) : lsD o (n + 1) = lsD o n := by
  show (match decide ((o.getD n zDs).r = 0) with | true => lsD o n | false => n + 1) = _
  rw [decide_eq_true h]
theorem lsD_n {o : List Ds} {n : Nat} (h : ¬(o.getD n zDs).r = 0) : lsD o (n + 1) = n + 1 := by
  show (match decide ((o.getD n zDs).r = 0) with | true => lsD o n | false => n + 1) = _
  rw [decide_eq_false h]
theorem lsD_le (o : List Ds) : ∀ n, lsD o n ≤ n
  | 0 => Nat.le_refl _
  | n + 1 => by
    have := lsD_le o n
    by_cases h : (o.getD n zDs).r = 0
    · rw [lsD_z h]; omega
    · rw [lsD_n h]; omega
theorem lsD_last (o : List Ds) : ∀ n, lsD o n = 0 ∨ (o.getD (lsD o n - 1) zDs).r ≠ 0
  | 0 => .inl rfl
  | n + 1 => by
    by_cases h : (o.getD n zDs).r = 0
    · rw [lsD_z h]; exact lsD_last o n
    · rw [lsD_n h]; exact .inr h
theorem lsD_zero (o : List Ds) : ∀ n j, lsD o n ≤ j → j < n → (o.getD j zDs).r = 0
  | 0, j, _, h => absurd h (by omega)
  | n + 1, j, h1, h2 => by
    by_cases h : (o.getD n zDs).r = 0
    · by_cases e : j = n
      · rw [e]; exact h
      · rw [lsD_z h] at h1; exact lsD_zero o n j h1 (by omega)
    · rw [lsD_n h] at h1; omega
theorem trD_len (o : List Ds) : (trD o).length = lsD o o.length := by unfold trD; rw [List.length_take, Nat.min_eq_left (lsD_le o _)]
theorem trD_at {o : List Ds} {k : Nat} (h : k < lsD o o.length) : (trD o).getD k zDs = o.getD k zDs := by
  unfold trD
  simp only [List.getD]
  rw [List.getElem?_take, if_pos h]
/-- The descriptors with one freed: what becomes of its description. -/
def clD (d : Dd) (p q k : Nat) : Dd × Bool := match decide (0 < (d.o.getD k zDs).r - 1) with
  | true => (⟨setT d.t p q 0, d.o.set k { d.o.getD k zDs with r := (d.o.getD k zDs).r - 1 }⟩, false)
  | false => (⟨setT d.t p q 0, trD (d.o.set k zDs)⟩, true)
theorem clD_t {d : Dd} {p q k : Nat} (h : 0 < (d.o.getD k zDs).r - 1) : clD d p q k = (⟨setT d.t p q 0, d.o.set k { d.o.getD k zDs with r := (d.o.getD k zDs).r - 1 }⟩, false) := by unfold clD; rw [decide_eq_true h]
theorem clD_f {d : Dd} {p q k : Nat} (h : ¬0 < (d.o.getD k zDs).r - 1) : clD d p q k = (⟨setT d.t p q 0, trD (d.o.set k zDs)⟩, true) := by unfold clD; rw [decide_eq_false h]
noncomputable def clsD (d : Dd) (p q : Int) : Dd × Bool × Int := match decide ((lkD d p q).2.2 = 0) with
  | false => (d, false, (lkD d p q).2.2)
  | true => ((clD d p.toNat q.toNat (lkD d p q).1.toNat).1, (clD d p.toNat q.toNat (lkD d p q).1.toNat).2, 0)
theorem clsD_e {d : Dd} {p q : Int} (h : (lkD d p q).2.2 ≠ 0) : clsD d p q = (d, false, (lkD d p q).2.2) := by unfold clsD; rw [decide_eq_false h]
theorem clsD_0 {d : Dd} {p q k : Nat} (h : (lkD d p q).2.2 = 0) (hk : (lkD d p q).1 = k) : clsD d p q = ((clD d p q k).1, (clD d p q k).2, 0) := by
  unfold clsD
  rw [decide_eq_true h, Int.toNat_natCast, Int.toNat_natCast, hk, Int.toNat_natCast]
theorem clsD_get {d : Dd} {p q : Int} (h : (clsD d p q).2.2 = 0) : okD d = true ∧ ∃ pn qn k : Nat, p = pn ∧ q = qn ∧ pn < d.t.length ∧ qn < 16 ∧ (d.t.getD pn []).getD qn 0 = (k : Int) + 1 ∧ k < d.o.length ∧ clsD d p q = ((clD d pn qn k).1, (clD d pn qn k).2, 0) := by
  by_cases h1 : (lkD d p q).2.2 = 0
  · obtain ⟨ok, pn, qn, k, rfl, rfl, hp, hq, hk, ho, e⟩ := lkD_get h1
    exact ⟨ok, pn, qn, k, rfl, rfl, hp, hq, hk, ho, clsD_0 h1 (by rw [e])⟩
  · rw [clsD_e h1] at h; exact absurd h h1
/-! Updating. -/
def upO (d : Dd) (k : Nat) (x : Ds) : Dd := ⟨d.t, d.o.set k { d.o.getD k zDs with o := x.o, c := x.c }⟩
noncomputable def updD (d : Dd) (n : Int) (x : Ds) : Dd × Int := match okD d with
  | false => (d, 1)
  | true => match inD n 0 ((d.o.length : Int) - 1) && !decide ((d.o.getD n.toNat zDs).r = 0) with
    | false => (d, 4)
    | true => match inD x.o 0 128 && inD x.c 0 1000000 with
      | false => (d, 2)
      | true => (upO d n.toNat x, 0)
theorem updD_1 {d : Dd} {n : Int} {x : Ds} (h : okD d = false) : updD d n x = (d, 1) := by unfold updD; rw [h]
theorem updD_4 {d : Dd} {n : Int} {x : Ds} (h : okD d = true) (hn : ¬(0 ≤ n ∧ n ≤ (d.o.length : Int) - 1)) : updD d n x = (d, 4) := by unfold updD; rw [h, inD_no hn]; rfl
theorem updD_4r {d : Dd} {n : Nat} {x : Ds} (h : okD d = true) (hr : (d.o.getD n zDs).r = 0) : updD d n x = (d, 4) := by
  unfold updD; rw [h, Int.toNat_natCast, decide_eq_true hr, Bool.not_true, Bool.and_false]
theorem updD_2 {d : Dd} {n : Nat} {x : Ds} (h : okD d = true) (hn : n < d.o.length) (hr : (d.o.getD n zDs).r ≠ 0) (hx : ¬((0 ≤ x.o ∧ x.o ≤ 128) ∧ 0 ≤ x.c ∧ x.c ≤ 1000000)) : updD d n x = (d, 2) := by
  unfold updD
  have h1 : (0 : Int) ≤ (n : Int) ∧ (n : Int) ≤ (d.o.length : Int) - 1 := by omega
  rw [h, inD_iff.2 h1, Int.toNat_natCast, decide_eq_false hr]
  by_cases h2 : 0 ≤ x.o ∧ x.o ≤ 128
  · rw [inD_no (fun h3 => hx ⟨h2, h3⟩), Bool.and_false]; rfl
  · rw [inD_no h2]; rfl
theorem updD_0 {d : Dd} {n : Nat} {x : Ds} (h : okD d = true) (hn : n < d.o.length) (hr : (d.o.getD n zDs).r ≠ 0) (hx : (0 ≤ x.o ∧ x.o ≤ 128) ∧ 0 ≤ x.c ∧ x.c ≤ 1000000) : updD d n x = (upO d n x, 0) := by
  unfold updD
  have h1 : (0 : Int) ≤ (n : Int) ∧ (n : Int) ≤ (d.o.length : Int) - 1 := by omega
  rw [h, inD_iff.2 h1, Int.toNat_natCast, decide_eq_false hr, inD_iff.2 hx.1, inD_iff.2 hx.2]; rfl
/-! Right descriptors stay right. -/
theorem cntD_out {d : Dd} (h : OkDd d) {k : Nat} (hk : d.o.length ≤ k) : cntD d.t.flatten k = 0 := by
  refine Nat.eq_zero_of_not_pos fun hp => ?_
  obtain ⟨p, i, hp, hi, e⟩ := cntD_ex hp
  have := (h.n p hp i (by rw [← h.t p hp]; exact hi)).2
  omega
theorem setT_row {T : List (List Int)} {p i : Nat} {v : Int} (h : ∀ p, p < T.length → (T.getD p []).length = 16) : ∀ p', p' < (setT T p i v).length → ((setT T p i v).getD p' []).length = 16 := by
  intro p' hp'
  rw [setT_len] at hp'
  by_cases e : p' = p
  · subst e; rw [setT_eq hp', List.length_set]; exact h p' hp'
  · rw [setT_ne e]; exact h p' hp'
theorem setT_at {T : List (List Int)} {p i p' i' : Nat} {v : Int} (hp : p' < T.length) (hi : i' < (T.getD p' []).length) : ((setT T p i v).getD p' []).getD i' 0 = v ∧ p' = p ∧ i' = i ∨ ((setT T p i v).getD p' []).getD i' 0 = (T.getD p' []).getD i' 0 ∧ ¬(p' = p ∧ i' = i) := by
  by_cases e : p' = p
  · subst e
    rw [setT_eq hp]
    by_cases e2 : i' = i
    · subst e2
      exact .inl ⟨setD_eq hi, rfl, rfl⟩
    · exact .inr ⟨setD_ne e2, fun h => e2 h.2⟩
  · exact .inr ⟨by rw [setT_ne e], fun h => e h.1⟩
theorem putD_len {o : List Ds} {k : Nat} (x : Ds) (h : k ≤ o.length) : k < (putD o k x).length ∧ o.length ≤ (putD o k x).length := by
  by_cases e : k < o.length
  · rw [putD_lt x e, List.length_set]; omega
  · rw [putD_ge x e, List.length_append, List.length_singleton]; omega
theorem putD_eq {o : List Ds} {k : Nat} (x : Ds) (h : k ≤ o.length) : (putD o k x).getD k zDs = x := by
  by_cases e : k < o.length
  · rw [putD_lt x e, setO_eq e]
  · rw [putD_ge x e]
    obtain rfl : o.length = k := by omega
    simp [List.getD]
theorem putD_ne {o : List Ds} {k j : Nat} (x : Ds) (h : k ≤ o.length) (hj : j ≠ k) : (putD o k x).getD j zDs = o.getD j zDs := by
  by_cases e : k < o.length
  · rw [putD_lt x e, setO_ne hj]
  · rw [putD_ge x e]
    obtain rfl : o.length = k := by omega
    simp only [List.getD]
    by_cases e2 : j < o.length
    · rw [List.getElem?_append_left e2]
    · rw [List.getElem?_append_right (by omega), List.getElem?_eq_none (by simp; omega), List.getElem?_eq_none (by omega)]
theorem atD_cnt {d : Dd} (h : OkDd d) : cntD d.t.flatten (atD d.o) = 0 := by
  by_cases e : atD d.o < d.o.length
  · have := (h.r _ e).1
    rw [atD_get e] at this
    omega
  · exact cntD_out h (by omega)
theorem frD_row {d : Dd} (h : OkDd d) {p : Nat} (hp : p < d.t.length) (hf : frD (d.t.getD p []) < 16) : frD (d.t.getD p []) < (d.t.getD p []).length ∧ (d.t.getD p []).getD (frD (d.t.getD p [])) 0 = 0 := by
  have h1 : frD (d.t.getD p []) < (d.t.getD p []).length := by rw [h.t p hp]; exact hf
  exact ⟨h1, frD_get h1⟩
theorem opD_cnt {d : Dd} (h : OkDd d) {p : Nat} (hp : p < d.t.length) (hf : frD (d.t.getD p []) < 16) (x : Ds) (k : Nat) : cntD (opD d p x).t.flatten k = cntD d.t.flatten k + if k = atD d.o then 1 else 0 := by
  obtain ⟨h1, h2⟩ := frD_row h hp hf
  have := cntD_setT (v := (atD d.o : Int) + 1) hp h1 k
  rw [h2, if_neg (by omega : ¬(0 : Int) = (k : Int) + 1)] at this
  show cntD (setT d.t p (frD (d.t.getD p [])) ((atD d.o : Int) + 1)).flatten k = _
  by_cases e : k = atD d.o
  · rw [if_pos e]; rw [if_pos (by omega)] at this; omega
  · rw [if_neg e]; rw [if_neg (by omega)] at this; omega
theorem opD_ok {d : Dd} (h : OkDd d) {p : Nat} (hp : p < d.t.length) (hf : frD (d.t.getD p []) < 16) {x : Ds} (hx : RtD x) (hr : x.r = 1) : OkDd (opD d p x) := by
  have hc := opD_cnt h hp hf x
  obtain ⟨hfl, hf0⟩ := frD_row h hp hf
  have hle := atD_le d.o
  have hat := atD_cnt h
  have pl := putD_len x hle
  have hlen : (putD d.o (atD d.o) x).length ≤ 128 := by
    by_cases e : atD d.o < d.o.length
    · rw [putD_lt x e, List.length_set]; exact h.o
    · have := room_D h (fun k hk => by have := (h.r k hk).1; have := atD_ne (o := d.o) (j := k) (by omega); omega) hp hf hf0
      rw [putD_ge x e, List.length_append, List.length_singleton]; omega
  refine ⟨by show 1 ≤ (setT _ _ _ _).length; rw [setT_len]; exact h.t1, by show (setT _ _ _ _).length ≤ 8; rw [setT_len]; exact h.t8, hlen, setT_row h.t, ?_, ?_, ?_⟩
  · intro p' hp' i hi
    have hp2 : p' < d.t.length := by have : p' < (setT _ _ _ _).length := hp'; rwa [setT_len] at this
    have := h.n p' hp2 i hi
    show 0 ≤ ((setT d.t p _ _).getD p' []).getD i 0 ∧ ((setT d.t p _ _).getD p' []).getD i 0 ≤ ((putD d.o (atD d.o) x).length : Int)
    rcases setT_at (T := d.t) (p := p) (i := frD (d.t.getD p [])) (v := (atD d.o : Int) + 1) hp2 (i' := i) (by rw [h.t p' hp2]; exact hi) with ⟨e, -, -⟩ | ⟨e, -⟩
    · rw [e]; omega
    · rw [e]; omega
  · intro i hi
    rw [hc]
    show ((putD d.o (atD d.o) x).getD i zDs).r = _ ∧ _
    by_cases e : i = atD d.o
    · subst e
      rw [if_pos rfl, hat]
      show ((putD d.o (atD d.o) x).getD _ zDs).r = _ ∧ (_ → (putD d.o (atD d.o) x).getD _ zDs = _) ∧ (_ → RtD ((putD d.o (atD d.o) x).getD _ zDs))
      rw [putD_eq x hle]
      exact ⟨hr, fun h => by simp at h, fun _ => hx⟩
    · rw [if_neg e]
      show ((putD d.o (atD d.o) x).getD _ zDs).r = _ ∧ (_ → (putD d.o (atD d.o) x).getD _ zDs = _) ∧ (_ → RtD ((putD d.o (atD d.o) x).getD _ zDs))
      rw [putD_ne x hle e]
      refine h.r i ?_
      have hi2 : i < (putD d.o (atD d.o) x).length := hi
      by_cases e2 : atD d.o < d.o.length
      · rwa [putD_lt x e2, List.length_set] at hi2
      · rw [putD_ge x e2, List.length_append, List.length_singleton] at hi2; omega
  · right
    rw [hc]
    show 0 < cntD d.t.flatten ((putD d.o (atD d.o) x).length - 1) + if (putD d.o (atD d.o) x).length - 1 = atD d.o then 1 else 0
    by_cases e2 : atD d.o < d.o.length
    · rw [putD_lt x e2, List.length_set]
      rcases h.last with h0 | h0
      · omega
      · omega
    · rw [putD_ge x e2, List.length_append, List.length_singleton, Nat.add_sub_cancel, if_pos (show d.o.length = atD d.o by omega)]; omega
theorem duD_cnt {d : Dd} (h : OkDd d) {p : Nat} (hp : p < d.t.length) (hf : frD (d.t.getD p []) < 16) (n k : Nat) : cntD (duD d p n).t.flatten k = cntD d.t.flatten k + if k = n then 1 else 0 := by
  obtain ⟨h1, h2⟩ := frD_row h hp hf
  have := cntD_setT (v := (n : Int) + 1) hp h1 k
  rw [h2, if_neg (by omega : ¬(0 : Int) = (k : Int) + 1)] at this
  show cntD (setT d.t p (frD (d.t.getD p [])) ((n : Int) + 1)).flatten k = _
  by_cases e : k = n
  · rw [if_pos e]; rw [if_pos (by omega)] at this; omega
  · rw [if_neg e]; rw [if_neg (by omega)] at this; omega
theorem duD_ok {d : Dd} (h : OkDd d) {p q n : Nat} (hp : p < d.t.length) (hf : frD (d.t.getD p []) < 16) (hq : q < 16) (hn : n < d.o.length) (he : (d.t.getD p []).getD q 0 = (n : Int) + 1) : OkDd (duD d p n) := by
  have hc := duD_cnt h hp hf n
  have hpos : 0 < cntD d.t.flatten n := cntD_mem hp (by rw [h.t p hp]; exact hq) he
  have hlen : (duD d p n).o.length = d.o.length := List.length_set
  refine ⟨by show 1 ≤ (setT _ _ _ _).length; rw [setT_len]; exact h.t1, by show (setT _ _ _ _).length ≤ 8; rw [setT_len]; exact h.t8, by rw [hlen]; exact h.o, setT_row h.t, ?_, ?_, ?_⟩
  · intro p' hp' i hi
    have hp2 : p' < d.t.length := by have : p' < (setT _ _ _ _).length := hp'; rwa [setT_len] at this
    have := h.n p' hp2 i hi
    rw [hlen]
    show 0 ≤ ((setT d.t p _ _).getD p' []).getD i 0 ∧ ((setT d.t p _ _).getD p' []).getD i 0 ≤ _
    rcases setT_at (T := d.t) (p := p) (i := frD (d.t.getD p [])) (v := (n : Int) + 1) hp2 (i' := i) (by rw [h.t p' hp2]; exact hi) with ⟨e, -, -⟩ | ⟨e, -⟩
    · rw [e]; omega
    · rw [e]; omega
  · intro i hi
    rw [hlen] at hi
    rw [hc]
    have hr := h.r i hi
    show ((d.o.set n _).getD i zDs).r = _ ∧ (_ → (d.o.set n _).getD i zDs = _) ∧ (_ → RtD ((d.o.set n _).getD i zDs))
    by_cases e : i = n
    · subst e
      rw [if_pos rfl, setO_eq hi]
      exact ⟨by show _ + 1 = _; omega, fun h => by omega, fun _ => hr.2.2 hpos⟩
    · rw [if_neg e, setO_ne e]
      exact hr
  · rw [hlen]
    rcases h.last with h0 | h0
    · exact .inl h0
    · right; rw [hc]; omega
theorem fkD_cnt {d : Dd} {a b : Nat} (hb : b < d.t.length) (h16 : (d.t.getD b []).length = 16) (hz : ∀ i, i < 16 → (d.t.getD b []).getD i 0 = 0) (k : Nat) : cntD (fkD d a b).t.flatten k = cntD d.t.flatten k + cntD (d.t.getD a []) k := by
  have h1 := cnt_row (T := d.t) (p := b) (d.t.getD a []) ((k : Int) + 1) hb
  have h2 : (d.t.getD b []).count ((k : Int) + 1) = 0 := by
    refine List.count_eq_zero.2 fun hm => ?_
    obtain ⟨i, hi, e⟩ := List.getElem_of_mem hm
    have := hz i (by rw [← h16]; exact hi)
    rw [getD_get hi, e] at this
    omega
  show (d.t.set b (d.t.getD a [])).flatten.count ((k : Int) + 1) = d.t.flatten.count ((k : Int) + 1) + (d.t.getD a []).count ((k : Int) + 1)
  omega
theorem cntD_row {T : List (List Int)} {p k : Nat} (hp : p < T.length) (h : 0 < cntD (T.getD p []) k) : 0 < cntD T.flatten k := by
  unfold cntD at h
  rw [List.count_pos_iff] at h
  obtain ⟨i, hi, e⟩ := List.getElem_of_mem h
  exact cntD_mem hp hi (by rw [getD_get hi]; exact e)
theorem fkD_row {d : Dd} {a b p : Nat} : p < d.t.length → (fkD d a b).t.getD p [] = if p = b then d.t.getD a [] else d.t.getD p [] := by
  intro hp
  show (d.t.set b (d.t.getD a [])).getD p [] = _
  by_cases e : p = b
  · subst e; rw [if_pos rfl]; simp only [List.getD]; rw [List.getElem?_set, if_pos rfl, if_pos hp]; rfl
  · rw [if_neg e]; simp only [List.getD]; rw [List.getElem?_set, if_neg (Ne.symm e)]
theorem fkD_ok {d : Dd} (h : OkDd d) {a b : Nat} (ha : a < d.t.length) (hb : b < d.t.length) (hz : ∀ i, i < 16 → (d.t.getD b []).getD i 0 = 0) : OkDd (fkD d a b) := by
  have hc := fkD_cnt (a := a) hb (h.t b hb) hz
  have hlen : (fkD d a b).o.length = d.o.length := addD_len _ _
  have htl : (fkD d a b).t.length = d.t.length := List.length_set
  refine ⟨by rw [htl]; exact h.t1, by rw [htl]; exact h.t8, by rw [hlen]; exact h.o, ?_, ?_, ?_, ?_⟩
  · intro p hp
    rw [htl] at hp
    rw [fkD_row hp]
    split
    · exact h.t a ha
    · exact h.t p hp
  · intro p hp i hi
    rw [htl] at hp
    rw [fkD_row hp, hlen]
    split
    · exact h.n a ha i hi
    · exact h.n p hp i hi
  · intro i hi
    rw [hlen] at hi
    rw [hc]
    have hr := h.r i hi
    have e : (fkD d a b).o.getD i zDs = _ := addD_at hi
    rw [e]
    refine ⟨by show _ + _ = _; omega, fun h0 => ?_, fun hp => ?_⟩
    · have h1 := hr.2.1 (by omega)
      rw [h1, show cntD (d.t.getD a []) i = 0 by omega]; rfl
    · have : 0 < cntD d.t.flatten i := by
        by_cases h1 : 0 < cntD (d.t.getD a []) i
        · exact cntD_row ha h1
        · omega
      exact hr.2.2 this
  · rw [hlen]
    rcases h.last with h0 | h0
    · exact .inl h0
    · right; rw [hc]; omega
theorem clD_cnt {d : Dd} (h : OkDd d) {p q n : Nat} (hp : p < d.t.length) (hq : q < 16) (he : (d.t.getD p []).getD q 0 = (n : Int) + 1) (k : Nat) : cntD (setT d.t p q 0).flatten k + (if k = n then 1 else 0) = cntD d.t.flatten k := by
  have := cntD_setT (v := 0) hp (i := q) (by rw [h.t p hp]; exact hq) k
  rw [he, if_neg (by omega : ¬(0 : Int) = (k : Int) + 1)] at this
  by_cases e : k = n
  · rw [if_pos e]; rw [if_pos (by omega)] at this; omega
  · rw [if_neg e]; rw [if_neg (by omega)] at this; omega
theorem clD_tab {d : Dd} {p q n : Nat} : (clD d p q n).1.t = setT d.t p q 0 := by
  by_cases e : 0 < (d.o.getD n zDs).r - 1
  · rw [clD_t e]
  · rw [clD_f e]
theorem clD_ok {d : Dd} (h : OkDd d) {p q n : Nat} (hp : p < d.t.length) (hq : q < 16) (hn : n < d.o.length) (he : (d.t.getD p []).getD q 0 = (n : Int) + 1) : OkDd (clD d p q n).1 := by
  have hc := clD_cnt h hp hq he
  have hpos : 0 < cntD d.t.flatten n := cntD_mem hp (by rw [h.t p hp]; exact hq) he
  have hrn := h.r n hn
  have hcn := hc n
  rw [if_pos rfl] at hcn
  have hent : ∀ p', p' < d.t.length → ∀ i, i < 16 → 0 ≤ ((setT d.t p q 0).getD p' []).getD i 0 ∧ ((setT d.t p q 0).getD p' []).getD i 0 ≤ d.o.length := by
    intro p' hp2 i hi
    have := h.n p' hp2 i hi
    rcases setT_at (T := d.t) (p := p) (i := q) (v := 0) hp2 (i' := i) (by rw [h.t p' hp2]; exact hi) with ⟨e, -, -⟩ | ⟨e, -⟩
    · rw [e]; omega
    · rw [e]; omega
  by_cases e : 0 < (d.o.getD n zDs).r - 1
  · rw [clD_t e]
    refine ⟨by show 1 ≤ (setT _ _ _ _).length; rw [setT_len]; exact h.t1, by show (setT _ _ _ _).length ≤ 8; rw [setT_len]; exact h.t8, by show (d.o.set n _).length ≤ 128; rw [List.length_set]; exact h.o, setT_row h.t, ?_, ?_, ?_⟩
    · intro p' hp' i hi
      have hp2 : p' < d.t.length := by have : p' < (setT _ _ _ _).length := hp'; rwa [setT_len] at this
      show _ ∧ _ ≤ ((d.o.set n _).length : Int)
      rw [List.length_set]
      exact hent p' hp2 i hi
    · intro i hi
      have hi2 : i < d.o.length := by have : i < (d.o.set n _).length := hi; rwa [List.length_set] at this
      have hr := h.r i hi2
      have hci := hc i
      show ((d.o.set n _).getD i zDs).r = cntD (setT d.t p q 0).flatten i ∧ (cntD (setT d.t p q 0).flatten i = 0 → (d.o.set n _).getD i zDs = _) ∧ (_ → RtD ((d.o.set n _).getD i zDs))
      by_cases e2 : i = n
      · subst e2
        rw [setO_eq hi2]
        exact ⟨by show _ - 1 = _; omega, fun h => by omega, fun _ => hr.2.2 hpos⟩
      · rw [if_neg e2, Nat.add_zero] at hci
        rw [setO_ne e2, hci]
        exact hr
    · show (d.o.set n _).length = 0 ∨ 0 < cntD (setT d.t p q 0).flatten ((d.o.set n _).length - 1)
      rw [List.length_set]
      rcases h.last with h0 | h0
      · exact .inl h0
      · right
        have hci := hc (d.o.length - 1)
        by_cases e2 : d.o.length - 1 = n
        · rw [e2]; omega
        · rw [if_neg e2] at hci; omega
  · rw [clD_f e]
    have hc0 : cntD (setT d.t p q 0).flatten n = 0 := by omega
    have hr1 : ∀ i, i < d.o.length → ((d.o.set n zDs).getD i zDs).r = cntD (setT d.t p q 0).flatten i ∧ (cntD (setT d.t p q 0).flatten i = 0 → (d.o.set n zDs).getD i zDs = zDs) ∧ (0 < cntD (setT d.t p q 0).flatten i → RtD ((d.o.set n zDs).getD i zDs)) := by
      intro i hi
      have hci := hc i
      by_cases e2 : i = n
      · subst e2
        rw [setO_eq hi, hc0]
        exact ⟨rfl, fun _ => rfl, fun h => by omega⟩
      · rw [if_neg e2, Nat.add_zero] at hci
        rw [setO_ne e2, hci]
        exact h.r i hi
    have hL : (d.o.set n zDs).length = d.o.length := List.length_set
    have hK := lsD_le (d.o.set n zDs) d.o.length
    have hlen : (trD (d.o.set n zDs)).length = lsD (d.o.set n zDs) d.o.length := by rw [trD_len, hL]
    refine ⟨by show 1 ≤ (setT _ _ _ _).length; rw [setT_len]; exact h.t1, by show (setT _ _ _ _).length ≤ 8; rw [setT_len]; exact h.t8, by show (trD _).length ≤ 128; have := h.o; omega, setT_row h.t, ?_, ?_, ?_⟩
    · intro p' hp' i hi
      have hp2 : p' < d.t.length := by have : p' < (setT _ _ _ _).length := hp'; rwa [setT_len] at this
      show _ ∧ _ ≤ ((trD _).length : Int)
      rw [hlen]
      have he := hent p' hp2 i hi
      refine ⟨he.1, ?_⟩
      by_cases h0 : ((setT d.t p q 0).getD p' []).getD i 0 = 0
      · show ((setT d.t p q 0).getD p' []).getD i 0 ≤ _
        rw [h0]; omega
      · obtain ⟨k, hk⟩ : ∃ k : Nat, ((setT d.t p q 0).getD p' []).getD i 0 = (k : Int) + 1 := ⟨(((setT d.t p q 0).getD p' []).getD i 0 - 1).toNat, by omega⟩
        have hm := cntD_mem (T := setT d.t p q 0) (p := p') (by rw [setT_len]; exact hp2) (by rw [setT_row h.t p' (by rw [setT_len]; exact hp2)]; exact hi) hk
        have hkl : k < d.o.length := by omega
        have h3 := (hr1 k hkl).1
        show ((setT d.t p q 0).getD p' []).getD i 0 ≤ _
        rw [hk]
        by_cases h4 : lsD (d.o.set n zDs) d.o.length ≤ k
        · have := lsD_zero (d.o.set n zDs) d.o.length k h4 hkl
          omega
        · omega
    · intro i hi
      have hi2 : i < lsD (d.o.set n zDs) d.o.length := by have : i < (trD _).length := hi; rwa [hlen] at this
      show ((trD _).getD i zDs).r = cntD (setT d.t p q 0).flatten i ∧ (cntD (setT d.t p q 0).flatten i = 0 → (trD _).getD i zDs = _) ∧ (_ → RtD ((trD _).getD i zDs))
      rw [trD_at (by rw [hL]; exact hi2)]
      exact hr1 i (by omega)
    · show (trD _).length = 0 ∨ 0 < cntD (setT d.t p q 0).flatten ((trD _).length - 1)
      rw [hlen]
      rcases lsD_last (d.o.set n zDs) d.o.length with h0 | h0
      · exact .inl h0
      · by_cases hz : lsD (d.o.set n zDs) d.o.length = 0
        · exact .inl hz
        · right
          have := (hr1 (lsD (d.o.set n zDs) d.o.length - 1) (by omega)).1
          omega
theorem upO_ok {d : Dd} (h : OkDd d) {n : Nat} {x : Ds} (hn : n < d.o.length) (hr : (d.o.getD n zDs).r ≠ 0) (hx : (0 ≤ x.o ∧ x.o ≤ 128) ∧ 0 ≤ x.c ∧ x.c ≤ 1000000) : OkDd (upO d n x) := by
  have hlen : (upO d n x).o.length = d.o.length := List.length_set
  refine ⟨h.t1, h.t8, by rw [hlen]; exact h.o, h.t, by rw [hlen]; exact h.n, ?_, by rw [hlen]; exact h.last⟩
  intro i hi
  rw [hlen] at hi
  have hri := h.r i hi
  show ((d.o.set n _).getD i zDs).r = cntD d.t.flatten i ∧ (cntD d.t.flatten i = 0 → (d.o.set n _).getD i zDs = _) ∧ (_ → RtD ((d.o.set n _).getD i zDs))
  by_cases e : i = n
  · subst e
    rw [setO_eq hi]
    have hp : cntD d.t.flatten i ≠ 0 := by omega
    exact ⟨hri.1, fun h0 => absurd h0 hp, fun h0 => ⟨(hri.2.2 h0).1, (hri.2.2 h0).2.1, hx.1, hx.2⟩⟩
  · rw [setO_ne e]; exact hri
theorem newD_ok {n : Nat} (h1 : 1 ≤ n) (h8 : n ≤ 8) : OkDd (newD n) := by
  have hrow : ∀ p, p < n → (newD n).t.getD p [] = List.replicate 16 0 := by
    intro p hp
    show (List.replicate n (List.replicate 16 (0 : Int))).getD p [] = _
    simp [List.getD, hp]
  have htl : (newD n).t.length = n := List.length_replicate
  refine ⟨by rw [htl]; exact h1, by rw [htl]; exact h8, Nat.zero_le _, ?_, ?_, ?_, .inl rfl⟩
  · intro p hp; rw [htl] at hp; rw [hrow p hp]; rfl
  · intro p hp i hi
    rw [htl] at hp
    rw [hrow p hp]
    have : (List.replicate 16 (0 : Int)).getD i 0 = 0 := by
      have hi' : i < (List.replicate 16 (0 : Int)).length := hi
      rw [getD_get hi', List.getElem_replicate]
    rw [this]
    exact ⟨Int.le_refl _, Int.le_refl _⟩
  · intro i hi; exact absurd hi (by simp [newD])
end Go.Mine
