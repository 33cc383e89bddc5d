/- Page tables (layer 17) as plain mathematics: words of my own, no program is named here. -/
import Derived.Test.YtjkkhfionmdmpaaRdS
namespace Go.Mine
open Go Go.RowKit

/-- An entry: the process, the page, the frame, whether it is writable, whether it was accessed. -/
structure Pt where
  p : Int
  v : Int
  f : Int
  w : Bool
  a : Bool
deriving DecidableEq

abbrev zT : Pt := ⟨0, 0, 0, false, false⟩
def encT (x : Pt) : List Value := [.int .i64 x.p, .int .i64 x.v, .int .i64 x.f, .bool x.w, .bool x.a]
theorem encT_len (x : Pt) : (encT x).length = 5 := rfl
theorem encT_one {x : Pt} : ∀ u ∈ encT x, u.oneCell' = true := by
  intro u hu
  simp only [encT, List.mem_cons, List.not_mem_nil, or_false] at hu
  rcases hu with rfl | rfl | rfl | rfl | rfl <;> rfl
abbrev ptV (x : Pt) : Value := .agg #[.int .i64 x.p, .int .i64 x.v, .int .i64 x.f, .bool x.w, .bool x.a]
def inI (x l u : Int) : Bool := decide (l ≤ x ∧ x ≤ u)
theorem inI_iff {x l u : Int} : inI x l u = true ↔ l ≤ x ∧ x ≤ u := decide_eq_true_iff
theorem inI_no {x l u : Int} (h : x < l ∨ u < x) : inI x l u = false := decide_eq_false (by omega)
def rtT (x : Pt) : Bool := inI x.p 0 7 && inI x.v 0 63 && inI x.f 1 64
theorem rtT_iff {x : Pt} : rtT x = true ↔ (0 ≤ x.p ∧ x.p ≤ 7) ∧ (0 ≤ x.v ∧ x.v ≤ 63) ∧ 1 ≤ x.f ∧ x.f ≤ 64 := by
  unfold rtT
  rw [Bool.and_eq_true, Bool.and_eq_true, inI_iff, inI_iff, inI_iff]
  exact ⟨fun ⟨⟨a, b⟩, c⟩ => ⟨a, b, c⟩, fun ⟨a, b, c⟩ => ⟨⟨a, b⟩, c⟩⟩
theorem rtT_no {x : Pt} (h : ¬((0 ≤ x.p ∧ x.p ≤ 7) ∧ (0 ≤ x.v ∧ x.v ≤ 63) ∧ 1 ≤ x.f ∧ x.f ≤ 64)) : rtT x = false := by
  cases hk : rtT x
  · rfl
  · exact absurd (rtT_iff.1 hk) h
/-- An entry before another one. -/
def ltT (x y : Pt) : Bool := decide (x.p < y.p ∨ x.p = y.p ∧ x.v < y.v)
theorem ltT_iff {x y : Pt} : ltT x y = true ↔ x.p < y.p ∨ x.p = y.p ∧ x.v < y.v := decide_eq_true_iff
theorem ltT_no {x y : Pt} : ltT x y = false ↔ ¬(x.p < y.p ∨ x.p = y.p ∧ x.v < y.v) := decide_eq_false_iff_not
theorem ltT_trans {x y z : Pt} (h : ltT x y = true) (k : ltT y z = true) : ltT x z = true := by rw [ltT_iff] at *; omega
/-- What comparing answers. -/
def cmI (x y : Int) : Int := if x < y then -1 else if y < x then 1 else 0
def cmT (x y : Pt) : Int := if cmI x.p y.p = 0 then cmI x.v y.v else cmI x.p y.p
theorem cmI_cases (x y : Int) : (x < y ∧ cmI x y = -1) ∨ (x = y ∧ cmI x y = 0) ∨ (y < x ∧ cmI x y = 1) := by
  unfold cmI
  by_cases h : x < y
  · exact .inl ⟨h, if_pos h⟩
  · by_cases k : y < x
    · exact .inr (.inr ⟨k, by rw [if_neg h, if_pos k]⟩)
    · exact .inr (.inl ⟨by omega, by rw [if_neg h, if_neg k]⟩)
theorem cmT_cases (x y : Pt) : (ltT x y = true ∧ cmT x y = -1) ∨ (ltT x y = false ∧ x.p = y.p ∧ x.v = y.v ∧ cmT x y = 0) ∨ (ltT x y = false ∧ ltT y x = true ∧ cmT x y = 1) := by
  rw [ltT_iff, ltT_no, ltT_iff]
  unfold cmT
  rcases cmI_cases x.p y.p with ⟨h, e⟩ | ⟨h, e⟩ | ⟨h, e⟩ <;> rw [e]
  · exact .inl ⟨.inl h, if_neg (by decide)⟩
  · rw [if_pos rfl]
    rcases cmI_cases x.v y.v with ⟨k, e2⟩ | ⟨k, e2⟩ | ⟨k, e2⟩ <;> rw [e2]
    · exact .inl ⟨.inr ⟨h, k⟩, rfl⟩
    · exact .inr (.inl ⟨by omega, h, k, rfl⟩)
    · exact .inr (.inr ⟨by omega, by omega, rfl⟩)
  · exact .inr (.inr ⟨by omega, by omega, if_neg (by decide)⟩)
theorem cmT_neg {x y : Pt} : decide (cmT x y < 0) = ltT x y := by
  rcases cmT_cases x y with ⟨h, e⟩ | ⟨h, -, -, e⟩ | ⟨h, -, e⟩ <;> rw [h, e] <;> rfl
theorem cmT_ge {x y : Pt} : decide (cmT x y ≥ 0) = !ltT x y := by
  rcases cmT_cases x y with ⟨h, e⟩ | ⟨h, -, -, e⟩ | ⟨h, -, e⟩ <;> rw [h, e] <;> rfl
/-- The same page of the same process. -/
def skT (x y : Pt) : Bool := decide (x.p = y.p ∧ x.v = y.v)
theorem skT_iff {x y : Pt} : skT x y = true ↔ x.p = y.p ∧ x.v = y.v := decide_eq_true_iff
theorem skT_no {x y : Pt} : skT x y = false ↔ ¬(x.p = y.p ∧ x.v = y.v) := decide_eq_false_iff_not
theorem cmT_eq {x y : Pt} : (cmT x y == 0) = skT x y := by
  rcases cmT_cases x y with ⟨h, e⟩ | ⟨h, h1, h2, e⟩ | ⟨h, h1, e⟩ <;> rw [e]
  · rw [skT_no.2 (by rw [ltT_iff] at h; omega)]; rfl
  · rw [skT_iff.2 ⟨h1, h2⟩]; rfl
  · rw [skT_no.2 (by rw [ltT_iff] at h1; omega)]; rfl
/-! Right lists. -/
def goodT (L : List Pt) (j : Nat) : Bool := rtT (L.getD j zT) && (match j with | 0 => true | i + 1 => ltT (L.getD i zT) (L.getD (i + 1) zT))
def okT (L : List Pt) : Bool := (List.range L.length).all (goodT L)
theorem okT_iff {L : List Pt} : okT L = true ↔ ∀ j, j < L.length → goodT L j = true := by
  unfold okT
  rw [List.all_eq_true]
  exact ⟨fun h j hj => h j (List.mem_range.2 hj), fun h j hj => h j (List.mem_range.1 hj)⟩
theorem okT_no {L : List Pt} {j : Nat} (hj : j < L.length) (h : goodT L j = false) : okT L = false := by
  cases hk : okT L
  · rfl
  · rw [okT_iff.1 hk j hj] at h; cases h
theorem goodT_a {L : List Pt} {j : Nat} (h : rtT (L.getD j zT) = false) : goodT L j = false := by unfold goodT; rw [h]; rfl
theorem goodT_b {L : List Pt} {j : Nat} (h : ltT (L.getD j zT) (L.getD (j + 1) zT) = false) : goodT L (j + 1) = false := by show (rtT (L.getD (j + 1) zT) && ltT (L.getD j zT) (L.getD (j + 1) zT)) = false; rw [h, Bool.and_false]
theorem goodT_0 {L : List Pt} (h : rtT (L.getD 0 zT) = true) : goodT L 0 = true := by unfold goodT; rw [h]; rfl
theorem goodT_s {L : List Pt} {j : Nat} (h : rtT (L.getD (j + 1) zT) = true) (k : ltT (L.getD j zT) (L.getD (j + 1) zT) = true) : goodT L (j + 1) = true := by show (rtT (L.getD (j + 1) zT) && ltT (L.getD j zT) (L.getD (j + 1) zT)) = true; rw [h, k]; rfl
theorem tD {L : List Pt} {k : Nat} (h : k < L.length) : L.getD k zT = L[k] := by simp [List.getD, h]
theorem goodT_rt {L : List Pt} {j : Nat} (h : goodT L j = true) : rtT (L.getD j zT) = true := by
  unfold goodT at h
  rw [Bool.and_eq_true] at h
  exact h.1
theorem rtTD {L : List Pt} (h : okT L = true) {k : Nat} (hk : k < L.length) : rtT (L.getD k zT) = true := goodT_rt (okT_iff.1 h k hk)
theorem okT_lt {L : List Pt} (h : okT L = true) {i : Nat} : ∀ {j : Nat}, i < j → j < L.length → ltT (L.getD i zT) (L.getD j zT) = true
  | j + 1, hij, hj => by
    have hg := okT_iff.1 h (j + 1) hj
    unfold goodT at hg
    rw [Bool.and_eq_true] at hg
    have h2 : ltT (L.getD j zT) (L.getD (j + 1) zT) = true := hg.2
    by_cases e : i = j
    · rw [e]; exact h2
    · exact ltT_trans (okT_lt h (j := j) (by omega) (by omega)) h2
def ascT (L : List Pt) : Prop := L.Pairwise fun x y => ltT x y = true
theorem okT_iff2 {L : List Pt} : okT L = true ↔ (∀ x ∈ L, rtT x = true) ∧ ascT L := by
  constructor
  · intro h
    refine ⟨fun x hx => ?_, List.pairwise_iff_getElem.2 fun i j hi hj hij => ?_⟩
    · obtain ⟨k, hk, rfl⟩ := List.mem_iff_getElem.1 hx
      rw [← tD hk]; exact rtTD h hk
    · rw [← tD hi, ← tD hj]; exact okT_lt h hij hj
  · rintro ⟨h1, h2⟩
    refine okT_iff.2 fun j hj => ?_
    have hr : rtT (L.getD j zT) = true := by rw [tD hj]; exact h1 _ (List.getElem_mem hj)
    cases j with
    | zero => exact goodT_0 hr
    | succ j => exact goodT_s hr (by rw [tD hj, tD (by omega)]; exact List.pairwise_iff_getElem.1 h2 j (j + 1) (by omega) hj (by omega))
theorem okT_nil : okT [] = true := rfl
theorem okT_filter {L : List Pt} {q : Pt → Bool} (h : okT L = true) : okT (L.filter q) = true := by
  obtain ⟨h1, h2⟩ := okT_iff2.1 h
  exact okT_iff2.2 ⟨fun x hx => h1 x (List.mem_filter.1 hx).1, h2.filter q⟩
/-! What is found. -/
def fndT (L : List Pt) (p v : Int) : Option Pt := L.find? fun x => decide (x.p = p ∧ x.v = v)
theorem fndT_nil (p v : Int) : fndT [] p v = none := rfl
theorem fndT_y {x : Pt} {l : List Pt} {p v : Int} (h : x.p = p ∧ x.v = v) : fndT (x :: l) p v = some x := List.find?_cons_of_pos (by simpa using h)
theorem fndT_n {x : Pt} {l : List Pt} {p v : Int} (h : ¬(x.p = p ∧ x.v = v)) : fndT (x :: l) p v = fndT l p v := List.find?_cons_of_neg (by simpa using h)
theorem fndT_none {L : List Pt} {p v : Int} : fndT L p v = none ↔ ∀ x ∈ L, ¬(x.p = p ∧ x.v = v) := by
  unfold fndT
  rw [List.find?_eq_none]
  simp
theorem fndT_some {L : List Pt} {p v : Int} {x : Pt} (h : fndT L p v = some x) : x ∈ L ∧ x.p = p ∧ x.v = v := by
  have h1 := List.mem_of_find?_eq_some h
  have h2 := List.find?_some h
  exact ⟨h1, by simpa using h2⟩
theorem asc_one {L : List Pt} (h : ascT L) {x y : Pt} (hx : x ∈ L) (hy : y ∈ L) (hp : x.p = y.p) (hv : x.v = y.v) : x = y := by
  obtain ⟨i, hi, rfl⟩ := List.mem_iff_getElem.1 hx
  obtain ⟨j, hj, rfl⟩ := List.mem_iff_getElem.1 hy
  rcases (show i < j ∨ i = j ∨ j < i by omega) with h1 | rfl | h1
  · have := ltT_iff.1 (List.pairwise_iff_getElem.1 h i j hi hj h1); omega
  · rfl
  · have := ltT_iff.1 (List.pairwise_iff_getElem.1 h j i hj hi h1); omega
theorem fndT_iff {L : List Pt} (h : ascT L) {p v : Int} {x : Pt} : fndT L p v = some x ↔ x ∈ L ∧ x.p = p ∧ x.v = v := by
  refine ⟨fndT_some, fun ⟨h1, h2, h3⟩ => ?_⟩
  cases hk : fndT L p v with
  | none => exact absurd ⟨h2, h3⟩ (fndT_none.1 hk x h1)
  | some y =>
    obtain ⟨h4, h5, h6⟩ := fndT_some hk
    rw [asc_one h h1 h4 (by omega) (by omega)]
theorem fndT_filter {L : List Pt} {q : Pt → Bool} (h : ascT L) {p v : Int} : fndT (L.filter q) p v = (fndT L p v).filter q := by
  cases hk : fndT L p v with
  | none => exact fndT_none.2 fun x hx => fndT_none.1 hk x (List.mem_filter.1 hx).1
  | some y =>
    obtain ⟨h4, h5, h6⟩ := fndT_some hk
    cases hq : q y
    · rw [Option.filter_some_neg hq]
      refine fndT_none.2 fun x hx hm => ?_
      obtain ⟨hx1, hx2⟩ := List.mem_filter.1 hx
      rw [asc_one h hx1 h4 (by omega) (by omega), hq] at hx2
      cases hx2
    · rw [Option.filter_some_pos hq]
      exact (fndT_iff (h.filter q)).2 ⟨List.mem_filter.2 ⟨h4, hq⟩, h5, h6⟩
def getT (L : List Pt) (p v : Int) : Pt × Bool := match okT L with
  | true => (match fndT L p v with | some x => (x, true) | none => (zT, false))
  | false => (zT, false)
theorem getT_0 {L : List Pt} {p v : Int} (h : okT L = false) : getT L p v = (zT, false) := by unfold getT; rw [h]
theorem getT_n {L : List Pt} {p v : Int} (h : fndT L p v = none) : getT L p v = (zT, false) := by unfold getT; rw [h]; cases okT L <;> rfl
theorem getT_s {L : List Pt} {p v : Int} {x : Pt} (h : okT L = true) (k : fndT L p v = some x) : getT L p v = (x, true) := by unfold getT; rw [h, k]
/-! Where an entry belongs: all before place i are before it, none from there on. -/
def PosT (L : List Pt) (e : Pt) (i : Nat) : Prop := i ≤ L.length ∧ (∀ k, k < i → ltT (L.getD k zT) e = true) ∧ ∀ k, i ≤ k → k < L.length → ltT (L.getD k zT) e = false
def hasT (L : List Pt) (e : Pt) (i : Nat) : Bool := match decide (i < L.length) with | true => skT (L.getD i zT) e | false => false
theorem hasT_end {L : List Pt} {e : Pt} {i : Nat} (h : L.length ≤ i) : hasT L e i = false := by unfold hasT; rw [decide_eq_false (by omega)]
theorem hasT_at {L : List Pt} {e : Pt} {i : Nat} (h : i < L.length) : hasT L e i = skT (L.getD i zT) e := by unfold hasT; rw [decide_eq_true h]
theorem fndT_pos {L : List Pt} {e : Pt} {i : Nat} (h : PosT L e i) (hok : okT L = true) : fndT L e.p e.v = match hasT L e i with | true => some (L.getD i zT) | false => none := by
  obtain ⟨h1, h2, h3⟩ := h
  cases hh : hasT L e i
  · refine fndT_none.2 fun x hx hm => ?_
    obtain ⟨k, hk, rfl⟩ := List.mem_iff_getElem.1 hx
    rw [← tD hk] at hm
    rcases (show k < i ∨ k = i ∨ i < k by omega) with hlt | rfl | hgt
    · have := ltT_iff.1 (h2 k hlt); omega
    · rw [hasT_at hk, skT_no] at hh; exact hh hm
    · have h4 := okT_lt hok hgt hk
      have h5 := ltT_no.1 (h3 i (Nat.le_refl _) (by omega))
      rw [ltT_iff] at h4
      omega
  · have hi : i < L.length := by
      by_cases hi : i < L.length
      · exact hi
      · rw [hasT_end (by omega)] at hh; cases hh
    rw [hasT_at hi, skT_iff] at hh
    exact (fndT_iff (okT_iff2.1 hok).2).2 ⟨by rw [tD hi]; exact List.getElem_mem hi, hh⟩
/-! An entry is put in. -/
def insT : List Pt → Pt → List Pt
  | [], e => [e]
  | x :: l, e => match ltT x e with
    | true => x :: insT l e
    | false => match ltT e x with
      | true => e :: x :: l
      | false => e :: l
theorem insT_1 {x e : Pt} {l : List Pt} (h : ltT x e = true) : insT (x :: l) e = x :: insT l e := by show (match ltT x e with | true => _ | false => _) = _; rw [h]
theorem insT_2 {x e : Pt} {l : List Pt} (h : ltT x e = false) (k : ltT e x = true) : insT (x :: l) e = e :: x :: l := by show (match ltT x e with | true => _ | false => _) = _; rw [h, k]
theorem insT_3 {x e : Pt} {l : List Pt} (h : ltT x e = false) (k : ltT e x = false) : insT (x :: l) e = e :: l := by show (match ltT x e with | true => _ | false => _) = _; rw [h, k]
theorem insT_at : ∀ {L : List Pt} {e : Pt} {i : Nat}, PosT L e i → insT L e = match hasT L e i with | true => L.set i e | false => L.take i ++ e :: L.drop i
  | [], e, i, h => by
    have : i = 0 := by have := h.1; simpa using this
    subst this
    rfl
  | x :: l, e, 0, h => by
    have h0 : ltT x e = false := h.2.2 0 (Nat.le_refl _) (by simp)
    have hs : hasT (x :: l) e 0 = skT x e := hasT_at (by simp)
    rw [hs]
    cases hk : ltT e x
    · rw [insT_3 h0 hk, skT_iff.2 (by rw [ltT_no] at h0 hk; omega)]; rfl
    · rw [insT_2 h0 hk, skT_no.2 (by rw [ltT_iff] at hk; omega)]; rfl
  | x :: l, e, i + 1, h => by
    have h0 : ltT x e = true := h.2.1 0 (by omega)
    have hl : PosT l e i := ⟨by have := h.1; simpa using this, fun k hk => h.2.1 (k + 1) (by omega), fun k hk hk2 => h.2.2 (k + 1) (by omega) (by simpa using hk2)⟩
    have hs : hasT (x :: l) e (i + 1) = hasT l e i := by
      unfold hasT
      rw [List.length_cons, show decide (i + 1 < l.length + 1) = decide (i < l.length) from by rw [decide_eq_decide]; omega]
      rfl
    rw [insT_1 h0, insT_at hl, hs]
    cases hasT l e i <;> rfl
theorem insT_lt {e : Pt} : ∀ {A B : List Pt}, (∀ x ∈ A, ltT x e = true) → insT (A ++ B) e = A ++ insT B e
  | [], _, _ => rfl
  | x :: A, B, h => by
    rw [List.cons_append, insT_1 (h x (by simp)), insT_lt fun y hy => h y (by simp [hy])]; rfl
theorem insT_snoc {e x : Pt} : ∀ {A : List Pt}, (∃ y ∈ A, ltT y e = false) → insT (A ++ [x]) e = insT A e ++ [x]
  | [], h => by obtain ⟨y, hy, -⟩ := h; cases hy
  | z :: A, h => by
    rw [List.cons_append]
    cases hz : ltT z e
    · cases hk : ltT e z
      · rw [insT_3 hz hk, insT_3 hz hk]; rfl
      · rw [insT_2 hz hk, insT_2 hz hk]; rfl
    · rw [insT_1 hz, insT_1 hz, insT_snoc]
      · rfl
      · obtain ⟨y, hy, h2⟩ := h
        rcases List.mem_cons.1 hy with rfl | hy
        · rw [hz] at h2; cases h2
        · exact ⟨y, hy, h2⟩
theorem mem_insT : ∀ {L : List Pt} {e x : Pt}, x ∈ insT L e → x = e ∨ x ∈ L
  | [], e, x, h => .inl (by simpa [insT] using h)
  | y :: l, e, x, h => by
    cases h1 : ltT y e
    · cases h2 : ltT e y
      · rw [insT_3 h1 h2] at h
        rcases List.mem_cons.1 h with h | h
        · exact .inl h
        · exact .inr (by simp [h])
      · rw [insT_2 h1 h2] at h
        rcases List.mem_cons.1 h with h | h
        · exact .inl h
        · exact .inr h
    · rw [insT_1 h1] at h
      rcases List.mem_cons.1 h with h | h
      · exact .inr (by simp [h])
      · rcases mem_insT h with h | h
        · exact .inl h
        · exact .inr (by simp [h])
theorem asc_insT : ∀ {L : List Pt} {e : Pt}, ascT L → ascT (insT L e)
  | [], e, _ => List.pairwise_singleton _ _
  | y :: l, e, h => by
    obtain ⟨ha, hb⟩ := List.pairwise_cons.1 h
    cases h1 : ltT y e
    · cases h2 : ltT e y
      · rw [insT_3 h1 h2]
        exact List.pairwise_cons.2 ⟨fun z hz => by have := ha z hz; rw [ltT_iff] at this ⊢; rw [ltT_no] at h1 h2; omega, hb⟩
      · rw [insT_2 h1 h2]
        exact List.pairwise_cons.2 ⟨fun z hz => by
          rcases List.mem_cons.1 hz with rfl | hz
          · exact h2
          · exact ltT_trans h2 (ha z hz), h⟩
    · rw [insT_1 h1]
      exact List.pairwise_cons.2 ⟨fun z hz => by
        rcases mem_insT hz with rfl | hz
        · exact h1
        · exact ha z hz, asc_insT hb⟩
theorem okT_ins {L : List Pt} {e : Pt} (h : okT L = true) (he : rtT e = true) : okT (insT L e) = true := by
  obtain ⟨h1, h2⟩ := okT_iff2.1 h
  exact okT_iff2.2 ⟨fun x hx => by rcases mem_insT hx with rfl | hx; exact he; exact h1 x hx, asc_insT h2⟩
theorem fndT_ins : ∀ {L : List Pt} {e : Pt} {p v : Int}, fndT (insT L e) p v = if e.p = p ∧ e.v = v then some e else fndT L p v
  | [], e, p, v => by
    by_cases h : e.p = p ∧ e.v = v
    · rw [if_pos h]; exact fndT_y h
    · rw [if_neg h]; exact fndT_n h
  | y :: l, e, p, v => by
    cases h1 : ltT y e
    · cases h2 : ltT e y
      · rw [insT_3 h1 h2]
        rw [ltT_no] at h1 h2
        by_cases h : e.p = p ∧ e.v = v
        · rw [if_pos h]; exact fndT_y h
        · rw [if_neg h, fndT_n h, fndT_n (show ¬(y.p = p ∧ y.v = v) by omega)]
      · rw [insT_2 h1 h2]
        by_cases h : e.p = p ∧ e.v = v
        · rw [if_pos h]; exact fndT_y h
        · rw [if_neg h, fndT_n h]
    · rw [insT_1 h1]
      rw [ltT_iff] at h1
      by_cases h : y.p = p ∧ y.v = v
      · rw [fndT_y h, fndT_y h, if_neg (by omega)]
      · rw [fndT_n h, fndT_n h, fndT_ins]
theorem len_insT : ∀ {L : List Pt} {e : Pt}, ascT L → (insT L e).length = match (fndT L e.p e.v).isSome with | true => L.length | false => L.length + 1
  | [], e, _ => rfl
  | y :: l, e, h => by
    obtain ⟨ha, hb⟩ := List.pairwise_cons.1 h
    cases h1 : ltT y e
    · cases h2 : ltT e y
      · rw [insT_3 h1 h2]
        rw [ltT_no] at h1 h2
        rw [fndT_y (show y.p = e.p ∧ y.v = e.v by omega)]; rfl
      · rw [insT_2 h1 h2, fndT_none.2 fun z hz hm => by
          rcases List.mem_cons.1 hz with rfl | hz
          · rw [ltT_iff] at h2; omega
          · have := ltT_iff.1 (ltT_trans h2 (ha z hz)); omega]; rfl
    · rw [insT_1 h1, List.length_cons, len_insT hb]
      rw [ltT_iff] at h1
      rw [fndT_n (show ¬(y.p = e.p ∧ y.v = e.v) by omega)]
      cases (fndT l e.p e.v).isSome <;> rfl
theorem insT_le : ∀ {L : List Pt} {e : Pt}, (insT L e).length ≤ L.length + 1
  | [], _ => Nat.le_refl _
  | y :: l, e => by
    cases h1 : ltT y e
    · cases h2 : ltT e y
      · rw [insT_3 h1 h2]; simp
      · rw [insT_2 h1 h2]; simp
    · rw [insT_1 h1]
      have := insT_le (L := l) (e := e)
      simp; omega
/-- What entering answers. -/
def entT (L : List Pt) (e : Pt) : List Pt × Int := match okT L with
  | true => (match rtT e with | true => (insT L e, 0) | false => (L, 2))
  | false => (L, 1)
/-! The others. -/
def zpB (p v c : Int) (x : Pt) : Bool := decide (x.p = p ∧ v ≤ x.v ∧ x.v - c < v)
def zapT (L : List Pt) (p v c : Int) : List Pt := match decide (1 ≤ c) && okT L with | true => L.filter (fun x => !zpB p v c x) | false => L
def ofT (L : List Pt) (f : Int) : List Pt := match okT L with | true => L.filter (fun x => decide (x.f = f)) | false => []
def drpT (L : List Pt) (f : Int) : List Pt := match okT L with | true => L.filter (fun x => !decide (x.f = f)) | false => L
def prX (f : Int) (x : Pt) : Pt := match decide (x.f = f) with | true => ⟨x.p, x.v, x.f, false, x.a⟩ | false => x
def yoX (f : Int) (x : Pt) : Pt := match decide (x.f = f) with | true => ⟨x.p, x.v, x.f, x.w, false⟩ | false => x
def yoB (f : Int) (x : Pt) : Bool := decide (x.f = f) && x.a
def prtT (L : List Pt) (f : Int) : List Pt := match okT L with | true => L.map (prX f) | false => L
def yngT (L : List Pt) (f : Int) : List Pt × Bool := match okT L with | true => (L.map (yoX f), L.any (yoB f)) | false => (L, false)
end Go.Mine
