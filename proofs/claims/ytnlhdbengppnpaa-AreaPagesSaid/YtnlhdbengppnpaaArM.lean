/- Areas (layer 16) as plain mathematics: words of my own, no program is named here. -/
import Derived.Test.YtnlhdbengppnpaaRdS
namespace Go.Mine
open Go Go.RowKit

/-- An area: from where on, how many pages, the file, its page there, whether it is written. -/
structure Ar where
  s : Int
  n : Int
  f : Int
  p : Int
  w : Bool
deriving DecidableEq

abbrev zR : Ar := ⟨0, 0, 0, 0, false⟩
def enc5 (a : Ar) : List Value := [.int .i64 a.s, .int .i64 a.n, .int .i64 a.f, .int .i64 a.p, .bool a.w]
theorem enc5_len (a : Ar) : (enc5 a).length = 5 := rfl
theorem enc5_one {a : Ar} : ∀ u ∈ enc5 a, u.oneCell' = true := by
  intro u hu
  simp only [enc5, List.mem_cons, List.not_mem_nil, or_false] at hu
  rcases hu with rfl | rfl | rfl | rfl | rfl <;> rfl
abbrev arV (a : Ar) : Value := .agg #[.int .i64 a.s, .int .i64 a.n, .int .i64 a.f, .int .i64 a.p, .bool a.w]
def endA (a : Ar) : Int := a.s + a.n
def inB (s n l : Int) : Bool := decide (0 ≤ s ∧ 1 ≤ n ∧ s + n ≤ l)
def rtA (a : Ar) : Bool := inB a.s a.n 64 && decide (0 ≤ a.f ∧ a.f < 8) && inB a.p a.n 8
theorem inB_iff {s n l : Int} : inB s n l = true ↔ 0 ≤ s ∧ 1 ≤ n ∧ s + n ≤ l := decide_eq_true_iff
theorem rtA_iff {a : Ar} : rtA a = true ↔ (0 ≤ a.s ∧ 1 ≤ a.n ∧ a.s + a.n ≤ 64) ∧ (0 ≤ a.f ∧ a.f < 8) ∧ 0 ≤ a.p ∧ a.p + a.n ≤ 8 := by
  unfold rtA inB
  simp only [Bool.and_eq_true, decide_eq_true_eq]
  exact ⟨fun ⟨⟨a, b⟩, c⟩ => ⟨a, b, c.1, c.2.2⟩, fun ⟨a, b, c, d⟩ => ⟨⟨a, b⟩, c, a.2.1, d⟩⟩
/-- Ascending from lo on. -/
def chR : Int → List Ar → Bool
  | _, [] => true
  | lo, a :: l => rtA a && decide (lo ≤ a.s) && chR (endA a) l
theorem chR_cons {lo : Int} {a : Ar} {l : List Ar} : chR lo (a :: l) = true ↔ rtA a = true ∧ lo ≤ a.s ∧ chR (endA a) l = true := by
  show (rtA a && decide (lo ≤ a.s) && chR (endA a) l) = true ↔ _
  rw [Bool.and_eq_true, Bool.and_eq_true, decide_eq_true_iff]
  exact ⟨fun ⟨⟨a, b⟩, c⟩ => ⟨a, b, c⟩, fun ⟨a, b, c⟩ => ⟨⟨a, b⟩, c⟩⟩
def okR (L : List Ar) : Bool := decide (L.length ≤ 8) && chR 0 L
theorem okR_iff {L : List Ar} : okR L = true ↔ L.length ≤ 8 ∧ chR 0 L = true := by
  unfold okR
  rw [Bool.and_eq_true, decide_eq_true_iff]
theorem okR_nil : okR [] = true := rfl
/-- Where the area ahead of place j ends. -/
def pE (lo : Int) (L : List Ar) (j : Nat) : Int := match j with | 0 => lo | j + 1 => endA (L.getD j zR)
def goodR (lo : Int) (L : List Ar) (j : Nat) : Bool := rtA (L.getD j zR) && decide (pE lo L j ≤ (L.getD j zR).s)
theorem goodR_iff {lo : Int} {L : List Ar} {j : Nat} : goodR lo L j = true ↔ rtA (L.getD j zR) = true ∧ pE lo L j ≤ (L.getD j zR).s := by
  unfold goodR
  rw [Bool.and_eq_true, decide_eq_true_iff]
theorem chR_iff : ∀ {L : List Ar} {lo : Int}, chR lo L = true ↔ ∀ j, j < L.length → goodR lo L j = true
  | [], lo => ⟨fun _ j hj => absurd hj (by simp), fun _ => rfl⟩
  | a :: l, lo => by
    rw [chR_cons, chR_iff (L := l) (lo := endA a)]
    have e : ∀ j, goodR lo (a :: l) (j + 1) = goodR (endA a) l j := fun j => by
      unfold goodR
      rw [List.getD_cons_succ]
      cases j <;> rfl
    constructor
    · rintro ⟨h1, h2, h3⟩ j hj
      rcases j with _ | j
      · exact goodR_iff.2 ⟨h1, h2⟩
      · rw [e]; exact h3 j (by simpa using hj)
    · intro h
      have h0 := goodR_iff.1 (h 0 (by simp))
      exact ⟨h0.1, h0.2, fun j hj => by rw [← e]; exact h (j + 1) (by simpa using hj)⟩
theorem okR_yes {L : List Ar} (h8 : L.length ≤ 8) (h : ∀ j, j < L.length → goodR 0 L j = true) : okR L = true := okR_iff.2 ⟨h8, chR_iff.2 h⟩
theorem okR_no {L : List Ar} {j : Nat} (hj : j < L.length) (h : goodR 0 L j = false) : okR L = false := by
  cases hk : okR L
  · rfl
  · rw [chR_iff.1 (okR_iff.1 hk).2 j hj] at h; cases h
theorem okR_long {L : List Ar} (h : 8 < L.length) : okR L = false := by
  cases hk : okR L
  · rfl
  · have := (okR_iff.1 hk).1; omega
theorem goodR_a {L : List Ar} {j : Nat} (h : rtA (L.getD j zR) = false) : goodR 0 L j = false := by unfold goodR; rw [h]; rfl
theorem goodR_b {L : List Ar} {j : Nat} (h : (L.getD j zR).s < pE 0 L j) : goodR 0 L j = false := by unfold goodR; rw [decide_eq_false (by omega : ¬pE 0 L j ≤ (L.getD j zR).s), Bool.and_false]
theorem pE_succ (L : List Ar) (j : Nat) : pE 0 L (j + 1) = endA (L.getD j zR) := rfl
theorem rD {L : List Ar} {k : Nat} (h : k < L.length) : L.getD k zR = L[k] := by simp [List.getD, h]
theorem rtD {L : List Ar} (h : okR L = true) {k : Nat} (hk : k < L.length) : rtA (L.getD k zR) = true := (goodR_iff.1 (chR_iff.1 (okR_iff.1 h).2 k hk)).1
theorem rtD' {L : List Ar} (h : okR L = true) {k : Nat} (hk : k < L.length) : (0 ≤ (L.getD k zR).s ∧ 1 ≤ (L.getD k zR).n ∧ (L.getD k zR).s + (L.getD k zR).n ≤ 64) ∧ (0 ≤ (L.getD k zR).f ∧ (L.getD k zR).f < 8) ∧ 0 ≤ (L.getD k zR).p ∧ (L.getD k zR).p + (L.getD k zR).n ≤ 8 := rtA_iff.1 (rtD h hk)
/-- All of a list lie from lo on, are right, and end by 64. -/
theorem chR_mem : ∀ {L : List Ar} {lo : Int} {a : Ar}, chR lo L = true → a ∈ L → rtA a = true ∧ lo ≤ a.s
  | b :: l, lo, a, h, hm => by
    obtain ⟨h1, h2, h3⟩ := chR_cons.1 h
    rcases List.mem_cons.1 hm with rfl | hm
    · exact ⟨h1, h2⟩
    · obtain ⟨h4, h5⟩ := chR_mem h3 hm
      have := rtA_iff.1 h1
      unfold endA at h5
      exact ⟨h4, by omega⟩
theorem chR_low : ∀ {L : List Ar} {lo lo' : Int}, chR lo L = true → lo' ≤ lo → chR lo' L = true
  | [], _, _, _, _ => rfl
  | a :: l, lo, lo', h, hl => by
    obtain ⟨h1, h2, h3⟩ := chR_cons.1 h
    exact chR_cons.2 ⟨h1, by omega, h3⟩
/-! Which area has a page. -/
def hitR (a : Ar) (p : Int) : Bool := decide (a.s ≤ p ∧ p < endA a)
theorem hitR_iff {a : Ar} {p : Int} : hitR a p = true ↔ a.s ≤ p ∧ p < endA a := decide_eq_true_iff
theorem hitR_no {a : Ar} {p : Int} (h : p < a.s ∨ endA a ≤ p) : hitR a p = false := decide_eq_false (by omega)
def findR (L : List Ar) (p : Int) : Option Ar := L.find? fun a => hitR a p
def fndR (L : List Ar) (p : Int) : Option Ar := match okR L with | true => findR L p | false => none
theorem fndR_0 {L : List Ar} {p : Int} (h : okR L = false) : fndR L p = none := by unfold fndR; rw [h]
theorem fndR_1 {L : List Ar} {p : Int} (h : okR L = true) : fndR L p = findR L p := by unfold fndR; rw [h]
theorem findR_nil (p : Int) : findR [] p = none := rfl
theorem findR_y {a : Ar} {l : List Ar} {p : Int} (h : hitR a p = true) : findR (a :: l) p = some a := List.find?_cons_of_pos h
theorem findR_n {a : Ar} {l : List Ar} {p : Int} (h : hitR a p = false) : findR (a :: l) p = findR l p := List.find?_cons_of_neg (by rw [h]; decide)
theorem findR_low : ∀ {L : List Ar} {lo p : Int}, chR lo L = true → p < lo → findR L p = none
  | [], _, _, _, _ => rfl
  | a :: l, lo, p, h, hp => by
    obtain ⟨h1, h2, h3⟩ := chR_cons.1 h
    have := rtA_iff.1 h1
    rw [findR_n (hitR_no (.inl (by omega))), findR_low h3 (by unfold endA; omega)]
theorem findR_none {L : List Ar} {p : Int} : findR L p = none ↔ ∀ j, j < L.length → hitR (L.getD j zR) p = false := by
  unfold findR
  rw [List.find?_eq_none]
  constructor
  · intro h j hj
    have := h L[j] (List.getElem_mem hj)
    rw [rD hj]
    simpa using this
  · intro h a ha
    obtain ⟨k, hk, rfl⟩ := List.getElem_of_mem ha
    have := h k hk
    rw [rD hk] at this
    simp [this]
/-- The first that has the page. -/
theorem findR_at {L : List Ar} {p : Int} {i : Nat} (hi : i < L.length) (h : hitR (L.getD i zR) p = true) (hn : ∀ j, j < i → hitR (L.getD j zR) p = false) : findR L p = some (L.getD i zR) := by
  induction L generalizing i with
  | nil => exact absurd hi (by simp)
  | cons a l ih =>
    rcases i with _ | i
    · exact findR_y h
    · rw [findR_n (show hitR a p = false from hn 0 (by omega))]
      exact ih (by simpa using hi) h (fun j hj => hn (j + 1) (by omega))
theorem findR_hit {L : List Ar} {p : Int} {a : Ar} (h : findR L p = some a) : a ∈ L ∧ a.s ≤ p ∧ p < endA a := ⟨List.mem_of_find?_eq_some h, hitR_iff.1 (List.find?_some (p := fun a => hitR a p) h)⟩
theorem findR_app (L M : List Ar) (p : Int) : findR (L ++ M) p = (findR L p).or (findR M p) := by unfold findR; rw [List.find?_append]
theorem fndR_hit {L : List Ar} {p : Int} {a : Ar} (h : fndR L p = some a) : okR L = true ∧ a ∈ L ∧ rtA a = true ∧ a.s ≤ p ∧ p < endA a := by
  cases hk : okR L
  · rw [fndR_0 hk] at h; cases h
  · rw [fndR_1 hk] at h
    obtain ⟨h1, h2⟩ := findR_hit h
    exact ⟨rfl, h1, (chR_mem (okR_iff.1 hk).2 h1).1, h2⟩
/-! Adding an area. -/
def ovA (b a : Ar) : Bool := decide (a.s < endA b ∧ b.s < endA a)
def ovR (L : List Ar) (a : Ar) : Bool := L.any fun b => ovA b a
theorem ovA_iff {a b : Ar} : ovA b a = true ↔ a.s < endA b ∧ b.s < endA a := decide_eq_true_iff
theorem ovR_no {L : List Ar} {a : Ar} : ovR L a = false ↔ ∀ j, j < L.length → ovA (L.getD j zR) a = false := by
  unfold ovR
  rw [List.any_eq_false]
  constructor
  · intro h j hj
    have := h L[j] (List.getElem_mem hj)
    rw [rD hj]
    simpa using this
  · intro h b hb
    obtain ⟨k, hk, rfl⟩ := List.getElem_of_mem hb
    have := h k hk
    rw [rD hk] at this
    simp [this]
theorem ovR_yes {L : List Ar} {a : Ar} {j : Nat} (hj : j < L.length) (h : ovA (L.getD j zR) a = true) : ovR L a = true := by
  cases hk : ovR L a
  · rw [ovR_no.1 hk j hj] at h; cases h
  · rfl
theorem ovR_mem {L : List Ar} {a b : Ar} (h : ovR L a = false) (hb : b ∈ L) : ovA b a = false := by
  unfold ovR at h
  have := List.any_eq_false.1 h b hb
  simpa using this
def eM (L : List Ar) (a : Ar) : Int := match okR L, rtA a, ovR L a, decide (L.length = 8) with
  | false, _, _, _ => 1
  | true, false, _, _ => 2
  | true, true, true, _ => 5
  | true, true, false, true => 3
  | true, true, false, false => 0
/-- The place of an area that begins at x. -/
def plR (L : List Ar) (x : Int) : Nat := (L.takeWhile fun b => decide (b.s < x)).length
def insR (L : List Ar) (a : Ar) : List Ar := L.take (plR L a.s) ++ a :: L.drop (plR L a.s)
def mapR (L : List Ar) (a : Ar) : List Ar × Int := if eM L a = 0 then (insR L a, 0) else (L, eM L a)
theorem mapR_0 {L : List Ar} {a : Ar} (h : eM L a = 0) : mapR L a = (insR L a, 0) := if_pos h
theorem mapR_e {L : List Ar} {a : Ar} {e : Int} (h : eM L a = e) (h0 : e ≠ 0) : mapR L a = (L, e) := by
  subst h
  exact if_neg h0
theorem eM_1 {L : List Ar} {a : Ar} (h : okR L = false) : eM L a = 1 := by unfold eM; rw [h]
theorem eM_2 {L : List Ar} {a : Ar} (h : okR L = true) (h2 : rtA a = false) : eM L a = 2 := by unfold eM; rw [h, h2]
theorem eM_5 {L : List Ar} {a : Ar} (h : okR L = true) (h2 : rtA a = true) (h3 : ovR L a = true) : eM L a = 5 := by unfold eM; rw [h, h2, h3]
theorem eM_3 {L : List Ar} {a : Ar} (h : okR L = true) (h2 : rtA a = true) (h3 : ovR L a = false) (h4 : L.length = 8) : eM L a = 3 := by unfold eM; rw [h, h2, h3, decide_eq_true h4]
theorem eM_0 {L : List Ar} {a : Ar} (h : okR L = true) (h2 : rtA a = true) (h3 : ovR L a = false) (h4 : ¬L.length = 8) : eM L a = 0 := by unfold eM; rw [h, h2, h3, decide_eq_false h4]
theorem eM_ok {L : List Ar} {a : Ar} (h : eM L a = 0) : okR L = true ∧ rtA a = true ∧ ovR L a = false ∧ L.length < 8 := by
  cases h1 : okR L
  · rw [eM_1 h1] at h; cases h
  · cases h2 : rtA a
    · rw [eM_2 h1 h2] at h; cases h
    · cases h3 : ovR L a
      · by_cases h4 : L.length = 8
        · rw [eM_3 h1 h2 h3 h4] at h; cases h
        · have := (okR_iff.1 h1).1
          exact ⟨rfl, rfl, rfl, by omega⟩
      · rw [eM_5 h1 h2 h3] at h; cases h
theorem plR_le (L : List Ar) (x : Int) : plR L x ≤ L.length := by
  unfold plR
  induction L with
  | nil => simp
  | cons a l ih => rw [List.takeWhile_cons]; split <;> simp; exact ih
theorem plR_nil (x : Int) : plR [] x = 0 := rfl
theorem plR_cons (a : Ar) (l : List Ar) (x : Int) : plR (a :: l) x = if a.s < x then plR l x + 1 else 0 := by
  unfold plR
  rw [List.takeWhile_cons]
  by_cases h : a.s < x
  · rw [if_pos h, if_pos (decide_eq_true h)]; rfl
  · rw [if_neg h, if_neg (by simpa using h)]; rfl
/-- The place is where the first begins that doesn't begin ahead of x. -/
theorem plR_at : ∀ {L : List Ar} {x : Int} {k : Nat}, k ≤ L.length → (∀ j, j < k → (L.getD j zR).s < x) → (k < L.length → ¬(L.getD k zR).s < x) → plR L x = k
  | [], x, k, hk, h1, h2 => by obtain rfl : k = 0 := by simpa using hk
                               rfl
  | a :: l, x, k, hk, h1, h2 => by
    rw [plR_cons]
    rcases k with _ | k
    · rw [if_neg]; exact h2 (by simp)
    · rw [if_pos (show a.s < x from h1 0 (by omega))]
      rw [plR_at (k := k) (by simpa using hk) (fun j hj => h1 (j + 1) (by omega)) (fun hk2 => h2 (by simpa using hk2))]
theorem plR_lo {L : List Ar} {x : Int} {j : Nat} (h : j < plR L x) : (L.getD j zR).s < x := by
  induction L generalizing j with
  | nil => exact absurd h (by simp [plR])
  | cons a l ih =>
    rw [plR_cons] at h
    by_cases hs : a.s < x
    · rw [if_pos hs] at h
      rcases j with _ | j
      · exact hs
      · exact ih (j := j) (by omega)
    · rw [if_neg hs] at h; omega
theorem plR_hi {L : List Ar} {x : Int} (h : plR L x < L.length) : ¬(L.getD (plR L x) zR).s < x := by
  induction L with
  | nil => exact absurd h (by simp [plR])
  | cons a l ih =>
    rw [plR_cons] at h ⊢
    by_cases hs : a.s < x
    · rw [if_pos hs] at h ⊢
      exact ih (by simpa using h)
    · rw [if_neg hs] at h ⊢
      exact hs
theorem insR_nil (a : Ar) : insR [] a = [a] := rfl
theorem insR_cons (b : Ar) (l : List Ar) (a : Ar) : insR (b :: l) a = if b.s < a.s then b :: insR l a else a :: b :: l := by
  unfold insR
  rw [plR_cons]
  by_cases h : b.s < a.s
  · rw [if_pos h, if_pos h]; rfl
  · rw [if_neg h, if_neg h]; rfl
theorem insR_len (L : List Ar) (a : Ar) : (insR L a).length = L.length + 1 := by
  have := plR_le L a.s
  unfold insR
  simp
  omega
theorem ins_ch : ∀ {L : List Ar} {lo : Int} {a : Ar}, chR lo L = true → rtA a = true → lo ≤ a.s → ovR L a = false → chR lo (insR L a) = true
  | [], lo, a, h, ha, hl, ho => chR_cons.2 ⟨ha, hl, rfl⟩
  | b :: l, lo, a, h, ha, hl, ho => by
    obtain ⟨h1, h2, h3⟩ := chR_cons.1 h
    have hb : ovA b a = false := ovR_mem ho (List.mem_cons_self ..)
    have hl2 : ovR l a = false := by unfold ovR at ho ⊢; rw [List.any_cons, Bool.or_eq_false_iff] at ho; exact ho.2
    have hb' : ¬(a.s < endA b ∧ b.s < endA a) := fun h => by rw [ovA_iff.2 h] at hb; cases hb
    have r1 := rtA_iff.1 h1
    have r2 := rtA_iff.1 ha
    unfold endA at hb'
    rw [insR_cons]
    by_cases hs : b.s < a.s
    · rw [if_pos hs]
      exact chR_cons.2 ⟨h1, h2, ins_ch h3 ha (by unfold endA; omega) hl2⟩
    · rw [if_neg hs]
      exact chR_cons.2 ⟨ha, hl, chR_cons.2 ⟨h1, by unfold endA; omega, h3⟩⟩
theorem ins_ok {L : List Ar} {a : Ar} (h : eM L a = 0) : okR (insR L a) = true := by
  obtain ⟨h1, h2, h3, h4⟩ := eM_ok h
  exact okR_iff.2 ⟨by rw [insR_len]; omega, ins_ch (okR_iff.1 h1).2 h2 (rtA_iff.1 h2).1.1 h3⟩
theorem mapR_ok {L : List Ar} {a : Ar} (h : okR L = true) : okR (mapR L a).1 = true := by
  by_cases h0 : eM L a = 0
  · rw [mapR_0 h0]; exact ins_ok h0
  · rw [mapR_e rfl h0]; exact h
theorem mapR_err (L : List Ar) (a : Ar) : (mapR L a).2 = eM L a := by
  by_cases h0 : eM L a = 0
  · rw [mapR_0 h0, h0]
  · rw [mapR_e rfl h0]
theorem mapR_len (L : List Ar) (a : Ar) : (mapR L a).1.length ≤ L.length + 1 := by
  by_cases h0 : eM L a = 0
  · rw [mapR_0 h0, insR_len]; exact Nat.le_refl _
  · rw [mapR_e rfl h0]; exact Nat.le_succ _
/-- What the answer's list holds while it is built. -/
def insU (L : List Ar) (a : Ar) (k i : Nat) : List Ar := if k < i then L.take k ++ a :: (L.take i).drop k else L.take i
theorem insU_0 (L : List Ar) (a : Ar) (k : Nat) : insU L a k 0 = [] := by unfold insU; rw [if_neg (by omega)]; rfl
theorem take_getR (L : List Ar) {i : Nat} (hi : i < L.length) : L.take (i + 1) = L.take i ++ [L.getD i zR] := take_getD L i hi
theorem insU_lo (L : List Ar) (a : Ar) {k i : Nat} (hi : i < L.length) (h : i < k) : insU L a k (i + 1) = insU L a k i ++ [L.getD i zR] := by
  unfold insU
  rw [if_neg (by omega), if_neg (by omega), take_getR L hi]
theorem insU_at (L : List Ar) (a : Ar) {i : Nat} (hi : i < L.length) : insU L a i (i + 1) = insU L a i i ++ [a] ++ [L.getD i zR] := by
  unfold insU
  rw [if_pos (by omega), if_neg (by omega), take_getR L hi]
  have e : (L.take i).length = i := by rw [List.length_take]; omega
  rw [List.drop_append_of_le_length (by omega)]
  have : List.drop i (L.take i) = [] := List.drop_eq_nil_of_le (by omega)
  rw [this]
  simp
theorem insU_hi (L : List Ar) (a : Ar) {k i : Nat} (hi : i < L.length) (h : k < i) : insU L a k (i + 1) = insU L a k i ++ [L.getD i zR] := by
  unfold insU
  rw [if_pos (by omega), if_pos (by omega), take_getR L hi]
  rw [List.drop_append_of_le_length (by rw [List.length_take]; omega)]
  simp
theorem insU_end (L : List Ar) (a : Ar) {k : Nat} (h : plR L a.s = k) : insR L a = if k < L.length then insU L a k L.length else insU L a k L.length ++ [a] := by
  have := plR_le L a.s
  subst h
  unfold insU insR
  by_cases h : plR L a.s < L.length
  · rw [if_pos h, if_pos h, List.take_length]
  · rw [if_neg h, if_neg h, List.take_length, List.take_of_length_le (by omega), List.drop_eq_nil_of_le (by omega)]
theorem insU_len (L : List Ar) (a : Ar) (k i : Nat) : (insU L a k i).length ≤ L.length + 1 := by
  unfold insU
  split <;> simp <;> omega
/-- What a page shows behind it. -/
theorem findR_ins : ∀ {L : List Ar} {lo : Int} {a : Ar} (p : Int), chR lo L = true → rtA a = true → ovR L a = false → findR (insR L a) p = if hitR a p = true then some a else findR L p
  | [], lo, a, p, h, ha, ho => by
    rw [insR_nil]
    by_cases h0 : hitR a p = true
    · rw [if_pos h0, findR_y h0]
    · rw [if_neg h0, findR_n (by simpa using h0)]
  | b :: l, lo, a, p, h, ha, ho => by
    obtain ⟨h1, h2, h3⟩ := chR_cons.1 h
    have hb : ovA b a = false := ovR_mem ho (List.mem_cons_self ..)
    have hl2 : ovR l a = false := by unfold ovR at ho ⊢; rw [List.any_cons, Bool.or_eq_false_iff] at ho; exact ho.2
    have hb' : ¬(a.s < endA b ∧ b.s < endA a) := fun h => by rw [ovA_iff.2 h] at hb; cases hb
    have r1 := rtA_iff.1 h1
    have r2 := rtA_iff.1 ha
    rw [insR_cons]
    by_cases hs : b.s < a.s
    · rw [if_pos hs]
      cases hh : hitR b p
      · rw [findR_n hh, findR_n hh, findR_ins p h3 ha hl2]
      · rw [findR_y hh, findR_y hh]
        have := hitR_iff.1 hh
        unfold endA at this hb'
        rw [if_neg]
        rw [hitR_no (.inl (by omega))]
        decide
    · rw [if_neg hs]
      cases hh : hitR a p
      · rw [findR_n hh]; rfl
      · rw [findR_y hh]; rfl
theorem findR_free {L : List Ar} {a : Ar} {p : Int} (ho : ovR L a = false) (h : hitR a p = true) : findR L p = none := by
  rw [findR_none]
  intro j hj
  have h1 := ovR_no.1 ho j hj
  have h2 : ¬(a.s < endA (L.getD j zR) ∧ (L.getD j zR).s < endA a) := fun h => by rw [ovA_iff.2 h] at h1; cases h1
  have h3 := hitR_iff.1 h
  refine hitR_no ?_
  unfold endA at *
  omega
theorem fndR_ins {L : List Ar} {a : Ar} (h : eM L a = 0) (p : Int) : (hitR a p = true → fndR (insR L a) p = some a ∧ fndR L p = none) ∧ (hitR a p = false → fndR (insR L a) p = fndR L p) := by
  obtain ⟨h1, h2, h3, h4⟩ := eM_ok h
  rw [fndR_1 (ins_ok h), fndR_1 h1, findR_ins p (okR_iff.1 h1).2 h2 h3]
  exact ⟨fun hh => ⟨if_pos hh, findR_free h3 hh⟩, fun hh => if_neg (by rw [hh]; decide)⟩
end Go.Mine
