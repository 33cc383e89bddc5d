/- Dirty proportions (layer 13) as plain mathematics, and how they lie in memory; no program is named here. -/
import Derived.Test.YtjeelciijfpdiaaRows2
import Derived.Test.YtjeelciijfpdiaaZnA
namespace Go.Mine
open Go Go.RowKit

/-- Proportions: events, period, left. -/
structure Pd where
  e : List Int
  p : Int
  l : Int
/-- n is from a to b. -/
def frB (n a b : Int) : Bool := decide (a ≤ n ∧ n ≤ b)
theorem frB_t {n a b : Int} (h1 : a ≤ n) (h2 : n ≤ b) : frB n a b = true := decide_eq_true ⟨h1, h2⟩
theorem frB_1 {n a b : Int} (h1 : ¬a ≤ n) : frB n a b = false := decide_eq_false fun h => h1 h.1
theorem frB_2 {n a b : Int} (h1 : ¬n ≤ b) : frB n a b = false := decide_eq_false fun h => h1 h.2
theorem frB_iff {n a b : Int} : frB n a b = true ↔ a ≤ n ∧ n ≤ b := decide_eq_true_iff
theorem frB_no {n a b : Int} (h : frB n a b = false) : ¬a ≤ n ∨ (a ≤ n ∧ ¬n ≤ b) := by
  by_cases h1 : a ≤ n
  · exact .inr ⟨h1, fun h2 => by rw [frB_t h1 h2] at h; cases h⟩
  · exact .inl h1
/-- A number that can't be events. -/
def wrI (x : Int) : Bool := !frB x 0 1000000
theorem wrI_f {x : Int} : wrI x = false ↔ 0 ≤ x ∧ x ≤ 1000000 := by
  unfold wrI; rw [Bool.not_eq_false', frB_iff]
def okD (x : Pd) : Bool := frB x.e.length 1 4 && !x.e.any wrI && frB x.p 1 1000000 && frB x.l 1 x.p
structure OkD (x : Pd) : Prop where
  n1 : 1 ≤ x.e.length
  n4 : x.e.length ≤ 4
  ev : ∀ k, k < x.e.length → 0 ≤ x.e.getD k 0 ∧ x.e.getD k 0 ≤ 1000000
  p1 : 1 ≤ x.p
  p2 : x.p ≤ 1000000
  l1 : 1 ≤ x.l
  l2 : x.l ≤ x.p
theorem any_wr {L : List Int} : L.any wrI = false ↔ ∀ k, k < L.length → 0 ≤ L.getD k 0 ∧ L.getD k 0 ≤ 1000000 := by
  rw [List.any_eq_false]
  constructor
  · intro h k hk
    have := h (L[k]) (List.getElem_mem hk)
    have e : L.getD k 0 = L[k] := by simp [List.getD, hk]
    rw [e]
    exact wrI_f.1 (by simpa using this)
  · intro h z hz
    obtain ⟨k, hk, rfl⟩ := List.getElem_of_mem hz
    have e : L.getD k 0 = L[k] := by simp [List.getD, hk]
    have := h k hk
    rw [e] at this
    rw [wrI_f.2 this]
    simp
theorem okD_iff {x : Pd} : okD x = true ↔ OkD x := by
  unfold okD
  rw [Bool.and_eq_true, Bool.and_eq_true, Bool.and_eq_true, frB_iff, frB_iff, frB_iff, Bool.not_eq_true', any_wr]
  constructor
  · rintro ⟨⟨⟨⟨a, b⟩, c⟩, d, e⟩, f, g⟩
    exact ⟨by omega, by omega, c, d, e, f, g⟩
  · rintro ⟨a, b, c, d, e, f, g⟩
    exact ⟨⟨⟨⟨by omega, by omega⟩, c⟩, d, e⟩, f, g⟩
/-- The program's way to the same. -/
theorem okD_ways (x : Pd) : (okD x = false ∧ frB x.e.length 1 4 = false) ∨ (okD x = false ∧ frB x.e.length 1 4 = true ∧ x.e.any wrI = true) ∨
    (okD x = false ∧ frB x.e.length 1 4 = true ∧ x.e.any wrI = false ∧ frB x.p 1 1000000 = false) ∨ (okD x = frB x.l 1 x.p ∧ frB x.e.length 1 4 = true ∧ x.e.any wrI = false ∧ frB x.p 1 1000000 = true) := by
  unfold okD
  cases frB x.e.length 1 4 <;> cases x.e.any wrI <;> cases frB x.p 1 1000000 <;> simp
/-- There is a device. -/
def hasD (x : Pd) (d : Int) : Bool := frB d 0 (x.e.length - 1)
/-- One page more. -/
def incD (d : Nat) (L : List Int) : List Int := L.set d (min (L.getD d 0 + 1) 1000000)
def halD (L : List Int) : List Int := L.map (· / 2)
def stD (d : Nat) (x : Pd) : Pd := match x.l - 1 == 0 with
  | true => ⟨halD (incD d x.e), x.p, x.p⟩
  | false => ⟨incD d x.e, x.p, x.l - 1⟩
def itD (d : Nat) : Nat → Pd → Pd
  | 0, x => x
  | n + 1, x => stD d (itD d n x)
theorem inc_len (d : Nat) (L : List Int) : (incD d L).length = L.length := by simp [incD]
theorem hal_len (L : List Int) : (halD L).length = L.length := by simp [halD]
theorem hal_at {L : List Int} {k : Nat} (h : k < L.length) : (halD L).getD k 0 = L.getD k 0 / 2 := by simp [halD, List.getD, h]
theorem inc_self {d : Nat} {L : List Int} (h : d < L.length) : (incD d L).getD d 0 = min (L.getD d 0 + 1) 1000000 := by simp [incD, List.getD, h]
theorem inc_ne {d k : Nat} {L : List Int} (h : k ≠ d) : (incD d L).getD k 0 = L.getD k 0 := by simp [incD, List.getD, Ne.symm h]
theorem st_t {d : Nat} {x : Pd} (h : x.l = 1) : stD d x = ⟨halD (incD d x.e), x.p, x.p⟩ := by
  have : (x.l - 1 == 0) = true := by rw [h]; rfl
  unfold stD; rw [this]
theorem st_f {d : Nat} {x : Pd} (h : x.l ≠ 1) : stD d x = ⟨incD d x.e, x.p, x.l - 1⟩ := by
  have : (x.l - 1 == 0) = false := beq_eq_false_iff_ne.2 (by omega)
  unfold stD; rw [this]
theorem st_p (d : Nat) (x : Pd) : (stD d x).p = x.p ∧ (stD d x).e.length = x.e.length := by
  by_cases h : x.l = 1
  · rw [st_t h]; exact ⟨rfl, by simp [inc_len, hal_len]⟩
  · rw [st_f h]; exact ⟨rfl, by simp [inc_len]⟩
theorem inc_ok {d : Nat} {L : List Int} (hd : d < L.length) (h : ∀ k, k < L.length → 0 ≤ L.getD k 0 ∧ L.getD k 0 ≤ 1000000) (k : Nat) (hk : k < L.length) : 0 ≤ (incD d L).getD k 0 ∧ (incD d L).getD k 0 ≤ 1000000 := by
  by_cases e : k = d
  · subst e
    rw [inc_self hd]
    have := h k hk
    omega
  · rw [inc_ne e]; exact h k hk
theorem st_ok {d : Nat} {x : Pd} (h : OkD x) (hd : d < x.e.length) : OkD (stD d x) := by
  by_cases e : x.l = 1
  · rw [st_t e]
    refine ⟨?_, ?_, fun k hk => ?_, h.p1, h.p2, h.p1, Int.le_refl _⟩
    · simp only [hal_len, inc_len]; exact h.n1
    · simp only [hal_len, inc_len]; exact h.n4
    · simp only [hal_len, inc_len] at hk ⊢
      rw [hal_at (by rw [inc_len]; exact hk)]
      have := inc_ok hd h.ev k hk
      omega
  · rw [st_f e]
    refine ⟨?_, ?_, fun k hk => ?_, h.p1, h.p2, ?_, ?_⟩
    · simp only [inc_len]; exact h.n1
    · simp only [inc_len]; exact h.n4
    · simp only [inc_len] at hk ⊢
      exact inc_ok hd h.ev k hk
    · have := h.l1; simp only; omega
    · have := h.l2; simp only; omega
theorem it_p (d : Nat) (n : Nat) (x : Pd) : (itD d n x).p = x.p ∧ (itD d n x).e.length = x.e.length := by
  induction n with
  | zero => exact ⟨rfl, rfl⟩
  | succ n ih => exact ⟨(st_p d _).1.trans ih.1, (st_p d _).2.trans ih.2⟩
theorem it_ok {d : Nat} (n : Nat) {x : Pd} (h : OkD x) (hd : d < x.e.length) : OkD (itD d n x) := by
  induction n with
  | zero => exact h
  | succ n ih => exact st_ok ih (by rw [(it_p d n x).2]; exact hd)
/-- What completing n pages of device d makes of x: y, and the error. -/
def CmR (x : Pd) (d n : Int) (y : Pd) (e : Int) : Prop :=
  (okD x = false ∧ y = x ∧ e = 1) ∨ (okD x = true ∧ hasD x d = false ∧ y = x ∧ e = 2) ∨ (okD x = true ∧ hasD x d = true ∧ frB n 0 64 = false ∧ y = x ∧ e = 2) ∨
  (okD x = true ∧ hasD x d = true ∧ frB n 0 64 = true ∧ y = itD d.toNat n.toNat x ∧ e = 0)
theorem CmR.some (x : Pd) (d n : Int) : ∃ y e, CmR x d n y e := by
  cases h1 : okD x
  · exact ⟨_, _, .inl ⟨h1, rfl, rfl⟩⟩
  · cases h2 : hasD x d
    · exact ⟨_, _, .inr (.inl ⟨h1, h2, rfl, rfl⟩)⟩
    · cases h3 : frB n 0 64
      · exact ⟨_, _, .inr (.inr (.inl ⟨h1, h2, h3, rfl, rfl⟩))⟩
      · exact ⟨_, _, .inr (.inr (.inr ⟨h1, h2, h3, rfl, rfl⟩))⟩
theorem CmR.len {x y : Pd} {d n e : Int} (h : CmR x d n y e) : y.e.length = x.e.length := by
  rcases h with ⟨-, rfl, -⟩ | ⟨-, -, rfl, -⟩ | ⟨-, -, -, rfl, -⟩ | ⟨-, -, -, rfl, -⟩
  · rfl
  · rfl
  · rfl
  · exact (it_p _ _ _).2
/-- What New gives. -/
def NwR (n p : Int) (y : Pd) (e : Int) : Prop :=
  (frB n 1 4 = true ∧ frB p 1 1000000 = true ∧ y = ⟨List.replicate n.toNat 0, p, p⟩ ∧ e = 0) ∨ ((frB n 1 4 = false ∨ (frB n 1 4 = true ∧ frB p 1 1000000 = false)) ∧ y = ⟨[], 0, 0⟩ ∧ e = 2)
theorem NwR.some (n p : Int) : ∃ y e, NwR n p y e := by
  cases h1 : frB n 1 4
  · exact ⟨_, _, .inr ⟨.inl h1, rfl, rfl⟩⟩
  · cases h2 : frB p 1 1000000
    · exact ⟨_, _, .inr ⟨.inr ⟨h1, h2⟩, rfl, rfl⟩⟩
    · exact ⟨_, _, .inl ⟨h1, h2, rfl, rfl⟩⟩
theorem NwR.small {n p e : Int} {y : Pd} (h : NwR n p y e) : y.e.length ≤ 4 := by
  rcases h with ⟨h, -, rfl, -⟩ | ⟨-, rfl, -⟩
  · have := frB_iff.1 h
    simp only [List.length_replicate]; omega
  · simp
theorem new_ok {n p : Int} (h1 : frB n 1 4 = true) (h2 : frB p 1 1000000 = true) : OkD ⟨List.replicate n.toNat 0, p, p⟩ := by
  have a := frB_iff.1 h1
  have b := frB_iff.1 h2
  refine ⟨?_, ?_, fun k hk => ?_, b.1, b.2, b.1, Int.le_refl _⟩
  · simp only [List.length_replicate]; omega
  · simp only [List.length_replicate]; omega
  · simp only [List.length_replicate] at hk
    simp [List.getD, hk]
/-- Limits. -/
def lmF (f p : Int) : Int := match frB f 6 64 && frB p 0 100 with | true => max (f * p / 100) 6 | false => 0
def bgF (l : Int) : Int := max l 0 / 2
/-- Sums. -/
def smF (L : List Int) (k : Nat) : Int := (L.take k).sum
theorem sm_0 (L : List Int) : smF L 0 = 0 := by simp [smF]
theorem sm_s {L : List Int} {k : Nat} (h : k < L.length) : smF L (k + 1) = smF L k + L.getD k 0 := by
  unfold smF
  rw [take_getD (d := 0) L k h, List.sum_append]
  simp
theorem sm_le {L : List Int} (h : ∀ k, k < L.length → 0 ≤ L.getD k 0 ∧ L.getD k 0 ≤ 1000000) (k : Nat) (hk : k ≤ L.length) : 0 ≤ smF L k ∧ smF L k ≤ 1000000 * k := by
  induction k with
  | zero => rw [sm_0]; omega
  | succ k ih =>
    rw [sm_s (by omega)]
    have := ih (by omega)
    have := h k (by omega)
    omega
/-- A device's part of what is divided. -/
def ptF (x : Pd) (d : Nat) (lim : Int) : Int := max (lim - 5) 0 * (x.e.getD d 0 + 1) / (smF x.e x.e.length + x.e.length)
def shF (x : Pd) (d lim : Int) : Int := match okD x && hasD x d && frB lim 0 64 with | true => min (5 + ptF x d.toNat lim) lim | false => 0
theorem shF_no (x : Pd) (d lim : Int) (h : okD x = false ∨ hasD x d = false ∨ frB lim 0 64 = false) : shF x d lim = 0 := by
  have : (okD x && hasD x d && frB lim 0 64) = false := by
    rcases h with h | h | h <;> rw [h] <;> simp
  unfold shF; rw [this]
theorem shF_yes {x : Pd} {d lim : Int} (h1 : okD x = true) (h2 : hasD x d = true) (h3 : frB lim 0 64 = true) : shF x d lim = min (5 + ptF x d.toNat lim) lim := by
  unfold shF; rw [h1, h2, h3]; rfl
/-- The slice of proportions holds the events of x, in a block of p. -/
def PdR (w : World) (p : Nat → Prop) (v : Value) (x : Pd) : Prop := ∃ a c, v = .agg #[.slice a x.e.length c, .int .i64 x.p, .int .i64 x.l] ∧ RdI w p a x.e.length x.e
section
variable {w w' : World} {p q : Nat → Prop}
theorem RdI.grew {a : Option Addr} {n : Nat} {xs : List Int} (h : RdI w p a n xs) (G : Grew w w') : RdI w' p a n xs := h.keep G.size (fun _ a _ => a) fun g _ hl => Below.block G g hl
theorem PdR.grew {v : Value} {x : Pd} (h : PdR w p v x) (G : Grew w w') : PdR w' p v x := by
  obtain ⟨a, c, e, r⟩ := h
  exact ⟨a, c, e, r.grew G⟩
theorem PdR.keep {v : Value} {x : Pd} (h : PdR w p v x) (hs : w.heap.size ≤ w'.heap.size) (hp : ∀ g, p g → g < w.heap.size → q g) (hk : ∀ g, p g → g < w.heap.size → w'.heap[g]? = w.heap[g]?) : PdR w' q v x := by
  obtain ⟨a, c, e, r⟩ := h
  exact ⟨a, c, e, r.keep hs hp hk⟩
/-- A row of integers of the call's own is read. -/
theorem RowE.rd {T : TypeId} {B : Nat} {v : Value} {xs : List Int} (h : RowE T 1 enc1 w B v xs) : ∃ a c, v = .slice a xs.length c ∧ RdI w (fun b => B ≤ b) a xs.length xs := by
  rcases h.shape enc1_len with ⟨rfl, rfl⟩ | ⟨g, cap, rfl, hB, hg, -, -, hcell, -⟩
  · exact ⟨none, 0, rfl, rfl, .inl rfl⟩
  · refine ⟨_, cap, rfl, rfl, .inr ⟨g, 0, rfl, hB, hg, fun k hk => ?_⟩⟩
    have := hcell k hk 0 (by omega)
    simpa [enc1, List.getD, hk] using this
end
theorem it_1 (d : Nat) (x : Pd) : itD d 1 x = stD d x := rfl
theorem it_s (d n : Nat) (x : Pd) : itD d (n + 1) x = stD d (itD d n x) := rfl
end Go.Mine
