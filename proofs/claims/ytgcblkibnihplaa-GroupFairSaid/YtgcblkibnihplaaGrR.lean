/- Groups (layer 11) in memory: a list of groups as it is read, and as it is stored; pieces: words of my own, no program is named here. -/
import Derived.Test.YtgcblkibnihplaaGrM
namespace Go.Mine
open Go Go.RowKit

/-- A group: limit, protection, charge. -/
structure Gp where
  l : Int
  p : Int
  c : Int
def encG (x : Gp) : List Value := [.int .i64 x.l, .int .i64 x.p, .int .i64 x.c]
theorem encG_len (x : Gp) : (encG x).length = 3 := rfl
theorem encG_one {x : Gp} : ∀ u ∈ encG x, u.oneCell' = true := by intro u hu; simp [encG] at hu; rcases hu with rfl | rfl | rfl <;> rfl
abbrev gpV (x : Gp) : Value := .agg #[.int .i64 x.l, .int .i64 x.p, .int .i64 x.c]
abbrev cG (x : Gp) : Array Value := #[.int .i64 x.l, .int .i64 x.p, .int .i64 x.c]
def zG : Gp := ⟨0, 0, 0⟩
/-- n is from a to b. -/
def frB (n a b : Int) : Bool := decide (a ≤ n ∧ n ≤ b)
theorem frB_t {n a b : Int} (h1 : a ≤ n) (h2 : n ≤ b) : frB n a b = true := decide_eq_true ⟨h1, h2⟩
theorem frB_1 {n a b : Int} (h1 : ¬a ≤ n) : frB n a b = false := decide_eq_false fun h => h1 h.1
theorem frB_2 {n a b : Int} (h1 : ¬n ≤ b) : frB n a b = false := decide_eq_false fun h => h1 h.2
theorem frB_iff {n a b : Int} : frB n a b = true ↔ a ≤ n ∧ n ≤ b := decide_eq_true_iff
/-- A group that is not right. -/
def wrB (x : Gp) : Bool := !(frB x.l 1 64 && frB x.p 0 x.l && frB x.c 0 64)
def OkP (x : Gp) : Prop := 1 ≤ x.l ∧ x.l ≤ 64 ∧ 0 ≤ x.p ∧ x.p ≤ x.l ∧ 0 ≤ x.c ∧ x.c ≤ 64
theorem wrB_iff {x : Gp} : wrB x = false ↔ OkP x := by
  unfold wrB OkP
  rw [Bool.not_eq_false', Bool.and_eq_true, Bool.and_eq_true, frB_iff, frB_iff, frB_iff]
  constructor
  · rintro ⟨⟨⟨a, b⟩, c, d⟩, e, f⟩; exact ⟨a, b, c, d, e, f⟩
  · rintro ⟨a, b, c, d, e, f⟩; exact ⟨⟨⟨a, b⟩, c, d⟩, e, f⟩
def okG (L : List Gp) : Bool := decide (1 ≤ L.length ∧ L.length ≤ 4) && !L.any wrB
theorem okG_iff {L : List Gp} : okG L = true ↔ (1 ≤ L.length ∧ L.length ≤ 4) ∧ ∀ x ∈ L, OkP x := by
  unfold okG
  rw [Bool.and_eq_true, decide_eq_true_iff, Bool.not_eq_true', List.any_eq_false]
  constructor
  · rintro ⟨a, b⟩; exact ⟨a, fun x hx => wrB_iff.1 (by simpa using b x hx)⟩
  · rintro ⟨a, b⟩; exact ⟨a, fun x hx => by have := wrB_iff.2 (b x hx); simp [this]⟩
theorem gD {L : List Gp} {k : Nat} (h : k < L.length) : L.getD k zG = L[k] := by simp [List.getD, h]
theorem okG_at {L : List Gp} (h : okG L = true) {k : Nat} (hk : k < L.length) : OkP (L.getD k zG) := by
  rw [gD hk]; exact (okG_iff.1 h).2 _ (List.getElem_mem hk)
/-- What a group has above its protection. -/
def excP (x : Gp) : Int := max (x.c - x.p) 0
def excF (L : List Gp) (i : Nat) : Int := excP (L.getD i zG)
def chgF (L : List Gp) (i : Nat) : Int := (L.getD i zG).c
theorem exc_ok {L : List Gp} (h : okG L = true) : ∀ i, i < L.length → 0 ≤ excF L i ∧ excF L i ≤ chgF L i := fun i hi => by
  have := okG_at h hi
  unfold OkP at this
  unfold excF chgF excP
  omega
theorem exc_64 {L : List Gp} (h : okG L = true) : ∀ i, i < L.length → chgF L i ≤ 64 := fun i hi => by
  have := okG_at h hi
  unfold OkP at this
  unfold chgF
  omega
section
variable {T : TypeId} {w w' : World} {B : Nat} {v : Value} {L : List Gp}
/-- What is read of a slice of groups. -/
theorem RowE.gps (h : RowE T 3 encG w B v L) : ∃ a c, v = .slice a L.length c ∧ ∀ k, k < L.length → ∃ g, a = some ⟨g, 0, none⟩ ∧ B ≤ g ∧ g < w.heap.size ∧
    w.cell? ⟨g, k * 3, none⟩ = some (.int .i64 (L.getD k zG).l) ∧ w.cell? ⟨g, k * 3 + 1, none⟩ = some (.int .i64 (L.getD k zG).p) ∧ w.cell? ⟨g, k * 3 + 2, none⟩ = some (.int .i64 (L.getD k zG).c) := by
  rcases h.shape encG_len with ⟨rfl, rfl⟩ | ⟨g, cap, rfl, hB, hg, -, -, hcell, -⟩
  · exact ⟨none, 0, rfl, fun k hk => absurd hk (by simp)⟩
  · refine ⟨_, cap, rfl, fun k hk => ⟨g, rfl, hB, hg, ?_, ?_, ?_⟩⟩
    · have := hcell k hk 0 (by omega); rw [gD hk]; exact this
    · have := hcell k hk 1 (by omega); rw [gD hk]; exact this
    · have := hcell k hk 2 (by omega); rw [gD hk]; exact this
/-- The same at a slice that is one. -/
theorem RowE.gat {a : Option Addr} {n c : Nat} (h : RowE T 3 encG w B (.slice a n c) L) {k : Nat} (hk : k < L.length) : n = L.length ∧ ∃ g, a = some ⟨g, 0, none⟩ ∧ B ≤ g ∧ g < w.heap.size ∧
    w.cell? ⟨g, k * 3, none⟩ = some (.int .i64 (L.getD k zG).l) ∧ w.cell? ⟨g, k * 3 + 1, none⟩ = some (.int .i64 (L.getD k zG).p) ∧ w.cell? ⟨g, k * 3 + 2, none⟩ = some (.int .i64 (L.getD k zG).c) := by
  obtain ⟨a', c', e, hr⟩ := h.gps
  injection e with e1 e2 e3
  subst e1
  exact ⟨e2, hr k hk⟩
theorem RowE.glen {a : Option Addr} {n c : Nat} (h : RowE T 3 encG w B (.slice a n c) L) : n = L.length := by
  obtain ⟨a', c', e, -⟩ := h.gps
  injection e
theorem RowE.gfree {a : Option Addr} {n c : Nat} (h : RowE T 3 encG w B (.slice a n c) L) (h0 : 0 < L.length) : ∃ g, a = some ⟨g, 0, none⟩ ∧ ∀ j, w.frozen? ⟨g, j, none⟩ = false := by
  rcases h.shape encG_len with ⟨-, e⟩ | ⟨g, cap, e, hB, hg, -, -, -, hf⟩
  · rw [e] at h0; exact absurd h0 (by simp)
  · injection e with e1 e2 e3
    exact ⟨g, e1, hf⟩
end
theorem fmG_set : ∀ (L : List Gp) (k : Nat) (r : Nat) (u : Value) (x : Gp), k < L.length → r < 3 → encG x = (encG (L.getD k zG)).set r u → (L.flatMap encG).set (k * 3 + r) u = (L.set k x).flatMap encG
  | [], k, _, _, _, hk, _, _ => absurd hk (by simp)
  | y :: L, 0, r, u, x, _, hr, he => by
    have he : encG x = (encG y).set r u := he
    rw [List.flatMap_cons, List.set_cons_zero, List.flatMap_cons, he, Nat.zero_mul, Nat.zero_add, List.set_append_left _ _ (by rw [encG_len]; exact hr)]
  | y :: L, k + 1, r, u, x, hk, hr, he => by
    have ih := fmG_set L k r u x (by simpa using hk) hr he
    rw [List.flatMap_cons, List.set_cons_succ, List.flatMap_cons, ← ih, List.set_append_right _ _ (by rw [encG_len]; omega), encG_len]
    congr 2
    omega
/-- One number of one group is stored. -/
theorem RowE.gset {T : TypeId} {w : World} {B g n c k r : Nat} {L : List Gp} {u : Value} {x : Gp} (h : RowE T 3 encG w B (.slice (some ⟨g, 0, none⟩) n c) L) (hk : k < L.length) (hr : r < 3) (he : encG x = (encG (L.getD k zG)).set r u) :
    RowE T 3 encG (w.setCell ⟨g, k * 3 + r, none⟩ u) B (.slice (some ⟨g, 0, none⟩) n c) (L.set k x) := by
  have e := h.glen
  subst e
  exact RowE.stored h (k * 3 + r) u (List.length_set ..) (fmG_set L k r u x hk hr he)
/-- Integers that a slice holds from its block's beginning on, read only. -/
def RdA (w : World) (B : Nat) (v : Value) (o : Nat → Int) (n : Nat) : Prop := ∃ g c, v = .slice (some ⟨g, 0, none⟩) n c ∧ B ≤ g ∧ g < w.heap.size ∧ ∀ k, k < n → w.cell? ⟨g, k, none⟩ = some (.int .i64 (o k))
theorem RdA.grew {w w' : World} {B n : Nat} {v : Value} {o : Nat → Int} (h : RdA w B v o n) (G : Grew w w') : RdA w' B v o n := by
  obtain ⟨g, c, e, hB, hg, hc⟩ := h
  exact ⟨g, c, e, hB, Nat.lt_of_lt_of_le hg G.size, fun k hk => (G.cells.1 g k hg).trans (hc k hk)⟩
abbrev pcA (o : Nat → Int) : Array Value := #[.int .i64 (o 0), .int .i64 (o 1), .int .i64 (o 2), .int .i64 (o 3)]
abbrev pcV (o : Nat → Int) : Value := .agg (pcA o)
theorem pc_at {o : Nat → Int} {k : Nat} (h : k < 4) : (pcA o)[k]? = some (.int .i64 (o k)) := by
  rcases (show k = 0 ∨ k = 1 ∨ k = 2 ∨ k = 3 by omega) with rfl | rfl | rfl | rfl <;> rfl
theorem pc_inc {o : Nat → Int} {b : Nat} (h : b < 4) : (pcA o).setIfInBounds b (.int .i64 (o b + 1)) = pcA (incD o b) := by
  rcases (show b = 0 ∨ b = 1 ∨ b = 2 ∨ b = 3 by omega) with rfl | rfl | rfl | rfl <;> rfl
end Go.Mine
