/- What the program asks of descriptors (layer 18), as plain mathematics: words of my own, no program is named here. -/
import Derived.Test.YtokijggckiidjaaDs3
import Derived.Test.YtokijggckiidjaaDsP
namespace Go.Mine
open Go Go.RowKit
def opB (x : Ds) : Bool := inD x.f 0 7 && flD x.g
def atB (x : Ds) : Bool := inD x.o 0 128 && inD x.c 0 1000000
theorem rtD_b (x : Ds) : rtD x = (opB x && atB x) := by unfold rtD opB atB; rw [Bool.and_assoc (inD x.f 0 7 && flD x.g)]
def rgB (x : Ds) : Bool := decide (x = zDs) || (decide (0 < x.r) && rtD x)
theorem rgB_z {x : Ds} (h : x = zDs) : rgB x = true := by unfold rgB; rw [decide_eq_true h]; rfl
theorem rgB_0 {x : Ds} (h : x ≠ zDs) (h0 : ¬0 < x.r) : rgB x = false := by unfold rgB; rw [decide_eq_false h, decide_eq_false h0]; rfl
theorem rgB_r {x : Ds} (h : x ≠ zDs) (h0 : 0 < x.r) : rgB x = rtD x := by unfold rgB; rw [decide_eq_false h, decide_eq_true h0, Bool.false_or, Bool.true_and]
/-- What counting asks. -/
def CtD (d : Dd) : Prop := ∀ p, p < d.t.length → (d.t.getD p []).length = 16 ∧ rowD d p 16
def gpD (d : Dd) (i : Nat) : Prop := (d.o.getD i zDs).r = cntD d.t.flatten i ∧ rgB (d.o.getD i zDs) = true
theorem gpD_iff {d : Dd} {i : Nat} : gpD d i ↔ gdD d i := by
  unfold gpD gdD
  refine ⟨fun ⟨h1, h2⟩ => ⟨h1, fun h0 => ?_, fun h0 => ?_⟩, fun ⟨h1, h2, h3⟩ => ⟨h1, ?_⟩⟩
  · refine Decidable.of_not_not fun hz => ?_
    rw [rgB_0 hz (by omega)] at h2
    cases h2
  · have hz : d.o.getD i zDs ≠ zDs := fun hz => by rw [hz] at h1; have : (zDs).r = 0 := rfl; omega
    rw [rgB_r hz (by omega)] at h2
    exact rtD_iff.1 h2
  · by_cases h0 : cntD d.t.flatten i = 0
    · exact rgB_z (h2 h0)
    · have hz : d.o.getD i zDs ≠ zDs := fun hz => by rw [hz] at h1; have : (zDs).r = 0 := rfl; omega
      rw [rgB_r hz (by omega)]
      exact rtD_iff.2 (h3 (by omega))
theorem okD_y {d : Dd} (h1 : 1 ≤ d.t.length) (h8 : d.t.length ≤ 8) (ho : d.o.length ≤ 128) (hc : CtD d) (hg : ∀ i, i < d.o.length → gpD d i) (hl : d.o.length = 0 ∨ 0 < (d.o.getD (d.o.length - 1) zDs).r) : OkDd d := by
  refine ⟨h1, h8, ho, fun p hp => (hc p hp).1, fun p hp => (hc p hp).2, fun i hi => gpD_iff.1 (hg i hi), ?_⟩
  by_cases h0 : d.o.length = 0
  · exact .inl h0
  · have := (hg (d.o.length - 1) (by omega)).1
    have := hl.resolve_left h0
    exact .inr (by omega)
theorem okD_ct {d : Dd} (h : OkDd d) : CtD d := fun p hp => ⟨h.t p hp, h.n p hp⟩
theorem okD_g {d : Dd} (h : OkDd d) {i : Nat} (hi : i < d.o.length) : gpD d i := gpD_iff.2 (h.r i hi)
theorem okD_l {d : Dd} (h : OkDd d) (h0 : d.o.length ≠ 0) : 0 < (d.o.getD (d.o.length - 1) zDs).r := by
  have := h.last.resolve_left h0
  have := (h.r (d.o.length - 1) (by omega)).1
  omega
/-- It returns what it has counted, or refuses. -/
def RetCt (d : Dd) (w : World) (e : Ending) (w' : World) : Prop := (CtD d ∧ ∃ g n c, e = .returned (.tuple #[.slice (some ⟨g, 0, none⟩) n c, .bool true]) ∧ n = d.o.length ∧ w.heap.size ≤ g ∧ g < w'.heap.size ∧ (∀ k, k < n → w'.cell? ⟨g, k, none⟩ = some (.int .i64 (cntD d.t.flatten k))) ∧ Grew w w')
  ∨ (¬CtD d ∧ e = .returned (.tuple #[.slice none 0 0, .bool false]) ∧ Grew w w')
end Go.Mine
