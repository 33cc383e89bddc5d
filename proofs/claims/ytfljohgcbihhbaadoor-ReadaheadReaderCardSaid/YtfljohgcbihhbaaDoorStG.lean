/- Package stream: Feed over a row; awake (layer 6): contracts. -/
import Derived.Test.YtfljohgcbihhbaaDoorStF
namespace Go.Proofs.YtfljohgcbihhbaaDoor
open Go.RowKit Go.Mine

abbrev ofL (L : List Str) : Nat → Str := fun k => L.getD k zS
def Milds (L : List Str) : Prop := ∀ k, k < L.length → Mild (L.getD k zS)
def RetFL (L' : List Str) (i er : Int) (w : World) (e : Ending) (w' : World) : Prop :=
  ∃ v, e = .returned (.tuple #[v, .int .i64 i, .int .i64 er]) ∧ RowN 29 w' w.heap.size v L' ∧ Grew w w'
theorem feed_L {L L' : List Str} {i er : Int} {B : Nat} (v : Value) (x y : Int) (w : World) (R : RowN 29 w B v L) (hl : L.length ≤ 1000000) (hm : Milds L) (h1 : fdL (ofL L) L.length x y = L') (h2 : fdI (ofL L) L.length x y = i) (h3 : errF (ofL L) L.length x y = er) :
    Calls Tryd.prog 21 #[v, .int .i64 x, .int .i64 y] w (RetFL L' i er w) := by
  obtain ⟨a, c, rfl, hr, hc, hz, hcm⟩ := R.rd
  refine (feed_any a L.length c (ofL L) x y w hl hc hcm hr hz hm).mono ?_
  rintro e w' ⟨v, rfl, R', G⟩
  rw [h1] at R'
  exact ⟨v, by rw [h2, h3], R', G⟩
theorem check_L {L : List Str} {b : Bool} {B : Nat} (v : Value) (w : World) (R : RowN 29 w B v L) (hl : L.length ≤ 1000000) (hm : Milds L) (h : chkB (ofL L) L.length = b) :
    Calls Tryd.prog 47 #[v] w (RetG (.bool b) w) := by
  obtain ⟨a, c, rfl, hr, hc, hz, hcm⟩ := R.rd
  exact check_v a L.length c (ofL L) w hl hc hcm hr hm h
theorem aw1 : fdL (ofL []) 0 0 1 = [⟨1, 0, 1, 0, 0, 1⟩] ∧ fdI (ofL []) 0 0 1 = 0 ∧ errF (ofL []) 0 0 1 = 0 := ⟨by kernel_rfl, by kernel_rfl, by kernel_rfl⟩
theorem aw2 : fdL (ofL [⟨1, 0, 1, 0, 0, 1⟩]) 1 1 2 = [⟨2, 1, 2, 0, 1, 2⟩] ∧ fdI (ofL [⟨1, 0, 1, 0, 0, 1⟩]) 1 1 2 = 0 ∧ errF (ofL [⟨1, 0, 1, 0, 0, 1⟩]) 1 1 2 = 0 := ⟨by kernel_rfl, by kernel_rfl, by kernel_rfl⟩
theorem aw3 : fdL (ofL [⟨2, 1, 2, 0, 1, 2⟩]) 1 2 3 = [⟨2, 2, 3, 0, 2, 3⟩] ∧ fdI (ofL [⟨2, 1, 2, 0, 1, 2⟩]) 1 2 3 = 0 ∧ errF (ofL [⟨2, 1, 2, 0, 1, 2⟩]) 1 2 3 = 0 := ⟨by kernel_rfl, by kernel_rfl, by kernel_rfl⟩
theorem aw4 : prF ⟨2, 2, 3, 0, 2, 3⟩ 2 = [3, 4] ∧ sureB ⟨2, 2, 3, 0, 2, 3⟩ = true ∧ chkB (ofL [⟨2, 2, 3, 0, 2, 3⟩]) 1 = true := ⟨by kernel_rfl, by kernel_rfl, by kernel_rfl⟩
end Go.Proofs.YtfljohgcbihhbaaDoor
