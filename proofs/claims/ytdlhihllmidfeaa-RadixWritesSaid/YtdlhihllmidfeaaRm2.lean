/- Entries as a function: plain mathematics of the reference's node. -/
import Derived.Test.YtdlhihllmidfeaaRm1
namespace Go.Proofs.Ytdlhihllmidfeaa
open Go.RowKit Go.Mine

def fnOf (L : List En) : Fen := fun i => match L.find? (fun e => e.1 == (i : Int)) with | some e => e.2 | none => (0, 0)
def EntOK (L : List En) : Prop := ∀ e ∈ L, 0 ≤ e.1 ∧ e.1 < 256 ∧ LefOK e.2 ∧ e.2.1 ≠ 0
def inB2 (h at' : Nat) (e : En) : Bool := decide ((at' : Int) ≤ e.1) && decide (e.1 - (at' : Int) < (p4 h : Nat))
theorem inB2_iff (h at' : Nat) (e : En) : inB2 h at' e = true ↔ (at' : Int) ≤ e.1 ∧ e.1 < (at' : Int) + (p4 h : Nat) := by
  unfold inB2
  simp only [Bool.and_eq_true, decide_eq_true_eq]
  omega
theorem EntOK.filter {L : List En} (h : EntOK L) (p : En → Bool) : EntOK (L.filter p) := fun e he => h e (List.mem_filter.1 he).1
theorem fnOf_good {L : List En} (h : EntOK L) : GoodF (fnOf L) := fun i => by
  unfold fnOf
  cases hf : L.find? (fun e => e.1 == (i : Int)) with
  | none => exact ⟨by show (Lit.int .i64 0).wf = true; decide, by show (0 : Int) ≤ 0; omega, by show (0 : Int) ≤ 7; omega, fun _ => rfl⟩
  | some e => exact (h e (List.mem_of_find?_eq_some hf)).2.2.1
theorem find_filter {L : List En} {p q : En → Bool} (h : ∀ e, q e = true → p e = true) : (L.filter p).find? q = L.find? q := by
  rw [List.find?_filter]
  congr 1
  funext e
  cases hq : q e
  · simp
  · simp [h e hq]
theorem fnOf_in (L : List En) (h at' : Nat) {i : Nat} (hi : i < p4 h) : fnOf (L.filter (inB2 h at')) (at' + i) = fnOf L (at' + i) := by
  unfold fnOf
  rw [find_filter (fun e he => by
    have : e.1 = ((at' + i : Nat) : Int) := by simpa using he
    rw [inB2_iff]
    omega)]
theorem emp_none {L : List En} {h at' : Nat} (e : L.filter (inB2 h at') = []) : emp h (fun i => fnOf L (at' + i)) = true := by
  rw [emp_iff]
  intro i hi
  show fnOf L (at' + i) = (0, 0)
  rw [← fnOf_in L h at' hi, e]
  rfl
theorem emp_some {L : List En} (ok : EntOK L) {h at' : Nat} (e : L.filter (inB2 h at') ≠ []) : emp h (fun i => fnOf L (at' + i)) = false := by
  cases he : emp h (fun i => fnOf L (at' + i))
  · rfl
  · exfalso
    rw [emp_iff] at he
    obtain ⟨x, hx⟩ := List.exists_mem_of_ne_nil _ e
    obtain ⟨hm, hb⟩ := List.mem_filter.1 hx
    rw [inB2_iff] at hb
    have h0 := he (x.1 - at').toNat (by omega)
    have e1 : ((at' + (x.1 - (at' : Int)).toNat : Nat) : Int) = x.1 := by omega
    unfold fnOf at h0
    rw [e1] at h0
    cases hf : L.find? (fun e => e.1 == x.1) with
    | none => exact absurd (List.find?_eq_none.1 hf x hm) (by simp)
    | some y =>
      rw [hf] at h0
      have := (ok y (List.mem_of_find?_eq_some hf)).2.2.2
      dsimp only at h0
      rw [h0] at this
      exact this rfl
theorem sub_shift (L : List En) (h at' k : Nat) : sub h (fun i => fnOf L (at' + i)) k = fun i => fnOf L (at' + k * p4 h + i) := by
  funext i
  unfold sub
  rw [Nat.add_assoc]
theorem leaf_at {L : List En} {at' : Nat} {x : En} {r : List En} (e : L.filter (inB2 0 at') = x :: r) : fnOf L at' = x.2 := by
  have h1 := fnOf_in L 0 at' (i := 0) (by decide)
  rw [Nat.add_zero] at h1
  rw [← h1, e]
  have hx : x ∈ L.filter (inB2 0 at') := by rw [e]; simp
  have hb := (List.mem_filter.1 hx).2
  rw [inB2_iff] at hb
  have hp : ((p4 0 : Nat) : Int) = 1 := rfl
  have : x.1 = (at' : Int) := by omega
  unfold fnOf
  rw [List.find?_cons_of_pos (by simp [this])]
end Go.Proofs.Ytdlhihllmidfeaa
