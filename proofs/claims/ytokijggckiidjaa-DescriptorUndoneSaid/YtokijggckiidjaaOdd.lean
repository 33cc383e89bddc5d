/- Tape.Odd: some number, whatever the tape. -/
import Derived.Test.YtokijggckiidjaaTape
namespace Go.Proofs.Ytokijggckiidjaa
open Go.RowKit Go.Mine

/-- It returns some integer; the tape has gone on. -/
def RetI (B b : Nat) (w : World) (e : Ending) (w' : World) : Prop := ∃ z : Int, e = .returned (.int .i64 z) ∧ Tp B w' b ∧ w.grownBy w' (some b)
def isI64 : Value → Bool | .int .i64 _ => true | _ => false
theorem int_at {w : World} {g : Nat} {t : TypeId} {cs : Array Value} (h : Own w g t cs) (hs : cs.all isI64 = true) (p : Nat) (hp : p < cs.size) : ∃ z, w.cell? ⟨g, p, none⟩ = some (.int .i64 z) ∧ Value.int .i64 z ∈ cs := by
  have e : cs[p]? = some cs[p] := Array.getElem?_eq_getElem hp
  have k : isI64 cs[p] = true := (Array.all_eq_true.1 hs) p hp
  have m : cs[p] ∈ cs := Array.getElem_mem hp
  have hc := (h.cell p).trans e
  generalize cs[p] = u at *
  match u, k with
  | .int .i64 z, _ => exact ⟨z, hc, m⟩

set_option maxHeartbeats 2000000 in
theorem odd_x (B b : Nat) (w : World) (ht : Tp B w b) (hbw : B ≤ w.heap.size) :
    Calls Try.prog 9 #[.pointer (some ⟨b, 0, none⟩)] w (RetI B b w) := by
  have hb := ht.ltB
  go_enter Try.func9, Try.ntmps9
  go_wp2_with fail
  with_reducible refine (next_x _ _ _ _ (by omega) (by omega) (ht.alloc _)).mono ?_
  rintro e w1 ⟨q, q0, q1, rfl, T1, g1⟩
  obtain ⟨p, rfl⟩ := Int.eq_ofNat_of_zero_le q0
  have O := (Own.new w _ _).past g1 (by omega)
  obtain ⟨z, hc, -⟩ := int_at O (by decide +kernel) p (by simp; omega)
  clear O
  go_wp2
  go_ret
  exact ⟨z, rfl, T1, grown_trans (grown_alloc (grown_refl _ _) _) g1⟩
/-- The same, and that it is an integer of the program's. -/
def RetW (B b : Nat) (w : World) (e : Ending) (w' : World) : Prop := ∃ z : Int, (Lit.int .i64 z).wf = true ∧ e = .returned (.int .i64 z) ∧ Tp B w' b ∧ w.grownBy w' (some b)
def isI64w : Value → Bool | .int .i64 z => (Lit.int .i64 z).wf | _ => false
theorem int_at_w {w : World} {g : Nat} {t : TypeId} {cs : Array Value} (h : Own w g t cs) (hs : cs.all isI64w = true) (p : Nat) (hp : p < cs.size) : ∃ z, w.cell? ⟨g, p, none⟩ = some (.int .i64 z) ∧ (Lit.int .i64 z).wf = true := by
  have e : cs[p]? = some cs[p] := Array.getElem?_eq_getElem hp
  have k : isI64w cs[p] = true := (Array.all_eq_true.1 hs) p hp
  have hc := (h.cell p).trans e
  generalize cs[p] = u at *
  match u, k with
  | .int .i64 z, k => exact ⟨z, hc, k⟩
set_option maxHeartbeats 2000000 in
theorem odd_w (B b : Nat) (w : World) (ht : Tp B w b) (hbw : B ≤ w.heap.size) :
    Calls Try.prog 9 #[.pointer (some ⟨b, 0, none⟩)] w (RetW B b w) := by
  have hb := ht.ltB
  go_enter Try.func9, Try.ntmps9
  go_wp2_with fail
  with_reducible refine (next_x _ _ _ _ (by omega) (by omega) (ht.alloc _)).mono ?_
  rintro e w1 ⟨q, q0, q1, rfl, T1, g1⟩
  obtain ⟨p, rfl⟩ := Int.eq_ofNat_of_zero_le q0
  have O := (Own.new w _ _).past g1 (by omega)
  obtain ⟨z, hc, hz⟩ := int_at_w O (by decide +kernel) p (by simp; omega)
  clear O
  go_wp2
  go_ret
  exact ⟨z, hz, rfl, T1, grown_trans (grown_alloc (grown_refl _ _) _) g1⟩
end Go.Proofs.Ytokijggckiidjaa
