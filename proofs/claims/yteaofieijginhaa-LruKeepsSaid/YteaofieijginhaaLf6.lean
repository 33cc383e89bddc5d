/- Lists of frames (layer 8): the reference's Same, the made lists: contracts. -/
import Derived.Test.YteaofieijginhaaLf5
import Derived.Test.YteaofieijginhaaOdd
namespace Go.Proofs.Yteaofieijginhaa
open Go.RowKit Go.Mine

theorem same_lru {B C : Nat} (va vi vr ua ui ur : Value) (x : Lr) (w : World) (R : LrR w B va vi vr x) (Q : LrR w C ua ui ur x) (hs : SmP x) :
    Calls Try.prog 20 #[lruV va vi vr, lruV ua ui ur] w (RetG (.bool true) w) := by
  have O1 := (Own.new w 27 #[va, vi, vr]).alloc (.cells #[ua, ui, ur] 27)
  have O2 := Own.new2 w (.cells #[va, vi, vr] 27) 27 #[ua, ui, ur]
  have G0 : Grew w ((w.alloc (.cells #[va, vi, vr] 27)).alloc (.cells #[ua, ui, ur] 27)) := ((Grew.refl w).alloc _).alloc _
  have HR := Lib.hid R
  have HQ := Lib.hid Q
  have HS := Lib.hid hs
  obtain ⟨p0, p1, p2, -⟩ := O1.three
  obtain ⟨q0, q1, q2, -⟩ := O2.three
  clear R Q hs
  go_enter Try.func20, Try.ntmps20
  go_wp2_with fail
  with_reducible refine (same_ints _ _ _ (HR.out.grew G0).a (HQ.out.grew G0).a (by have := HS.out.a; omega)).mono ?_
  rintro e w1 ⟨rfl, g1⟩
  replace O1 := O1.grew g1
  replace O2 := O2.grew g1
  replace G0 := G0.trans g1
  clear g1 p0 p1 p2 q0 q1 q2
  obtain ⟨p0, p1, p2, -⟩ := O1.three
  obtain ⟨q0, q1, q2, -⟩ := O2.three
  go_wp2_with fail
  with_reducible refine (same_ints _ _ _ (HR.out.grew G0).i (HQ.out.grew G0).i (by have := HS.out.i; omega)).mono ?_
  rintro e w2 ⟨rfl, g1⟩
  replace O1 := O1.grew g1
  replace O2 := O2.grew g1
  replace G0 := G0.trans g1
  clear g1 p0 p1 p2 q0 q1 q2
  obtain ⟨p0, p1, p2, -⟩ := O1.three
  obtain ⟨q0, q1, q2, -⟩ := O2.three
  go_wp2_with fail
  with_reducible refine (same_ints _ _ _ (HR.out.grew G0).r (HQ.out.grew G0).r (by have := HS.out.r; omega)).mono ?_
  rintro e w3 ⟨rfl, g1⟩
  go_wp2
  go_ret
  exact ⟨rfl, G0.trans g1⟩
theorem add_q {y : Lr} {er : Int} {B : Nat} (va vi vr : Value) (x : Lr) (f : Int) (act : Bool) (w : World) (R : LrR w B va vi vr x) (hs : SmP x) (hB : B ≤ w.heap.size) (h1 : addX x f act = y) (h2 : addE x f = er) : Calls Try.prog 13 #[lruV va vi vr, .int .i64 f, .bool act] w (RetLE y er B w) := h1 ▸ h2 ▸ add_any va vi vr x f act w R hs hB
theorem rem_q {y : Lr} {er : Int} {B : Nat} (va vi vr : Value) (x : Lr) (f : Int) (w : World) (R : LrR w B va vi vr x) (hs : SmP x) (hB : B ≤ w.heap.size) (h1 : remX x f = y) (h2 : remE x f = er) : Calls Try.prog 15 #[lruV va vi vr, .int .i64 f] w (RetLE y er B w) := h1 ▸ h2 ▸ remove_any va vi vr x f w R hs hB
theorem tou_q {y : Lr} {er : Int} {B : Nat} (va vi vr : Value) (x : Lr) (f : Int) (w : World) (R : LrR w B va vi vr x) (hs : SmP x) (hB : B ≤ w.heap.size) (h1 : touX x f = y) (h2 : remE x f = er) : Calls Try.prog 17 #[lruV va vi vr, .int .i64 f] w (RetLE y er B w) := h1 ▸ h2 ▸ touch_any va vi vr x f w R hs hB
/-- How long made lists are at most. -/
def LnP (k : Nat) (x : Lr) : Prop := x.a.length + x.i.length ≤ k ∧ x.r.length ≤ k
theorem LnP.sm {k : Nat} {x : Lr} (h : LnP k x) (hk : k ≤ 1000) : SmP x := ⟨by have := h.1; omega, by have := h.1; omega, by have := h.2; omega⟩
theorem ok_add {x : Lr} {f : Int} {act : Bool} (h : OkP x) : OkP (addX x f act) := by
  unfold addX
  split
  · next he =>
    have hf : ¬f ∈ x.a ∧ ¬f ∈ x.i ∧ 1 ≤ f ∧ f ≤ 64 := by
      unfold addE at he
      rw [show okB x = true from decide_eq_true h] at he
      simp only at he
      cases hd : decide (1 ≤ f ∧ f ≤ 64) <;> rw [hd] at he <;> simp only at he
      · omega
      · cases hi : inB x f <;> rw [hi] at he <;> simp only at he
        · unfold inB at hi
          simp at hi
          have := of_decide_eq_true hd
          exact ⟨hi.1, hi.2, this.1, this.2⟩
        · omega
    have key : ∀ y : Lr, y.all.Perm (f :: x.all) → y.r = x.r → OkP y := fun y hp hr => by
      refine ⟨fun g hg => ?_, hp.nodup_iff.2 (List.nodup_cons.2 ⟨fun h => ?_, h.2.1⟩), fun g hg => hp.mem_iff.2 (List.mem_cons_of_mem _ (h.2.2.1 g (hr ▸ hg))), hr ▸ h.2.2.2⟩
      · rcases List.mem_cons.1 (hp.mem_iff.1 hg) with rfl | hg
        · exact hf.2.2
        · exact h.1 g hg
      · rcases List.mem_append.1 h with h | h
        · exact hf.1 h
        · exact hf.2.1 h
    cases act
    · exact key _ List.perm_middle rfl
    · exact key _ (List.Perm.refl _) rfl
  · exact h
theorem ok_rem {x : Lr} {f : Int} (h : OkP x) : OkP (remX x f) := by
  unfold remX
  split
  · have hs : (wol x.a f ++ wol x.i f) = wol (x.a ++ x.i) f := by unfold wol; rw [List.filter_append]
    refine ⟨fun g hg => ?_, ?_, fun g hg => ?_, asc_wol h.2.2.2 f⟩
    · have : g ∈ wol (x.a ++ x.i) f := hs ▸ hg
      exact h.1 g (mem_wol.1 this).1
    · show (wol x.a f ++ wol x.i f).Nodup
      rw [hs]; exact h.2.1.filter _
    · show g ∈ wol x.a f ++ wol x.i f
      have hg := mem_wol.1 (show g ∈ wol x.r f from hg)
      rw [hs]; exact mem_wol.2 ⟨h.2.2.1 g hg.1, hg.2⟩
  · exact h
theorem ln_add {k : Nat} {x : Lr} {f : Int} {act : Bool} (h : LnP k x) : LnP (k + 1) (addX x f act) := by
  unfold addX
  obtain ⟨h1, h2⟩ := h
  split
  · cases act
    · exact ⟨by show x.a.length + (x.i.length + 1) ≤ k + 1; omega, by show x.r.length ≤ k + 1; omega⟩
    · exact ⟨by show x.a.length + 1 + x.i.length ≤ k + 1; omega, by show x.r.length ≤ k + 1; omega⟩
  · exact ⟨by omega, by omega⟩
theorem ln_rem {k : Nat} {x : Lr} {f : Int} (h : LnP k x) : LnP (k + 1) (remX x f) := by
  unfold remX
  obtain ⟨h1, h2⟩ := h
  split
  · have a1 := wol_len x.a f
    have a2 := wol_len x.i f
    have a3 := wol_len x.r f
    exact ⟨by show (wol x.a f).length + (wol x.i f).length ≤ k + 1; omega, by show (wol x.r f).length ≤ k + 1; omega⟩
  · exact ⟨by omega, by omega⟩
theorem ln_tou {k : Nat} {x : Lr} {f : Int} (h : LnP k x) : LnP (k + 1) (touX x f) := by
  unfold touX
  obtain ⟨h1, h2⟩ := h
  split
  · cases decide (f ∈ x.r)
    · have := inl_len x.r f
      exact ⟨by show x.a.length + x.i.length ≤ k + 1; omega, by show (inl x.r f).length ≤ k + 1; omega⟩
    · cases decide (f ∈ x.i)
      · exact ⟨by show x.a.length + x.i.length ≤ k + 1; omega, by show x.r.length ≤ k + 1; omega⟩
      · have a2 := wol_len x.i f
        have a3 := wol_len x.r f
        exact ⟨by show x.a.length + 1 + (wol x.i f).length ≤ k + 1; omega, by show (wol x.r f).length ≤ k + 1; omega⟩
  · exact ⟨by omega, by omega⟩
end Go.Proofs.Yteaofieijginhaa
