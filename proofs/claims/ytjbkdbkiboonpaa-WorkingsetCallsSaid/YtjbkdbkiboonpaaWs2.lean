/- Package workingset (layer 9): the table of what a refault needs; Distance and Activate; the reference. -/
import Derived.Test.YtjbkdbkiboonpaaWs
import Derived.Laws.EntriesVeiled
namespace Go.Proofs.Ytjbkdbkiboonpaa
open Go.RowKit Go.Mine

abbrev clT : Obj := .cells #[.func (.func 21) #[] #[], .int .i64 2, .func (.func 22) #[] #[], .int .i64 1] 44
abbrev nd1 : Obj := .cells #[.func (.func 21) #[] #[], .int .i64 2] 44
abbrev nd2 : Obj := .cells #[.func (.func 22) #[] #[], .int .i64 1] 44
theorem new3 (w : World) (o1 o2 : Obj) (t : TypeId) (cs : Array Value) : Own (((w.alloc o1).alloc o2).alloc (.cells cs t)) (w.heap.size + 1 + 1) t cs := by
  have := Own.new ((w.alloc o1).alloc o2) t cs
  simpa only [World.size_alloc] using this
set_option maxHeartbeats 2000000 in
theorem check_any (c s : Int) (w : World) (h : (Lit.int .i64 s).wf = true) : Calls Try.prog 19 #[rfV c s] w (RetG (.int .i64 (diE c s)) w) := by
  have H := Lib.hid h
  clear h
  have O0 := ((Own.new w 40 #[.int .i64 c, .int .i64 s]).alloc clT).alloc nd1
  have O1 := (Own.new2 w (.cells #[.int .i64 c, .int .i64 s] 40) 44 #[.func (.func 21) #[] #[], .int .i64 2, .func (.func 22) #[] #[], .int .i64 1]).alloc nd1
  have O2 := new3 w (.cells #[.int .i64 c, .int .i64 s] 40) clT 44 #[.func (.func 21) #[] #[], .int .i64 2]
  have G : Grew w (((w.alloc (.cells #[.int .i64 c, .int .i64 s] 40)).alloc clT).alloc nd1) := (((Grew.refl _).alloc _).alloc _).alloc _
  go_enter Try.func19, Try.ntmps19
  go_wp2_with fail
  refine wp_loop_rounds 3 ?_
  rw [rounds_succ]
  go_wp2_with fail
  with_reducible refine (hasClock_any _ _ _).mono ?_
  rintro e' w1 ⟨rfl, g1⟩
  replace O0 := O0.grew g1
  replace O1 := O1.grew g1
  replace O2 := O2.grew g1
  replace G := G.trans g1
  clear g1
  have l0 := O0.lt
  have l1 := O1.lt
  have l2 := O2.lt
  obtain ⟨c0, c1, f0, f1⟩ := O2.two
  by_cases hc : 0 ≤ c ∧ c ≤ 1000000
  · have e : Hid (ckB c = true) := Lib.hid (decide_eq_true hc)
    obtain ⟨a0, a1, _, _⟩ := O0.two
    obtain ⟨b0, b1, b2, b3, _, _, _, _⟩ := O1.four
    have HO0 := Lib.hid O0
    have HG := Lib.hid G
    rw [e.out]
    clear O0 O1 O2 G
    go_wp2_with fail
    rw [rounds_succ]
    go_wp2_with fail
    with_reducible refine (hasPast_any _ _ _ H.out).mono ?_
    rintro e' w2 ⟨rfl, g2⟩
    have O2 := (Own.new w1 44 #[.func (.func 22) #[] #[], .int .i64 1]).grew g2
    have G := (HG.out.alloc nd2).trans g2
    obtain ⟨c0, c1, f0, f1⟩ := O2.two
    have l2 := O2.lt
    clear g2 a0 a1 b0 b1 b2 b3 O2 HO0 HG
    by_cases hp : -1000001 ≤ s ∧ s ≤ -1 ∧ -(s + 1) < c
    · have e2 : Hid (paB c s = true) := Lib.hid (decide_eq_true hp)
      have e3 : Hid (diE c s = 0) := Lib.hid (by rw [diE, if_pos hc, if_pos hp])
      rw [e2.out]
      go_wp2_with fail
      rw [rounds_succ]
      go_wp2
      go_ret
      exact ⟨ret_int e3.out.symm, G⟩
    · have e2 : Hid (paB c s = false) := Lib.hid (decide_eq_false hp)
      have e3 : Hid (diE c s = 1) := Lib.hid (by rw [diE, if_pos hc, if_neg hp])
      rw [e2.out]
      go_wp2
      go_ret
      exact ⟨ret_int e3.out.symm, G⟩
  · have e : Hid (ckB c = false) := Lib.hid (decide_eq_false hc)
    have e3 : Hid (diE c s = 2) := Lib.hid (if_neg hc)
    rw [e.out]
    clear O0 O1 O2
    go_wp2
    go_ret
    exact ⟨ret_int e3.out.symm, G⟩
theorem dist_any (c s : Int) (w : World) (h : (Lit.int .i64 s).wf = true) (hc : 0 ≤ c ∧ c ≤ 1000000) (hp : -1000001 ≤ s ∧ s ≤ -1 ∧ -(s + 1) < c) :
    Calls Try.prog 20 #[rfV c s] w (RetG (.int .i64 (diN c s)) w) := by
  have H := Lib.hid h
  have G : Grew w (w.alloc (.cells #[.int .i64 c, .int .i64 s] 40)) := (Grew.refl _).alloc _
  have e := Lib.hid (show c - -(s + 1) = diN c s from by rw [diN, if_pos hc, if_pos hp]; omega)
  have hwr : IntKind.i64.wrap (c - -(s + 1)) = c - -(s + 1) := IntWalk.i64_in _ (by omega)
  obtain ⟨q, hq⟩ : ∃ q, -(s + 1) = q := ⟨_, rfl⟩
  rw [hq] at e hwr
  have HQ := Lib.hid hq
  clear hq h hc hp
  go_enter Try.func20, Try.ntmps20
  go_wp2
  go_quiet ((go_at_call 18; exact Calls.quiet_of_same ((mirrored_any _ _ H.out).mono fun e w' h => ⟨by rw [h.1, HQ.out], h.2.symm⟩)))
  go_wp2
  go_ret
  exact ⟨ret_int e.out, G.drewN _⟩
end Go.Proofs.Ytjbkdbkiboonpaa
