/- The program's Check and small functions (layer 8): contracts. -/
import Derived.Test.YteaofieijginhaaLp3
namespace Go.Proofs.Yteaofieijginhaa
open Go.RowKit Go.Mine

/-- The references are integers of the machine. -/
def WfR (x : Lr) : Prop := ∀ y ∈ x.r, (Lit.int .i64 y).wf = true
theorem wf_ok {x : Lr} (h : OkP x) : WfR x := fun y hy => by
  have := h.1 y (h.2.2.1 y hy)
  exact WalkArith.wf_i64 (by omega)
def RetTv (r : Bool) (f : Int → Bool) (L : List Int) (b n : Nat) (w : World) (e : Ending) (w' : World) : Prop := e = .returned (.bool r) ∧ w.grownBy w' (some b) ∧ (r = true → BS w' b (n + L.length) (fun y => f y || decide (y ∈ L)))
theorem takes_v {r : Bool} {f : Int → Bool} {L : List Int} {B : Nat} (b n : Nat) (v : Value) (w : World) (S : BS w b n f) (R : RwI w B v L) (hl : L.length ≤ 10000) (hn : n ≤ 10000) (hvb : v.ownBlock ≠ some b) (h : tkB f L = r) :
    Calls Try.prog 44 #[.map (some b), v] w (RetTv r f L b n w) := by
  subst h
  exact takes_any b n v w S R hl hn hvb
theorem LrR.lt {w : World} {B : Nat} {va vi vr : Value} {x : Lr} (h : LrR w B va vi vr x) : (∀ k, va.ownBlock = some k → k < w.heap.size) ∧ (∀ k, vi.ownBlock = some k → k < w.heap.size) ∧ ∀ k, vr.ownBlock = some k → k < w.heap.size := ⟨h.a.lt, h.i.lt, h.r.lt⟩
set_option maxHeartbeats 1000000 in
theorem pchk_any {B : Nat} (va vi vr : Value) (x : Lr) (w : World) (R : LrR w B va vi vr x) (hs : SmP x) (hw : WfR x) : Calls Try.prog 18 #[lruV va vi vr] w (RetG (.bool (okB x)) w) := by
  obtain ⟨sx, hsx⟩ : ∃ sx, w.heap.size = sx := ⟨_, rfl⟩
  have hmm := @run_makeMap Try.prog
  have K := ((Grew.refl w).alloc (.cells #[va, vi, vr] 27)).alloc (.map #[] 0)
  have X : Own ((w.alloc (.cells #[va, vi, vr] 27)).alloc (.map #[] 0)) sx 27 #[va, vi, vr] := Own.alloc (hsx ▸ Own.new w 27 #[va, vi, vr]) _
  have S0 : BS ((w.alloc (.cells #[va, vi, vr] 27)).alloc (.map #[] 0)) (sx + 1) 0 f0B := ⟨0, by have := BSet.made (w.alloc (.cells #[va, vi, vr] 27)) Try.prog 3 4; rw [World.size_alloc, hsx] at this; exact this⟩
  have HS := Lib.hid hs
  have HR := Lib.hid R
  have HW := Lib.hid hw
  obtain ⟨l1, l2, l3⟩ := R.lt
  have HN1 := Lib.hid (show va.ownBlock ≠ some (sx + 1) from fun h => by have := l1 _ h; omega)
  have HN2 := Lib.hid (show vi.ownBlock ≠ some (sx + 1) from fun h => by have := l2 _ h; omega)
  have HOK := Lib.hid (ok_three x)
  obtain ⟨x0, x1, x2, x3, x4, x5⟩ := X.three
  have HS0 := Lib.hid S0
  clear hs R hw l1 l2 l3 S0
  go_enter Try.func18, Try.ntmps18
  go_upto_region 2 with fail
  try rw [hsx]
  generalize hwb : World.alloc (World.alloc w _) _ = wb at *
  clear hwb hmm
  have HK := Lib.hid K
  have HX := Lib.hid X
  clear K X
  have hzb : w.heap.size ≤ wb.heap.size := HK.out.size
  cases h1 : tkB f0B x.a
  · have HB : Hid (okB x = false) := Lib.hid (by cases hb : okB x; · rfl
                                                 · have := (HOK.out.1 hb).1; rw [h1] at this; cases this)
    have H1 := Lib.hid h1
    clear h1
    go_wp2_with fail
    with_reducible refine (takes_v _ _ _ _ HS0.out (HR.out.grew HK.out).a (by have := HS.out.a; omega) (by omega) HN1.out H1.out).mono ?_
    rintro e w1 ⟨rfl, G1, -⟩
    have K1 := HK.out.keptA G1 (B := sx + 1) (fun y e => by injection e with e <;> omega) (by omega)
    clear G1 x0 x1 x2 x3 x4 x5
    go_wp2
    go_ret
    exact ⟨ret_bool HB.out.symm, K1⟩
  · have H1 := Lib.hid h1
    cases h2 : tkB (inA x.a) x.i
    · have HB : Hid (okB x = false) := Lib.hid (by cases hb : okB x; · rfl
                                                   · have := (HOK.out.1 hb).2.1; rw [h2] at this; cases this)
      have H2 := Lib.hid h2
      clear h1 h2
      go_wp2_with fail
      with_reducible refine (takes_v _ _ _ _ HS0.out (HR.out.grew HK.out).a (by have := HS.out.a; omega) (by omega) HN1.out H1.out).mono ?_
      rintro e w1 ⟨rfl, G1, S1⟩
      have K1 := HK.out.keptA G1 (B := sx + 1) (fun y e => by injection e with e <;> omega) (by omega)
      have X1 := HX.out.past G1 (by omega)
      have HS1 : Hid (BS w1 (sx + 1) (0 + x.a.length) (inA x.a)) := Lib.hid (S1 rfl)
      clear G1 x0 x1 x2 x3 x4 x5 S1
      obtain ⟨x0, x1, x2, x3, x4, x5⟩ := X1.three
      have HK1 := Lib.hid K1
      clear K1
      go_wp2_with fail
      with_reducible refine (takes_v _ _ _ _ HS1.out (HR.out.grew HK1.out).i (by have := HS.out.i; omega) (by have := HS.out.a; omega) HN2.out H2.out).mono ?_
      rintro e w2 ⟨rfl, G2, -⟩
      have K2 := HK1.out.keptA G2 (B := sx + 1) (fun y e => by injection e with e <;> omega) (by omega)
      clear G2 x0 x1 x2 x3 x4 x5 X1
      go_wp2
      go_ret
      exact ⟨ret_bool HB.out.symm, K2⟩
    · have H2 := Lib.hid h2
      have HB : Hid (c2B (x.a ++ x.i) x.r x.r.length = okB x) := Lib.hid (by
        rw [Bool.eq_iff_iff]
        exact ⟨fun h => HOK.out.2 ⟨h1, h2, h⟩, fun h => (HOK.out.1 h).2.2⟩)
      have HP : Hid (∀ y, y ∈ x.a ++ x.i → 1 ≤ y) := Lib.hid (fun y hy => (List.mem_append.1 hy).elim (fun h => ((of_decide_eq_true h1).1 y h).1.1) (fun h => ((of_decide_eq_true h2).1 y h).1.1))
      clear h1 h2
      go_wp2_with fail
      with_reducible refine (takes_v _ _ _ _ HS0.out (HR.out.grew HK.out).a (by have := HS.out.a; omega) (by omega) HN1.out H1.out).mono ?_
      rintro e w1 ⟨rfl, G1, S1⟩
      have K1 := HK.out.keptA G1 (B := sx + 1) (fun y e => by injection e with e <;> omega) (by omega)
      have X1 := HX.out.past G1 (by omega)
      have HS1 : Hid (BS w1 (sx + 1) (0 + x.a.length) (inA x.a)) := Lib.hid (S1 rfl)
      clear G1 x0 x1 x2 x3 x4 x5 S1
      obtain ⟨x0, x1, x2, x3, x4, x5⟩ := X1.three
      have HK1 := Lib.hid K1
      clear K1
      go_wp2_with fail
      with_reducible refine (takes_v _ _ _ _ HS1.out (HR.out.grew HK1.out).i (by have := HS.out.i; omega) (by have := HS.out.a; omega) HN2.out H2.out).mono ?_
      rintro e w2 ⟨rfl, G2, S2⟩
      have K2 := HK1.out.keptA G2 (B := sx + 1) (fun y e => by injection e with e <;> omega) (by omega)
      have X2 := X1.past G2 (by omega)
      have HS2 : Hid (BS w2 (sx + 1) (0 + x.a.length + x.i.length) (inAI x.a x.i)) := Lib.hid (S2 rfl)
      clear G2 x0 x1 x2 x3 x4 x5 X1 S2
      obtain ⟨x0, x1, x2, x3, x4, x5⟩ := X2.three
      have HK2 := Lib.hid K2
      have HI := Lib.hid (fun y => show inAI x.a x.i y = true ↔ y ∈ x.a ++ x.i from by unfold inAI inA f0B; simp)
      clear K2
      have HWy := Lib.hid (show ∀ y ∈ x.r, (Lit.int .i64 y).wf = true from HW.out)
      go_wp2_with fail
      with_reducible refine (asc_any _ _ _ _ HS2.out HI.out HP.out (HR.out.grew HK2.out).r (by have := HS.out.r; omega) HWy.out HB.out).mono ?_
      rintro e w3 ⟨rfl, rfl⟩
      go_wp2
      go_ret
      exact ⟨ret_bool rfl, HK2.out⟩
theorem pchk_v {b : Bool} {B : Nat} (va vi vr : Value) (x : Lr) (w : World) (R : LrR w B va vi vr x) (hs : SmP x) (hw : WfR x) (h : okB x = b) : Calls Try.prog 18 #[lruV va vi vr] w (RetG (.bool b) w) := h ▸ pchk_any va vi vr x w R hs hw
theorem listed_v {b : Bool} {B : Nat} (va vi vr : Value) (x : Lr) (f : Int) (w : World) (R : LrR w B va vi vr x) (hs : SmP x) (h : inB x f = b) : Calls Try.prog 33 #[lruV va vi vr, .int .i64 f] w (RetG (.bool b) w) := by
  have O := Own.new w 27 #[va, vi, vr]
  have k := (Grew.refl w).alloc (.cells #[va, vi, vr] 27)
  have HR := Lib.hid (R.grew k)
  have HS := Lib.hid hs
  have HI := Lib.hid (show (decide (f ∈ x.a) || decide (f ∈ x.i)) = b from h)
  obtain ⟨o0, o1, o2, o3, o4, o5⟩ := O.three
  have HK := Lib.hid k
  clear R hs h k
  cases ha : decide (f ∈ x.a)
  · have H2 : Hid (decide (f ∈ x.i) = b) := Lib.hid (by have := HI.out; rwa [ha, Bool.false_or] at this)
    have H1 := Lib.hid ha
    clear ha
    go_enter Try.func33, Try.ntmps33
    go_wp2_with fail
    with_reducible refine (con_v _ _ _ HR.out.a (by have := HS.out.a; omega) H1.out).mono ?_
    rintro e w1 ⟨rfl, rfl⟩
    go_wp2_with fail
    with_reducible refine (con_v _ _ _ HR.out.i (by have := HS.out.i; omega) H2.out).mono ?_
    rintro e w1 ⟨rfl, rfl⟩
    go_wp2
    go_ret
    exact ⟨ret_bool rfl, HK.out⟩
  · have H2 : Hid (true = b) := Lib.hid (by have := HI.out; rwa [ha, Bool.true_or] at this)
    have H1 := Lib.hid ha
    clear ha
    go_enter Try.func33, Try.ntmps33
    go_wp2_with fail
    with_reducible refine (con_v _ _ _ HR.out.a (by have := HS.out.a; omega) H1.out).mono ?_
    rintro e w1 ⟨rfl, rfl⟩
    go_wp2
    go_ret
    exact ⟨ret_bool H2.out, HK.out⟩
theorem refd_v {b : Bool} {B : Nat} (va vi vr : Value) (x : Lr) (f : Int) (w : World) (R : RwI w B vr x.r) (hs : x.r.length ≤ 10000) (h : decide (f ∈ x.r) = b) : Calls Try.prog 40 #[lruV va vi vr, .int .i64 f] w (RetG (.bool b) w) := by
  have O := Own.new w 27 #[va, vi, vr]
  have k := (Grew.refl w).alloc (.cells #[va, vi, vr] 27)
  have HR := Lib.hid (R.grew k)
  obtain ⟨o0, o1, o2, o3, o4, o5⟩ := O.three
  have HK := Lib.hid k
  have H1 := Lib.hid h
  clear R h k
  go_enter Try.func40, Try.ntmps40
  go_wp2_with fail
  with_reducible refine (con_v _ _ _ HR.out (by omega) H1.out).mono ?_
  rintro e w1 ⟨rfl, rfl⟩
  go_wp2
  go_ret
  exact ⟨ret_bool rfl, HK.out⟩
/-- The first error that all functions about one frame have. -/
def cfE (x : Lr) (f : Int) : Int := match okB x with
  | false => 1
  | true => match isF f with
    | false => 2
    | true => 0
theorem chkF_v {z : Int} {B : Nat} (va vi vr : Value) (x : Lr) (f : Int) (w : World) (R : LrR w B va vi vr x) (hs : SmP x) (hw : WfR x) (h : cfE x f = z) : Calls Try.prog 32 #[lruV va vi vr, .int .i64 f] w (RetG (.int .i64 z) w) := by
  have O := Own.new w 27 #[va, vi, vr]
  have k := (Grew.refl w).alloc (.cells #[va, vi, vr] 27)
  have HR := Lib.hid (R.grew k)
  obtain ⟨o0, o1, o2, o3, o4, o5⟩ := O.three
  have HK := Lib.hid k
  have HS := Lib.hid hs
  have HW := Lib.hid hw
  unfold cfE at h
  clear R k hs hw
  cases h0 : okB x
  · rw [h0] at h
    have HZ := Lib.hid h
    have H0 := Lib.hid h0
    clear h h0
    go_enter Try.func32, Try.ntmps32
    go_wp2_with fail
    with_reducible refine (pchk_v _ _ _ _ _ HR.out HS.out HW.out H0.out).mono ?_
    rintro e w1 ⟨rfl, G1⟩
    go_wp2
    go_ret
    exact ⟨ret_int HZ.out, HK.out.trans G1⟩
  · rw [h0] at h
    have H0 := Lib.hid h0
    cases hF : isF f
    all_goals
      rw [hF] at h
      have HZ := Lib.hid h
      have HF := Lib.hid hF
      clear h h0 hF
      go_enter Try.func32, Try.ntmps32
      go_wp2_with fail
      with_reducible refine (pchk_v _ _ _ _ _ HR.out HS.out HW.out H0.out).mono ?_
      rintro e w1 ⟨rfl, G1⟩
      go_wp2_with fail
      with_reducible refine (isFrame_v _ _ HF.out).mono ?_
      rintro e w2 ⟨rfl, rfl⟩
      go_wp2
      go_ret
      exact ⟨ret_int HZ.out, HK.out.trans G1⟩
theorem remE_is (x : Lr) (f : Int) : remE x f = if cfE x f = 0 then (match inB x f with
  | false => 4
  | true => 0) else cfE x f := by
  unfold remE cfE isF
  cases okB x
  · rfl
  · cases decide (1 ≤ f ∧ f ≤ 64)
    · rfl
    · cases inB x f <;> rfl
theorem addE_is (x : Lr) (f : Int) : addE x f = if cfE x f = 0 then (match inB x f with
  | true => 5
  | false => 0) else cfE x f := by
  unfold addE cfE isF
  cases okB x
  · rfl
  · cases decide (1 ≤ f ∧ f ≤ 64)
    · rfl
    · cases inB x f <;> rfl
theorem chkL_v {z : Int} {B : Nat} (va vi vr : Value) (x : Lr) (f : Int) (w : World) (R : LrR w B va vi vr x) (hs : SmP x) (hw : WfR x) (h : remE x f = z) : Calls Try.prog 37 #[lruV va vi vr, .int .i64 f] w (RetG (.int .i64 z) w) := by
  have O := Own.new w 27 #[va, vi, vr]
  have k := (Grew.refl w).alloc (.cells #[va, vi, vr] 27)
  have HR := Lib.hid (R.grew k)
  obtain ⟨o0, o1, o2, o3, o4, o5⟩ := O.three
  have HK := Lib.hid k
  have HS := Lib.hid hs
  have HW := Lib.hid hw
  rw [remE_is] at h
  have HO := Lib.hid O
  clear R k hs hw O
  obtain ⟨c, hc⟩ : ∃ c, cfE x f = c := ⟨_, rfl⟩
  rw [hc] at h
  have HC := Lib.hid hc
  clear hc
  by_cases c0 : c = 0
  · subst c0
    rw [if_pos rfl] at h
    cases hi : inB x f
    all_goals
      rw [hi] at h
      have HZ := Lib.hid h
      have HI := Lib.hid hi
      clear h hi
      go_enter Try.func37, Try.ntmps37
      go_wp2_with fail
      with_reducible refine (chkF_v _ _ _ _ _ _ HR.out HS.out HW.out HC.out).mono ?_
      rintro e w1 ⟨rfl, G1⟩
      have HG1 := Lib.hid G1
      clear G1 o0 o1 o2 o3 o4 o5
      obtain ⟨o0, o1, o2, o3, o4, o5⟩ := (HO.out.grew HG1.out).three
      go_wp2_with fail
      with_reducible refine (listed_v _ _ _ _ _ _ (HR.out.grew HG1.out) HS.out HI.out).mono ?_
      rintro e w2 ⟨rfl, G2⟩
      go_wp2
      go_ret
      exact ⟨ret_int HZ.out, (HK.out.trans HG1.out).trans G2⟩
  · rw [if_neg c0] at h
    subst h
    have hb : (c == 0) = false := beqF c0
    have hb2 : (c != 0) = true := by simp [c0]
    clear c0
    go_enter Try.func37, Try.ntmps37
    go_wp2_with fail
    with_reducible refine (chkF_v _ _ _ _ _ _ HR.out HS.out HW.out HC.out).mono ?_
    rintro e w1 ⟨rfl, G1⟩
    go_wp2
    go_ret
    exact ⟨rfl, HK.out.trans G1⟩
end Go.Proofs.Yteaofieijginhaa
