/- Package stream: the place of a stream, what matches, the errors of Feed (layer 6): contracts. -/
import Derived.Test.YtfljohgcbihhbaaDoorStC
namespace Go.Proofs.YtfljohgcbihhbaaDoor
open Go.RowKit Go.Mine

set_option maxHeartbeats 1000000 in
theorem index_any (a : Option Addr) (n cp : Nat) (f : Nat → Str) (y : Str) (i : Nat) (w : World) (hn : n ≤ 1000000) (hr : Rd w a n f) (hi : i < n) (he : f i = y) (hne : ∀ j, j < i → ¬y.t = (f j).t) :
    Calls Tryd.prog 42 #[.slice a n cp, strV y] w (RetG (.int .i64 i) w) := by
  have HR := Lib.hid hr
  have HE := Lib.hid he
  have HN := Lib.hid hne
  clear hr he hne
  go_enter Tryd.func42, Tryd.ntmps42
  go_wp2
  have X := Own.new w 29 (csS y)
  have G0 : Grew w (w.alloc (.cells (csS y) 29)) := (Grew.refl w).alloc _
  generalize World.alloc w _ = w1 at *
  go_loopw [8] (fun v wr => ∃ k : Nat, k ≤ i ∧ v = .int .i64 k ∧ Own wr w.heap.size 29 (csS y) ∧ Grew w wr) (fun v _ => n - (intOf v).toNat)
  case atStart => exact ⟨0, by omega, rfl, X, G0⟩
  case round =>
    clear X G0 w1
    obtain ⟨k, hk, rfl, X, G⟩ := hrel
    obtain ⟨g, rfl, hg, he⟩ := HR.out k (by omega)
    obtain ⟨p0, p1, p2, p3, p4, p5⟩ := he.grew G hg
    have hkn : k < n := by omega
    clear he
    obtain ⟨X0, X1, X2, X3, X4, X5⟩ := X.six
    by_cases hlt : k < i
    · have e5 : (y.t == (f k).t) = false := by simpa using HN.out k hlt
      generalize f k = x at *
      go_wp2
      go_quiet (fail)
      go_wp2
      exact ⟨⟨k + 1, by omega, by go_num, X.drewN _, G.drewN _⟩, by simp [intOf]; omega⟩
    · have hki : k = i := by omega
      subst hki
      rw [HE.out] at p0 p1 p2 p3 p4 p5
      go_wp2
      go_quiet (fail)
      go_wp2
      go_ret
      exact ⟨rfl, G.drewN _⟩
def errF (f : Nat → Str) (n : Nat) (a b : Int) : Int := match chkB f n with
  | false => 1
  | true => match accB a b with
    | false => 2
    | true => if lastN f n = 1000000 then 3 else 0
theorem check_v {v : Bool} (a : Option Addr) (n cp : Nat) (f : Nat → Str) (w : World) (hn : n ≤ 1000000) (hc : n ≤ cp) (hcp : cp ≤ maxLen) (hr : Rd w a n f) (hm : ∀ k, k < n → Mild (f k)) (h : chkB f n = v) :
    Calls Tryd.prog 47 #[.slice a n cp] w (RetG (.bool v) w) := h ▸ check_any a n cp f w hn hc hcp hr hm
theorem checkFeed_any (a : Option Addr) (n cp : Nat) (f : Nat → Str) (x y : Int) (w : World) (hn : n ≤ 1000000) (hc : n ≤ cp) (hcp : cp ≤ maxLen) (hr : Rd w a n f) (hm : ∀ k, k < n → Mild (f k)) :
    Calls Tryd.prog 39 #[.slice a n cp, .int .i64 x, .int .i64 y] w (RetG (.int .i64 (errF f n x y)) w) := by
  have HR := Lib.hid hr
  have HM := Lib.hid hm
  clear hr hm
  cases h1 : chkB f n
  case false =>
    have HE := Lib.hid (show errF f n x y = 1 from by simp [errF, h1])
    go_enter Tryd.func39, Tryd.ntmps39
    go_wp2_with fail
    with_reducible refine (check_v _ _ _ _ _ hn hc hcp HR.out HM.out h1).mono ?_
    rintro e w1 ⟨rfl, g1⟩
    go_wp2
    go_ret
    exact ⟨ret_int HE.out.symm, g1⟩
  case true =>
    cases h2 : accB x y
    case false =>
      have HE := Lib.hid (show errF f n x y = 2 from by simp [errF, h1, h2])
      go_enter Tryd.func39, Tryd.ntmps39
      go_wp2_with fail
      with_reducible refine (check_v _ _ _ _ _ hn hc hcp HR.out HM.out h1).mono ?_
      rintro e w1 ⟨rfl, g1⟩
      go_wp2_with (go_at_call 55; (with_reducible refine (accB_v _ _ _ h2).mono ?_); rintro e w2 ⟨rfl, rfl⟩)
      go_ret
      exact ⟨ret_int HE.out.symm, g1⟩
    case true =>
      have HE := Lib.hid (show errF f n x y = if lastN f n = 1000000 then 3 else 0 from by simp [errF, h1, h2])
      cases h3 : lastN f n == 1000000
      all_goals
        go_enter Tryd.func39, Tryd.ntmps39
        go_wp2_with fail
        with_reducible refine (check_v _ _ _ _ _ hn hc hcp HR.out HM.out h1).mono ?_
        rintro e w1 ⟨rfl, g1⟩
        go_wp2_with (go_at_call 55; (with_reducible refine (accB_v _ _ _ h2).mono ?_); rintro e w2 ⟨rfl, rfl⟩)
        with_reducible refine (lastStamp_any _ _ _ _ _ hn (HR.out.grew g1)).mono ?_
        rintro e w2 ⟨rfl, g2⟩
        go_wp2
        go_ret
        exact ⟨ret_int (by rw [HE.out]; simp only [beq_iff_eq, beq_eq_false_iff_ne] at h3; simp [h3]), g1.trans g2⟩
set_option maxHeartbeats 1000000 in
theorem matchingOf_any (a : Option Addr) (n cp : Nat) (f : Nat → Str) (x y : Int) (w : World) (hn : n ≤ 1000) (hr : Rd w a n f) (hm : ∀ k, k < n → Mild (f k)) :
    Calls Tryd.prog 56 #[.slice a n cp, .int .i64 x, .int .i64 y] w (fun e w' => ∃ v, e = .returned v ∧ RowE 29 6 encS w' w.heap.size v (mtL f x y n) ∧ Grew w w') := by
  have HR := Lib.hid hr
  have HM := Lib.hid hm
  clear hr hm
  go_enter Tryd.func56, Tryd.ntmps56
  go_wp2
  go_loopw [7, 14] (fun v i wr => ∃ (k : Nat) (r : Value), r = v ∧ k ≤ n ∧ i = .int .i64 k ∧ RowE 29 6 encS wr w.heap.size r (mtL f x y k) ∧ (mtL f x y k).length ≤ k ∧ Grew w wr) (fun _ i _ => n - (intOf i).toNat)
  case atStart => exact ⟨0, _, rfl, by omega, rfl, RowE.nil _ _, by simp [mtL], Grew.refl _⟩
  case round =>
    obtain ⟨k, r, rfl, hk, rfl, R, hl, G⟩ := hrel
    obtain ⟨wo, rfl⟩ : ∃ wo : World, wo = wr := ⟨_, rfl⟩
    by_cases hlt : k < n
    · obtain ⟨g, rfl, hg, he⟩ := HR.out k hlt
      obtain ⟨p0, p1, p2, p3, p4, p5⟩ := he.grew G hg
      have HMk := Lib.hid (HM.out k hlt)
      have HL := Lib.hid (show mtL f x y (k + 1) = _ from by rw [mtL])
      clear he
      generalize f k = s at *
      have HR2 := Lib.hid R
      have HLn := Lib.hid hl
      clear R hl
      generalize mtL f x y k = M at *
      go_wp2_with fail
      have X := Own.new wo 29 (csS s)
      have G1 : Grew wo (wo.alloc (.cells (csS s) 29)) := (Grew.refl _).alloc _
      clear p0 p1 p2 p3 p4 p5
      cases hb : mtcB s x y
      · rw [hb] at HL
        with_reducible refine (matches_any _ _ _ _ HMk.out).mono ?_
        rw [hb]
        rintro e w2 ⟨rfl, g2⟩
        go_wp2
        exact ⟨⟨k + 1, _, rfl, by omega, by go_num, by rw [HL.out]; exact (((HR2.out.grew G1).grew g2).alloc _), by rw [HL.out]; have := HLn.out; omega, ((G.trans G1).trans g2).alloc _⟩, by simp [intOf]; omega⟩
      · rw [hb] at HL
        with_reducible refine (matches_any _ _ _ _ HMk.out).mono ?_
        rw [hb]
        rintro e w2 ⟨rfl, g2⟩
        have X2 := X.grew g2
        have R2 := Lib.hid ((HR2.out.grew G1).grew g2)
        have G2 := (G.trans G1).trans g2
        have hB := G2.size
        have hlen : M.length < 1000000 := by have := HLn.out; omega
        obtain ⟨X0, X1, X2', X3, X4, X5⟩ := X2.six
        have l_X := X2.lt
        have HA := Lib.hid (R2.out.above)
        go_wp2_with (at_builtin; go_loud (refine wpList_append_row _ rfl (.tmp 26) (.tmp 28) 26 rfl w.heap.size info_S und_S (by decide) (by decide) encS_len r M rfl ((R2.out.alloc _).alloc _) _ _ s rfl (Own.new2 _ _ _ _) encS_one hlen (by decide) (by simp; omega) ?_; intro g3 cap w3 R3 G3 o3))
        exact ⟨⟨k + 1, _, rfl, by omega, by go_num, by rw [HL.out]; exact R3, by rw [HL.out, List.length_append]; have := HLn.out; simp; omega,
          Grew.keptA ((G2.alloc _).alloc _) G3 (fun y e => HA.out y e) (Nat.le_refl _)⟩, by simp [intOf]; omega⟩
    · have hkn : k = n := by omega
      subst hkn
      go_wp2
      go_ret
      exact ⟨_, rfl, R, G⟩
end Go.Proofs.YtfljohgcbihhbaaDoor
