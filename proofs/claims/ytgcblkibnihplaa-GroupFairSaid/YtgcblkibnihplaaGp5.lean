/- The program's groups (layer 11): Divide. -/
import Derived.Test.YtgcblkibnihplaaGp4
namespace Go.Mine
open Go Go.RowKit
theorem itD_out {E C : Nat → Int} {m : Nat} (hEC : ∀ i, i < m → E i ≤ C i) : ∀ n i, m ≤ i → itD E C m n i = 0
  | 0, _, _ => rfl
  | n + 1, i, hi => by
    have ih := itD_out hEC n i hi
    rw [itD_nx]
    unfold nxD
    rcases stpD_is (o := itD E C m n) hEC with ⟨b, h1, hb, -⟩ | ⟨b, h1, hb, -⟩ | ⟨h1, -⟩
    · rw [h1]; show incD _ b i = 0; unfold incD; rw [if_neg (by omega)]; exact ih
    · rw [h1]; show incD _ b i = 0; unfold incD; rw [if_neg (by omega)]; exact ih
    · rw [h1]; exact ih
/-- How many frames are taken from each group. -/
def divD (L : List Gp) (n : Nat) : Nat → Int := itD (excF L) (chgF L) L.length n
theorem divD_b {L : List Gp} (h : okG L = true) (n : Nat) : ∀ i, i < 4 → 0 ≤ divD L n i ∧ divD L n i ≤ 64 := fun i _ => by
  by_cases hi : i < L.length
  · have h1 := (itD_inv (exc_ok h) n).lo i hi
    have h2 := exc_64 h i hi
    exact ⟨h1.1, Int.le_trans h1.2 h2⟩
  · unfold divD
    rw [itD_out (fun i hi => (exc_ok h i hi).2) n i (by omega)]
    omega
theorem divD_step {L : List Gp} (h : okG L = true) (n : Nat) : (nxD (excF L) (chgF L) L.length (divD L n) = divD L n ∧ (∀ k, divD L (n + k) = divD L n)) ∨
    ∃ b, b < 4 ∧ nxD (excF L) (chgF L) L.length (divD L n) = incD (divD L n) b := by
  have h4 := (okG_iff.1 h).1.2
  rcases stpD_is (o := divD L n) (fun i hi => (exc_ok h i hi).2) with ⟨b, h1, hb, -⟩ | ⟨b, h1, hb, -⟩ | ⟨h1, -⟩
  · exact .inr ⟨b, by omega, by unfold nxD; rw [h1]⟩
  · exact .inr ⟨b, by omega, by unfold nxD; rw [h1]⟩
  · exact .inl ⟨by unfold nxD; rw [h1], fun k => itD_stop h1 k⟩
end Go.Mine
namespace Go.Proofs.Ytgcblkibnihplaa
open Go.RowKit Go.Mine

theorem eqPc (x y : Nat → Int) (w : World) : (Op.equalIn 10000 47 (pcV x) (pcV y)).run Try.prog w = .ok (decide (x 0 = y 0 ∧ x 1 = y 1 ∧ x 2 = y 2 ∧ x 3 = y 3)) w := by
  have u3 := Try.underlying3
  have z3 : ∀ w, (sizeOf 3).run Try.prog w = .ok 1 w := fun w => by kernel_rfl
  have a3 : ∀ w, (isAgg 3).run Try.prog w = .ok false w := fun w => by kernel_rfl
  rw [show (10000 : Nat) = 9999 + 1 from rfl, Op.equalIn]
  simp only [Sem.run_bind, run_underlying Try.underlying47, Result.andThen_ok]
  simp only [Std.Legacy.Range.forIn_eq_forIn_range', Std.Legacy.Range.size, Nat.sub_zero, Nat.add_sub_cancel, Nat.div_one, List.range'_succ, List.range'_zero, List.forIn_cons, List.forIn_nil]
  go_simp
  by_cases h1 : x 0 = y 0 <;> by_cases h2 : x 1 = y 1 <;> by_cases h3 : x 2 = y 2 <;> by_cases h4 : x 3 = y 3 <;> simp [h1, h2, h3, h4]
theorem eqPc_t (x : Nat → Int) (w : World) : (Op.equalIn 10000 47 (pcV x) (pcV x)).run Try.prog w = .ok true w := by rw [eqPc]; simp
theorem eqPc_f {x : Nat → Int} {b : Nat} (hb : b < 4) (w : World) : (Op.equalIn 10000 47 (pcV (incD x b)) (pcV x)).run Try.prog w = .ok false w := by
  rw [eqPc]
  have e : decide (incD x b 0 = x 0 ∧ incD x b 1 = x 1 ∧ incD x b 2 = x 2 ∧ incD x b 3 = x 3) = false := decide_eq_false (by
    rintro ⟨h0, h1, h2, h3⟩
    unfold incD at h0 h1 h2 h3
    rcases (show b = 0 ∨ b = 1 ∨ b = 2 ∨ b = 3 by omega) with rfl | rfl | rfl | rfl
    · rw [if_pos rfl] at h0; omega
    · rw [if_pos rfl] at h1; omega
    · rw [if_pos rfl] at h2; omega
    · rw [if_pos rfl] at h3; omega)
  rw [e]
/-- What is divided, as a slice of the call's own. -/
def RetDv (o : Nat → Int) (m : Nat) (w : World) (e : Ending) (w' : World) : Prop := ∃ v, e = .returned v ∧ RdA w' w.heap.size v o m ∧ Grew w w'
/-- Nothing is divided. -/
theorem divide_no {B : Nat} {v : Value} {L : List Gp} {k : Int} {w : World} (h : RowE 33 3 encG w B v L) (hs : L.length ≤ 1000) (hok : okG L = false) : Calls Try.prog 9 #[v, .int .i64 k] w (RetG (.slice none 0 0) w) := by
  go_enter Try.func9, Try.ntmps9
  go_wp2_with fail
  with_reducible refine (check_p h hs hok).mono ?_
  rintro e w1 ⟨rfl, g1⟩
  go_wp2
  go_ret
  exact ⟨rfl, g1⟩
set_option maxRecDepth 100000 in
set_option maxHeartbeats 4000000 in
theorem divide_p {B : Nat} {v : Value} {L : List Gp} {k : Nat} {w : World} (h : RowE 33 3 encG w B v L) (hok : okG L = true) (hk : k ≤ 1000) : Calls Try.prog 9 #[v, .int .i64 k] w (RetDv (divD L k) L.length w) := by
  have hl4 := (okG_iff.1 hok).1.2
  have hl1 := (okG_iff.1 hok).1.1
  have HC := Lib.hid (check_p h (by omega) hok)
  obtain ⟨a, c, rfl, -⟩ := h.gps
  obtain ⟨m, hm⟩ : ∃ m, L.length = m := ⟨_, rfl⟩
  have HM := Lib.hid hm
  have HOK := Lib.hid hok
  rw [hm] at h hl4 hl1 HC ⊢
  have HH := Lib.hid h
  have hk0 : (0 : Int) ≤ (k : Int) := by omega
  have hm0 : (0 : Int) ≤ (m : Int) := by omega
  have hm4 : (m : Int) ≤ 4 := by omega
  clear h hm hok
  go_enter Try.func9, Try.ntmps9
  go_wp2_with fail
  with_reducible refine HC.out.mono ?_
  rintro e w1 ⟨rfl, g1⟩
  have HH1 := Lib.hid (HH.out.grew g1)
  have HG1 := Lib.hid g1
  clear HC HH g1
  go_wp2_with fail
  go_loopw [15] (fun iv wr => ∃ i : Nat, iv = .int .i64 i ∧ i ≤ k ∧ Own wr w1.heap.size 47 (pcA (divD L i)) ∧ Grew w1 wr) (fun iv _ => k - (intOf iv).toNat)
  case atStart => exact ⟨0, rfl, by omega, Own.new w1 47 (pcA fun _ => 0), (Grew.refl _).alloc _⟩
  case round =>
    obtain ⟨i, rfl, hi, O, G⟩ := hrel
    obtain ⟨wo, rfl⟩ : ∃ wo : World, wo = wr := ⟨_, rfl⟩
    have HG := Lib.hid G
    have l_O := O.lt
    by_cases hlt : i < k
    · have HB := Lib.hid (divD_b HOK.out i)
      have hD : divD L (i + 1) = nxD (excF L) (chgF L) L.length (divD L i) := itD_nx _ _ _ _
      obtain ⟨p0, p1, p2, p3, -, -, -, -⟩ := O.four
      have HO := Lib.hid O
      have hi1 : (i : Int) < (k : Int) := by omega
      clear G O
      rcases divD_step HOK.out i with ⟨h1, h2⟩ | ⟨b, hb, h1⟩
      · have HD := Lib.hid h1
        have HST := Lib.hid (by have := h2 (k - i); rwa [show i + (k - i) = k by omega] at this : divD L k = divD L i)
        clear h1 h2 hD
        generalize divD L i = o at *
        go_wp2_with fail
        with_reducible refine (more_p ((HH1.out.grew HG.out)) HOK.out HB.out).mono ?_
        rintro e w2 ⟨rfl, g2⟩
        rw [HD.out]
        have O2 := HO.out.grew g2
        have G2 := HG.out.trans g2
        clear p0 p1 p2 p3 g2 HO HG
        obtain ⟨p0, p1, p2, p3, q0, q1, q2, q3⟩ := O2.four
        have l_O2 := O2.lt
        have heq := eqPc_t o
        go_wp2
        go_ret
        have O3 := O2.alloc (.cells (pcA o) 47)
        have G3 := HG1.out.trans (G2.alloc (.cells (pcA o) 47))
        rw [HST.out]
        exact ⟨_, rfl, ⟨w1.heap.size, _, rfl, HG1.out.size, O3.lt, fun j hj => (O3.cell j).trans (pc_at (by omega))⟩, G3⟩
      · have HD := Lib.hid (show divD L (i + 1) = incD (divD L i) b by rw [hD]; exact h1)
        have HD1 := Lib.hid h1
        clear h1 hD
        generalize hg1 : divD L (i + 1) = o1 at *
        have HG1' := Lib.hid hg1
        clear hg1
        generalize divD L i = o at *
        go_wp2_with fail
        with_reducible refine (more_p ((HH1.out.grew HG.out)) HOK.out HB.out).mono ?_
        rintro e w2 ⟨rfl, g2⟩
        rw [HD1.out]
        have O2 := HO.out.grew g2
        have G2 := HG.out.trans g2
        clear p0 p1 p2 p3 g2 HO HG
        obtain ⟨p0, p1, p2, p3, q0, q1, q2, q3⟩ := O2.four
        have l_O2 := O2.lt
        have heq := eqPc_f (x := o) hb
        obtain ⟨u, hu⟩ : ∃ u, incD o b = u := ⟨_, rfl⟩
        rw [hu] at heq HD ⊢
        have HD2 := HD.out
        subst HD2
        clear hu
        go_wp2
        obtain ⟨O3, G3⟩ := pc_out (o := o1) O2 G2 (Nat.le_refl _)
        exact ⟨⟨i + 1, by go_num, by omega, by rw [HG1'.out]; exact O3.alloc _, G3.alloc _⟩, by simp [intOf] <;> omega⟩
    · obtain rfl : i = k := by omega
      have HO := Lib.hid O
      obtain ⟨p0, p1, p2, p3, -, -, -, -⟩ := O.four
      clear O G
      go_wp2
      go_ret
      exact ⟨_, rfl, ⟨w1.heap.size, _, rfl, HG1.out.size, HO.out.lt, fun j hj => (HO.out.cell j).trans (pc_at (by omega))⟩, HG1.out.trans HG.out⟩
end Go.Proofs.Ytgcblkibnihplaa
