/- slices.ContainsFunc, checkOpen, checkFork, checkUpdate of the program (layer 18). mkdp6.py writes this text. -/
import Derived.Test.YtokijggckiidjaaDp5
namespace Go.Mine
open Go Go.RowKit
/-- The place of the first one that is not 0; -1 if there is none. -/
def RetNz (L : List Int) (w : World) (e : Ending) (w' : World) : Prop := ∃ j : Int, e = .returned (.int .i64 j) ∧ Grew w w' ∧ ((j = -1 ∧ ∀ k, k < L.length → L.getD k 0 = 0) ∨ ∃ m : Nat, j = m ∧ m < L.length ∧ L.getD m 0 ≠ 0)
theorem rtD_x {x : Ds} (h1 : opB x = true) (h2 : atB x = true) : rtD x = true := by rw [rtD_b, h1, h2]; rfl
theorem rtD_1 {x : Ds} (h1 : opB x = false) : rtD x = false := by rw [rtD_b, h1]; rfl
theorem rtD_2 {x : Ds} (h2 : atB x = false) : rtD x = false := by rw [rtD_b, h2, Bool.and_false]
theorem frD_16 {L : List Int} (_ : L.length = 16) : freI L < 0 ↔ ¬frD L < 16 := by
  by_cases hf : frD L < 16
  · rw [freI_lt hf]; omega
  · rw [freI_ge hf]; omega
theorem updD_2b {d : Dd} {n : Nat} {x : Ds} (h : okD d = true) (hn : n < d.o.length) (hr : (d.o.getD n zDs).r ≠ 0) (hx : atB x = false) : updD d n x = (d, 2) := updD_2 h hn hr (fun k => by
  have : atB x = true := by unfold atB; rw [inD_iff.2 k.1, inD_iff.2 k.2]; rfl
  rw [this] at hx; cases hx)
theorem updD_0b {d : Dd} {n : Nat} {x : Ds} (h : okD d = true) (hn : n < d.o.length) (hr : (d.o.getD n zDs).r ≠ 0) (hx : atB x = true) : updD d n x = (upO d n x, 0) := updD_0 h hn hr (by
  unfold atB at hx
  rw [Bool.and_eq_true, inD_iff, inD_iff] at hx
  exact hx)
end Go.Mine
namespace Go.Proofs.Ytokijggckiidjaa
open Go.ChangeShapes Go.WideShapes Go.ChangeAt Go.RowKit Go.Mine
theorem nz_p {x : Int} {b : Bool} {w : World} (hb : (x != 0) = b) : Calls Try.prog 53 #[.int .i64 x] w (RetS (.bool b) w) := by
  have HB := Lib.hid hb
  clear hb
  go_enter Try.func53, Try.ntmps53
  go_wp2
  go_ret
  exact ⟨ret_bool HB.out, rfl⟩
set_option maxHeartbeats 2000000 in
theorem indexNz_p {B : Nat} {v : Value} {L : List Int} {w : World} (h : RdS 1 enc1 w B v L) (hl : L.length ≤ 1000) : Calls Try.prog 54 #[v, .func (.func 53) #[] #[]] w (RetNz L w) := by
  obtain ⟨a, c, rfl, -, -⟩ := h.slice
  obtain ⟨n, hn⟩ : ∃ n, L.length = n := ⟨_, rfl⟩
  have HN := Lib.hid hn
  have HZ := Lib.hid h
  rw [hn] at hl ⊢
  rw [hn] at HZ
  clear h hn
  go_enter Try.func54, Try.ntmps54
  go_wp2_with fail
  go_loopw [8] (fun iv wr => ∃ i : Nat, iv = .int .i64 i ∧ i ≤ n ∧ Hid (∀ j, j < i → L.getD j 0 = 0) ∧ Grew w wr) (fun iv _ => n - (intOf iv).toNat)
  case atStart => exact ⟨0, rfl, by omega, Lib.hid fun j hj => by omega, Grew.refl _⟩
  case round =>
    obtain ⟨i, rfl, hi, HB, G⟩ := hrel
    obtain ⟨wo, rfl⟩ : ∃ wo : World, wo = wr := ⟨_, rfl⟩
    have HG := Lib.hid G
    by_cases hlt : i < n
    · have hiL : i < L.length := by rw [HN.out]; exact hlt
      obtain ⟨g, o, rfl, -, hg, c0⟩ := (HZ.out.grew G).atI hiL
      obtain ⟨y, hy⟩ : ∃ y, L.getD i 0 = y := ⟨_, rfl⟩
      have HY := Lib.hid hy
      rw [hy] at c0
      have hi0 : (0 : Int) ≤ (i : Int) := by omega
      have hi1 : (i : Int) < (n : Int) := by omega
      clear hy G hiL
      cases hq : (y != 0)
      · have HNX : Hid (∀ j, j < i + 1 → L.getD j 0 = 0) := Lib.hid fun j hj => by
          by_cases e : j = i
          · rw [e, HY.out]; simpa using hq
          · exact HB.out j (by omega)
        have HQ := Lib.hid hq
        clear hq
        go_wp2_with fail
        with_reducible refine (nz_p HQ.out).mono ?_
        rintro e2 w2 ⟨rfl, rfl⟩
        go_wp2_with fail
        go_roundw
        case rel => exact ⟨i + 1, by go_num, by omega, HNX, HG.out⟩
        case measure => simp [intOf]; omega
      · have HQ := Lib.hid hq
        clear hq
        go_wp2_with fail
        with_reducible refine (nz_p HQ.out).mono ?_
        rintro e2 w2 ⟨rfl, rfl⟩
        go_wp2_with fail
        go_ret
        exact ⟨i, rfl, HG.out, .inr ⟨i, rfl, by rw [HN.out]; exact hlt, by rw [HY.out]; simpa using HQ.out⟩⟩
    · obtain rfl : i = n := by omega
      clear G
      go_wp2_with fail
      go_ret
      exact ⟨-1, rfl, HG.out, .inl ⟨rfl, by rw [HN.out]; exact HB.out⟩⟩
theorem contNz_p {B : Nat} {v : Value} {L : List Int} {b : Bool} {w : World} (h : RdS 1 enc1 w B v L) (h16 : L.length = 16) (hb : (!zrD L) = b) : Calls Try.prog 52 #[v, .func (.func 53) #[] #[]] w (RetG (.bool b) w) := by
  have HI := Lib.hid (indexNz_p h (by omega))
  have HB := Lib.hid hb
  have H16 := Lib.hid h16
  clear h hb h16
  go_enter Try.func52, Try.ntmps52
  go_wp2_with fail
  with_reducible refine HI.out.mono ?_
  rintro e9 w1 ⟨j, rfl, g1, hj⟩
  have HG := Lib.hid g1
  rcases hj with ⟨rfl, hk⟩ | ⟨m, rfl, hm, h0⟩
  · have HE : Hid (b = false) := Lib.hid (HB.out.symm.trans (by rw [zrD_iff.2 (fun i hi => hk i (by rw [H16.out]; exact hi))]; rfl))
    clear g1 hk HI
    go_wp2
    go_ret
    exact ⟨ret_bool HE.out.symm, HG.out⟩
  · have HE : Hid (b = true) := Lib.hid (HB.out.symm.trans (by
      cases hz : zrD L
      · rfl
      · exact absurd (zrD_iff.1 hz m (by rw [← H16.out]; exact hm)) h0))
    have hm0 : (0 : Int) ≤ (m : Int) := by omega
    clear g1 hm h0 HI
    go_wp2
    go_ret
    exact ⟨ret_bool HE.out.symm, HG.out⟩
set_option maxHeartbeats 8000000 in
theorem checkOpen_p {B : Nat} {a b : Value} {d : Dd} {p r : Int} {x : Ds} {w : World} (h : DdR w B a b d) (ho : d.o.length ≤ 1000) (ht : d.t.length ≤ 1000) (hx : (opnD d p x).2.2 = r) :
    Calls Try.prog 32 #[.agg #[a, b], .int .i64 p, dsV x] w (RetG (.int .i64 r) w) := by
  obtain ⟨a1, ca, rfl, -, -⟩ := h.o.slice
  obtain ⟨b1, cb, rfl, -, -⟩ := h.t.slice
  obtain ⟨m, hm⟩ : ∃ m, d.o.length = m := ⟨_, rfl⟩
  obtain ⟨N, hN⟩ : ∃ N, d.t.length = N := ⟨_, rfl⟩
  have HM := Lib.hid hm
  have HN := Lib.hid hN
  have HX := Lib.hid hx
  have hol := ho
  have htl := ht
  rw [hm] at h ho ⊢
  rw [hN] at h ht ⊢
  have W0 := FnX.start w 29 34 (x := x) h
  have HW := Lib.hid W0
  obtain ⟨x0, x1, x2, x3⟩ := W0.f.box.two
  obtain ⟨z0, z1, z2, z3, z4⟩ := W0.x.fiveD
  clear h hm hN hx
  obtain ⟨bb, hb⟩ : ∃ bb, okD d = bb := ⟨_, rfl⟩
  have HC := Lib.hid (check_p W0.f.dd hol htl hb)
  have HB := Lib.hid hb
  clear W0 hb hol htl
  go_enter Try.func32, Try.ntmps32
  go_wp2_with fail
  with_reducible refine (HC.out).mono ?_
  rintro e9 v1 ⟨rfl, g1⟩
  clear x0 x1 x2 x3 z0 z1 z2 z3 z4
  replace HW := Lib.hid (HW.out.grew g1)
  obtain ⟨x0, x1, x2, x3⟩ := HW.out.f.box.two
  obtain ⟨z0, z1, z2, z3, z4⟩ := HW.out.x.fiveD
  clear g1
  clear HC
  cases bb
  · skip
    have HE : Hid (r = 1) := Lib.hid (HX.out.symm.trans (by rw [opnD_1 HB.out]))
    go_wp2
    go_ret
    exact ⟨ret_int HE.out.symm, HW.out.f.g⟩
  obtain ⟨b2, hb2⟩ : ∃ b2, inD p 0 ((N : Int) - 1) = b2 := ⟨_, rfl⟩
  have HB2 := Lib.hid hb2
  clear hb2
  go_wp2_with fail
  with_reducible refine (hasProc_p ht HB2.out).mono ?_
  rintro e9 v2 ⟨rfl, g2⟩
  clear x0 x1 x2 x3 z0 z1 z2 z3 z4
  replace HW := Lib.hid (HW.out.grew g2)
  obtain ⟨x0, x1, x2, x3⟩ := HW.out.f.box.two
  obtain ⟨z0, z1, z2, z3, z4⟩ := HW.out.x.fiveD
  clear g2
  cases b2
  · skip
    have HE : Hid (r = 2) := Lib.hid (HX.out.symm.trans (by rw [opnD_2p HB.out (fun k => by rw [HN.out, ← inD_iff, HB2.out] at k; cases k)]))
    go_wp2
    go_ret
    exact ⟨ret_int HE.out.symm, HW.out.f.g⟩
  have HP := inD_iff.1 HB2.out
  obtain ⟨pn, rfl⟩ : ∃ n : Nat, p = n := ⟨p.toNat, by omega⟩
  have hpN : pn < N := by omega
  have hpt : pn < d.t.length := by rw [HN.out]; exact hpN
  have HPT := Lib.hid hpt
  have p4 : (pn : Int) < (N : Int) := by omega
  have p5 : (0 : Int) ≤ (pn : Int) := by omega
  clear HP HB2 hpt
  obtain ⟨b3, hb3⟩ : ∃ b3, opB x = b3 := ⟨_, rfl⟩
  have HB3 := Lib.hid hb3
  clear hb3
  go_wp2_with fail
  with_reducible refine (opens_p HB3.out).mono ?_
  rintro e9 v3 ⟨rfl, g3⟩
  clear x0 x1 x2 x3 z0 z1 z2 z3 z4
  replace HW := Lib.hid (HW.out.grew g3)
  obtain ⟨x0, x1, x2, x3⟩ := HW.out.f.box.two
  obtain ⟨z0, z1, z2, z3, z4⟩ := HW.out.x.fiveD
  clear g3
  cases b3
  · skip
    have HE : Hid (r = 2) := Lib.hid (HX.out.symm.trans (by rw [opnD_2x HB.out (rtD_1 HB3.out)]))
    go_wp2
    go_ret
    exact ⟨ret_int HE.out.symm, HW.out.f.g⟩
  obtain ⟨b4, hb4⟩ : ∃ b4, atB x = b4 := ⟨_, rfl⟩
  have HB4 := Lib.hid hb4
  clear hb4
  go_wp2_with fail
  with_reducible refine (isAt_p HB4.out).mono ?_
  rintro e9 v4 ⟨rfl, g4⟩
  clear x0 x1 x2 x3 z0 z1 z2 z3 z4
  replace HW := Lib.hid (HW.out.grew g4)
  obtain ⟨x0, x1, x2, x3⟩ := HW.out.f.box.two
  obtain ⟨z0, z1, z2, z3, z4⟩ := HW.out.x.fiveD
  clear g4
  cases b4
  · skip
    have HE : Hid (r = 2) := Lib.hid (HX.out.symm.trans (by rw [opnD_2x HB.out (rtD_2 HB4.out)]))
    go_wp2
    go_ret
    exact ⟨ret_int HE.out.symm, HW.out.f.g⟩
  have H16 := Lib.hid ((okD_iff.1 HB.out).t pn HPT.out)
  obtain ⟨g, o, ta, tc, rfl, -, hg, hc, RT⟩ := HW.out.f.dd.t.at_ (k := pn) HPT.out
  rw [H16.out] at hc RT
  have HRT := Lib.hid RT
  obtain ⟨fr, hfr⟩ : ∃ fr, freI (d.t.getD pn []) = fr := ⟨_, rfl⟩
  have HFR := Lib.hid hfr
  clear RT hfr
  go_wp2_with fail
  with_reducible refine (free_p HRT.out H16.out HFR.out).mono ?_
  rintro e9 v5 ⟨rfl, g5⟩
  clear x0 x1 x2 x3 z0 z1 z2 z3 z4 hc hg HRT
  replace HW := Lib.hid (HW.out.grew g5)
  clear g5
  by_cases hf : fr < 0
  · have hf1 : decide (fr < 0) = true := decide_eq_true hf
    have HF : Hid (¬frD (d.t.getD pn []) < 16) := Lib.hid ((frD_16 H16.out).1 (by rw [HFR.out]; exact hf))
    clear hf
    have HE : Hid (r = 3) := Lib.hid (HX.out.symm.trans (by rw [opnD_3 HB.out HPT.out (rtD_x HB3.out HB4.out) HF.out]))
    go_wp2
    go_ret
    exact ⟨ret_int HE.out.symm, HW.out.f.g⟩
  have hf1 : decide (fr < 0) = false := decide_eq_false hf
  have HF : Hid (frD (d.t.getD pn []) < 16) := Lib.hid (Decidable.of_not_not (fun k => hf (by rw [← HFR.out]; exact (frD_16 H16.out).2 k)))
  clear hf
  have HE : Hid (r = 0) := Lib.hid (HX.out.symm.trans (by rw [opnD_0 HB.out HPT.out (rtD_x HB3.out HB4.out) HF.out]))
  go_wp2
  go_ret
  exact ⟨ret_int HE.out.symm, HW.out.f.g⟩
set_option maxHeartbeats 8000000 in
theorem checkFork_p {B : Nat} {a b : Value} {d : Dd} {p q r : Int} {w : World} (h : DdR w B a b d) (ho : d.o.length ≤ 1000) (ht : d.t.length ≤ 1000) (hx : (frkD d p q).2 = r) :
    Calls Try.prog 39 #[.agg #[a, b], .int .i64 p, .int .i64 q] w (RetG (.int .i64 r) w) := by
  obtain ⟨a1, ca, rfl, -, -⟩ := h.o.slice
  obtain ⟨b1, cb, rfl, -, -⟩ := h.t.slice
  obtain ⟨m, hm⟩ : ∃ m, d.o.length = m := ⟨_, rfl⟩
  obtain ⟨N, hN⟩ : ∃ N, d.t.length = N := ⟨_, rfl⟩
  have HM := Lib.hid hm
  have HN := Lib.hid hN
  have HX := Lib.hid hx
  have hol := ho
  have htl := ht
  rw [hm] at h ho ⊢
  rw [hN] at h ht ⊢
  have W0 := FnW.start w 29 h
  have HW := Lib.hid W0
  obtain ⟨x0, x1, x2, x3⟩ := W0.box.two
  clear h hm hN hx
  obtain ⟨bb, hb⟩ : ∃ bb, okD d = bb := ⟨_, rfl⟩
  have HC := Lib.hid (check_p W0.dd hol htl hb)
  have HB := Lib.hid hb
  clear W0 hb hol htl
  go_enter Try.func39, Try.ntmps39
  go_wp2_with fail
  with_reducible refine (HC.out).mono ?_
  rintro e9 v1 ⟨rfl, g1⟩
  clear x0 x1 x2 x3
  replace HW := Lib.hid (HW.out.grew g1)
  obtain ⟨x0, x1, x2, x3⟩ := HW.out.box.two
  clear g1
  clear HC
  cases bb
  · skip
    have HE : Hid (r = 1) := Lib.hid (HX.out.symm.trans (by rw [frkD_1 HB.out]))
    go_wp2
    go_ret
    exact ⟨ret_int HE.out.symm, HW.out.g⟩
  obtain ⟨b2, hb2⟩ : ∃ b2, inD p 0 ((N : Int) - 1) = b2 := ⟨_, rfl⟩
  have HB2 := Lib.hid hb2
  clear hb2
  go_wp2_with fail
  with_reducible refine (hasProc_p ht HB2.out).mono ?_
  rintro e9 v2 ⟨rfl, g2⟩
  clear x0 x1 x2 x3
  replace HW := Lib.hid (HW.out.grew g2)
  obtain ⟨x0, x1, x2, x3⟩ := HW.out.box.two
  clear g2
  cases b2
  · skip
    have HE : Hid (r = 2) := Lib.hid (HX.out.symm.trans (by rw [frkD_2 HB.out (fun k => by have k := k.1; rw [HN.out, ← inD_iff, HB2.out] at k; cases k)]))
    go_wp2
    go_ret
    exact ⟨ret_int HE.out.symm, HW.out.g⟩
  obtain ⟨b3, hb3⟩ : ∃ b3, inD q 0 ((N : Int) - 1) = b3 := ⟨_, rfl⟩
  have HB3 := Lib.hid hb3
  clear hb3
  go_wp2_with fail
  with_reducible refine (hasProc_p ht HB3.out).mono ?_
  rintro e9 v3 ⟨rfl, g3⟩
  clear x0 x1 x2 x3
  replace HW := Lib.hid (HW.out.grew g3)
  obtain ⟨x0, x1, x2, x3⟩ := HW.out.box.two
  clear g3
  cases b3
  · skip
    have HE : Hid (r = 2) := Lib.hid (HX.out.symm.trans (by rw [frkD_2 HB.out (fun k => by have k := k.2.1; rw [HN.out, ← inD_iff, HB3.out] at k; cases k)]))
    go_wp2
    go_ret
    exact ⟨ret_int HE.out.symm, HW.out.g⟩
  have HP := inD_iff.1 HB2.out
  have HQ := inD_iff.1 HB3.out
  obtain ⟨pn, rfl⟩ : ∃ n : Nat, p = n := ⟨p.toNat, by omega⟩
  obtain ⟨qn, rfl⟩ : ∃ n : Nat, q = n := ⟨q.toNat, by omega⟩
  have hpN : pn < N := by omega
  have hqN : qn < N := by omega
  have HPT : Hid (pn < d.t.length) := Lib.hid (by rw [HN.out]; exact hpN)
  have HQT : Hid (qn < d.t.length) := Lib.hid (by rw [HN.out]; exact hqN)
  have q4 : (qn : Int) < (N : Int) := by omega
  have q5 : (0 : Int) ≤ (qn : Int) := by omega
  clear HP HQ HB2 HB3
  by_cases hpq : pn = qn
  · have HE : Hid (r = 2) := Lib.hid (HX.out.symm.trans (by rw [frkD_2 HB.out (fun k => k.2.2 (by rw [hpq]))]))
    subst hpq
    go_wp2
    go_ret
    exact ⟨ret_int HE.out.symm, HW.out.g⟩
  have hpq1 : ((pn : Int) == (qn : Int)) = false := by simp; omega
  have HPQ : Hid (pn ≠ qn) := Lib.hid hpq
  have H16 := Lib.hid ((okD_iff.1 HB.out).t qn HQT.out)
  obtain ⟨g, o, ta, tc, rfl, -, hg, hc, RT⟩ := HW.out.dd.t.at_ (k := qn) HQT.out
  rw [H16.out] at hc RT
  have HRT := Lib.hid RT
  obtain ⟨bz, hz⟩ : ∃ bz, (!zrD (d.t.getD qn [])) = bz := ⟨_, rfl⟩
  have HZ := Lib.hid hz
  clear RT hz hpq
  go_wp2_with fail
  with_reducible refine (contNz_p HRT.out H16.out HZ.out).mono ?_
  rintro e9 v5 ⟨rfl, g5⟩
  clear x0 x1 x2 x3 hc hg HRT
  replace HW := Lib.hid (HW.out.grew g5)
  clear g5
  cases bz
  rotate_left
  · have HF : Hid (¬∀ i, i < 16 → (d.t.getD qn []).getD i 0 = 0) := Lib.hid (fun k => by have h2 := HZ.out; rw [zrD_iff.2 k] at h2; cases h2)
    have HE : Hid (r = 5) := Lib.hid (HX.out.symm.trans (by rw [frkD_5 HB.out HPT.out HQT.out HPQ.out HF.out]))
    go_wp2
    go_ret
    exact ⟨ret_int HE.out.symm, HW.out.g⟩
  have HF : Hid (∀ i, i < 16 → (d.t.getD qn []).getD i 0 = 0) := Lib.hid (zrD_iff.1 (by
    have h2 := HZ.out
    cases hz : zrD (d.t.getD qn [])
    · rw [hz] at h2; cases h2
    · rfl))
  have HE : Hid (r = 0) := Lib.hid (HX.out.symm.trans (by rw [frkD_0 HB.out HPT.out HQT.out HPQ.out HF.out]))
  go_wp2
  go_ret
  exact ⟨ret_int HE.out.symm, HW.out.g⟩
set_option maxHeartbeats 8000000 in
theorem checkUpdate_p {B : Nat} {a b : Value} {d : Dd} {n r : Int} {x : Ds} {w : World} (h : DdR w B a b d) (ho : d.o.length ≤ 1000) (ht : d.t.length ≤ 1000) (hx : (updD d n x).2 = r) :
    Calls Try.prog 41 #[.agg #[a, b], .int .i64 n, dsV x] w (RetG (.int .i64 r) w) := by
  obtain ⟨a1, ca, rfl, -, -⟩ := h.o.slice
  obtain ⟨b1, cb, rfl, -, -⟩ := h.t.slice
  obtain ⟨m, hm⟩ : ∃ m, d.o.length = m := ⟨_, rfl⟩
  obtain ⟨N, hN⟩ : ∃ N, d.t.length = N := ⟨_, rfl⟩
  have HM := Lib.hid hm
  have HN := Lib.hid hN
  have HX := Lib.hid hx
  have hol := ho
  have htl := ht
  rw [hm] at h ho ⊢
  rw [hN] at h ht ⊢
  have W0 := FnX.start w 29 34 (x := x) h
  have HW := Lib.hid W0
  obtain ⟨x0, x1, x2, x3⟩ := W0.f.box.two
  obtain ⟨z0, z1, z2, z3, z4⟩ := W0.x.fiveD
  clear h hm hN hx
  obtain ⟨bb, hb⟩ : ∃ bb, okD d = bb := ⟨_, rfl⟩
  have HC := Lib.hid (check_p W0.f.dd hol htl hb)
  have HB := Lib.hid hb
  clear W0 hb hol htl
  have w1 : IntKind.i64.wrap ((m : Int) - 1) = (m : Int) - 1 := IntWalk.i64_in _ (by omega)
  go_enter Try.func41, Try.ntmps41
  go_wp2_with fail
  with_reducible refine (HC.out).mono ?_
  rintro e9 v1 ⟨rfl, g1⟩
  clear x0 x1 x2 x3 z0 z1 z2 z3 z4
  replace HW := Lib.hid (HW.out.grew g1)
  obtain ⟨x0, x1, x2, x3⟩ := HW.out.f.box.two
  obtain ⟨z0, z1, z2, z3, z4⟩ := HW.out.x.fiveD
  clear g1
  clear HC
  cases bb
  · skip
    have HE : Hid (r = 1) := Lib.hid (HX.out.symm.trans (by rw [updD_1 HB.out]))
    go_wp2
    go_ret
    exact ⟨ret_int HE.out.symm, HW.out.f.g⟩
  cases b2 : inD n 0 ((m : Int) - 1)
  · skip
    have HB2 := Lib.hid b2
    clear b2
    go_wp2_with fail
    with_reducible refine (isFrom_p HB2.out).mono ?_
    rintro e9 v2 ⟨rfl, rfl⟩
    have HE : Hid (r = 4) := Lib.hid (HX.out.symm.trans (by rw [updD_4 HB.out (fun k => by rw [HM.out, ← inD_iff, HB2.out] at k; cases k)]))
    go_wp2
    go_ret
    exact ⟨ret_int HE.out.symm, HW.out.f.g⟩
  have HB2 := Lib.hid b2
  have HP := inD_iff.1 b2
  clear b2
  obtain ⟨k, rfl⟩ : ∃ k : Nat, n = k := ⟨n.toNat, by omega⟩
  have hkm : k < m := by omega
  have k0 : (0 : Int) ≤ (k : Int) := by omega
  have k1 : (k : Int) < (m : Int) := by omega
  have HKO : Hid (k < d.o.length) := Lib.hid (by rw [HM.out]; exact hkm)
  clear HP
  obtain ⟨go, oo, rfl, -, hgo, c0, c1, c2, c3, c4⟩ := HW.out.f.dd.o.atD HKO.out
  obtain ⟨y, hy⟩ : ∃ y, d.o.getD k zDs = y := ⟨_, rfl⟩
  have HY := Lib.hid hy
  rw [hy] at c0 c1 c2 c3 c4
  clear hy
  by_cases hr : y.r = 0
  · have hr1 : (y.r == 0) = true := by simpa using hr
    have HR : Hid ((d.o.getD k zDs).r = 0) := Lib.hid (by rw [HY.out]; exact hr)
    clear hr
    go_wp2_with fail
    with_reducible refine (isFrom_p HB2.out).mono ?_
    rintro e9 v2 ⟨rfl, rfl⟩
    have HE : Hid (r = 4) := Lib.hid (HX.out.symm.trans (by rw [updD_4r HB.out HR.out]))
    go_wp2
    go_ret
    exact ⟨ret_int HE.out.symm, HW.out.f.g⟩
  have hr1 : (y.r == 0) = false := by simpa using hr
  have HR : Hid ((d.o.getD k zDs).r ≠ 0) := Lib.hid (by rw [HY.out]; exact hr)
  clear hr
  go_wp2_with fail
  with_reducible refine (isFrom_p HB2.out).mono ?_
  rintro e9 v2 ⟨rfl, rfl⟩
  obtain ⟨b4, hb4⟩ : ∃ b4, atB x = b4 := ⟨_, rfl⟩
  have HB4 := Lib.hid hb4
  clear hb4
  go_wp2_with fail
  with_reducible refine (isAt_p HB4.out).mono ?_
  rintro e9 v4 ⟨rfl, g4⟩
  clear x0 x1 x2 x3 z0 z1 z2 z3 z4
  replace HW := Lib.hid (HW.out.grew g4)
  obtain ⟨x0, x1, x2, x3⟩ := HW.out.f.box.two
  obtain ⟨z0, z1, z2, z3, z4⟩ := HW.out.x.fiveD
  clear g4
  cases b4
  · skip
    have HE : Hid (r = 2) := Lib.hid (HX.out.symm.trans (by rw [updD_2b HB.out HKO.out HR.out HB4.out]))
    go_wp2
    go_ret
    exact ⟨ret_int HE.out.symm, HW.out.f.g⟩
  have HE : Hid (r = 0) := Lib.hid (HX.out.symm.trans (by rw [updD_0b HB.out HKO.out HR.out HB4.out]))
  go_wp2
  go_ret
  exact ⟨ret_int HE.out.symm, HW.out.f.g⟩
end Go.Proofs.Ytokijggckiidjaa
