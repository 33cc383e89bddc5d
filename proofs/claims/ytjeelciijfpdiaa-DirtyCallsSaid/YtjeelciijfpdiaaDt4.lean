/- Layer 13: Share of both. -/
import Derived.Test.YtjeelciijfpdiaaDt3
namespace Go.Mine
open Go Go.RowKit
/-- The numbers of a share. -/
structure ShN (x : Pd) (d : Nat) (lim D e1 X s q : Int) : Prop where
  hD : max (lim - 5) 0 = D
  d0 : 0 ≤ D
  d1 : D ≤ 59
  he : x.e.getD d 0 + 1 = e1
  e0 : 0 ≤ x.e.getD d 0
  e2 : x.e.getD d 0 ≤ 1000000
  hX : D * e1 = X
  x0 : 0 ≤ X
  x1 : X ≤ 60000000
  hs : smF x.e x.e.length + (x.e.length : Int) = s
  m0 : 0 ≤ smF x.e x.e.length
  m1 : smF x.e x.e.length ≤ 4000000
  s0 : 1 ≤ s
  s1 : s ≤ 4000004
  hq : ptF x d lim = q
  hd : Int.tdiv X s = q
  q0 : 0 ≤ q
  q1 : q ≤ 60000000
theorem ShN.some {x : Pd} {d : Nat} {lim : Int} (h : OkD x) (hd : d < x.e.length) (hl : lim ≤ 64) : ∃ D e1 X s q, ShN x d lim D e1 X s q := by
  have he := h.ev d hd
  have hm := sm_le h.ev x.e.length (Nat.le_refl _)
  have n1 := h.n1
  have n4 := h.n4
  have hD0 : 0 ≤ max (lim - 5) 0 := by omega
  have hD1 : max (lim - 5) 0 ≤ 59 := by omega
  have hX0 : 0 ≤ max (lim - 5) 0 * (x.e.getD d 0 + 1) := Int.mul_nonneg hD0 (by omega)
  have hX1 : max (lim - 5) 0 * (x.e.getD d 0 + 1) ≤ 60000000 := Int.le_trans (Int.mul_le_mul_of_nonneg_right hD1 (by omega)) (by omega)
  refine ⟨_, _, _, _, _, ⟨rfl, hD0, hD1, rfl, he.1, he.2, rfl, hX0, hX1, rfl, hm.1, by omega, by omega, by omega, rfl, ?_, ?_, ?_⟩⟩
  · exact Int.tdiv_eq_ediv_of_nonneg hX0
  · exact Int.ediv_nonneg hX0 (by omega)
  · exact Int.le_trans (Int.ediv_le_self _ hX0) hX1
end Go.Mine
namespace Go.Proofs.Ytjeelciijfpdiaa
open Go.RowKit Go.Mine

theorem sum_quiet {f : Nat} {args : Array Value} {v : Value} {w : World} (h : Calls Try.prog f args w (RetS v w)) : Calls Try.prog f args w fun e w' => e = .returned v ∧ w' = w := h.mono fun _ _ ⟨x, y⟩ => ⟨x, y.symm⟩
set_option maxHeartbeats 4000000 in
theorem share_p {p : Nat → Prop} {v : Value} {x : Pd} {d lim r : Int} {w : World} (h : PdR w p v x) (hs : x.e.length ≤ 1000) (hr : shF x d lim = r) :
    Calls Try.prog 20 #[v, .int .i64 d, .int .i64 lim] w (RetG (.int .i64 r) w) := by
  have HX := Lib.hid h
  obtain ⟨a, c, rfl, h⟩ := h
  have HR := Lib.hid hr
  clear hr
  obtain ⟨L, P, l⟩ := x
  simp only at h hs HX ⊢
  obtain ⟨n, hn⟩ : ∃ n, L.length = n := ⟨_, rfl⟩
  have HN := Lib.hid hn
  rw [hn] at h HX ⊢
  have HB := Lib.hid (HX.out.grew ((Grew.refl w).alloc (.cells #[.slice a n c, .int .i64 P, .int .i64 l] 27)))
  have HZ := Lib.hid (h.grew ((Grew.refl w).alloc (.cells #[.slice a n c, .int .i64 P, .int .i64 l] 27)))
  have HG := Lib.hid ((Grew.refl w).alloc (.cells #[.slice a n c, .int .i64 P, .int .i64 l] 27))
  have HO := Lib.hid (Own.new w 27 #[.slice a n c, .int .i64 P, .int .i64 l])
  clear h hn HX
  cases h1 : okD ⟨L, P, l⟩
  · have HE : Hid (r = 0) := Lib.hid (by rw [← HR.out]; exact shF_no _ _ _ (.inl h1))
    have H1 := Lib.hid h1
    clear h1 HR
    go_enter Try.func20, Try.ntmps20
    go_wp2_with fail
    with_reducible refine (check_p HB.out hs H1.out).mono ?_
    rintro e w1 ⟨rfl, g1⟩
    have HG1 := Lib.hid (HG.out.trans g1)
    clear g1
    go_wp2
    go_ret
    exact ⟨ret_int HE.out.symm, HG1.out⟩
  · have H1 := Lib.hid h1
    cases h2 : hasD ⟨L, P, l⟩ d
    · have HE : Hid (r = 0) := Lib.hid (by rw [← HR.out]; exact shF_no _ _ _ (.inr (.inl h2)))
      have H2 := Lib.hid h2
      clear h1 h2 HR
      go_enter Try.func20, Try.ntmps20
      go_wp2_with fail
      with_reducible refine (check_p HB.out hs H1.out).mono ?_
      rintro e w1 ⟨rfl, g1⟩
      have HG1 := Lib.hid (HG.out.trans g1)
      have HB1 := Lib.hid (HB.out.grew g1)
      obtain ⟨c0, c1, c2, -⟩ := (HO.out.grew g1).three
      clear g1
      go_wp2_with fail
      with_reducible refine (hasD_p HB1.out hs H2.out).mono ?_
      rintro e w2 ⟨rfl, g2⟩
      have HG2 := Lib.hid (HG1.out.trans g2)
      clear g2
      go_wp2
      go_ret
      exact ⟨ret_int HE.out.symm, HG2.out⟩
    · have H2 := Lib.hid h2
      cases h3 : frB lim 0 64
      · have HE : Hid (r = 0) := Lib.hid (by rw [← HR.out]; exact shF_no _ _ _ (.inr (.inr h3)))
        have H3 := Lib.hid h3
        clear h1 h2 h3 HR
        go_enter Try.func20, Try.ntmps20
        go_wp2_with fail
        with_reducible refine (check_p HB.out hs H1.out).mono ?_
        rintro e w1 ⟨rfl, g1⟩
        have HG1 := Lib.hid (HG.out.trans g1)
        have HB1 := Lib.hid (HB.out.grew g1)
        obtain ⟨c0, c1, c2, -⟩ := (HO.out.grew g1).three
        clear g1
        go_wp2_with fail
        with_reducible refine (hasD_p HB1.out hs H2.out).mono ?_
        rintro e w2 ⟨rfl, g2⟩
        have HG2 := Lib.hid (HG1.out.trans g2)
        clear g2
        go_wp2_with fail
        with_reducible refine (isWithin_p H3.out).mono ?_
        rintro e w3 ⟨rfl, rfl⟩
        go_wp2
        go_ret
        exact ⟨ret_int HE.out.symm, HG2.out⟩
      · have H3 := Lib.hid h3
        obtain ⟨h4, h5⟩ := frB_iff.1 h2
        obtain ⟨h6, h7⟩ := frB_iff.1 h3
        obtain ⟨k, rfl⟩ := Int.eq_ofNat_of_zero_le h4
        have hkn : k < n := by rw [← HN.out]; simp only at h5; omega
        have hkL : k < L.length := by rw [HN.out]; exact hkn
        have hok := okD_iff.1 h1
        obtain ⟨D, e1, X, s, q, hS⟩ := ShN.some (d := k) hok hkL h7
        have HS := Lib.hid hS
        have HE : Hid (r = min (5 + q) lim) := Lib.hid (by rw [← HR.out, shF_yes h1 h2 h3, ← HS.out.hq]; rfl)
        have hn4 : L.length ≤ 4 := hok.n4
        have HC := Lib.hid (fun (w' : World) (a' : Option Addr) (c' : Nat) (h' : RdI w' p a' n L) => sum_p (c := c') h' hn4 hok.ev)
        obtain ⟨m, hm⟩ : ∃ m, smF L L.length = m := ⟨_, rfl⟩
        rw [hm] at HC
        obtain ⟨y, hy⟩ : ∃ y, L.getD k 0 = y := ⟨_, rfl⟩
        have n0 : IntKind.i64.wrap (y + 1) = e1 := by rw [← hy, ← hS.he]; exact IntWalk.i64_in _ (by have := hS.e0; have := hS.e2; simp only at *; omega)
        have n0' : wrap64 (y + 1) = e1 := by rw [← hy, ← hS.he]; exact IntWalk.wrap64_in _ (by have := hS.e0; have := hS.e2; simp only at *; omega)
        have n1 : IntKind.i64.wrap (D * e1) = X := by rw [hS.hX]; exact IntWalk.i64_in _ (by have := hS.x0; have := hS.x1; omega)
        have n1' : wrap64 (D * e1) = X := by rw [hS.hX]; exact IntWalk.wrap64_in _ (by have := hS.x0; have := hS.x1; omega)
        have hms : m + (n : Int) = s := by rw [← hm, ← HN.out]; exact hS.hs
        have n2 : IntKind.i64.wrap (m + (n : Int)) = s := by rw [hms]; exact IntWalk.i64_in _ (by have := hS.s0; have := hS.s1; omega)
        have n2' : wrap64 (m + (n : Int)) = s := by rw [hms]; exact IntWalk.wrap64_in _ (by have := hS.s0; have := hS.s1; omega)
        have s0 := hS.s0
        have hq := hS.hd
        have q0 := hS.q0
        have q1 := hS.q1
        have n3 : IntKind.i64.wrap q = q := IntWalk.i64_in _ (by omega)
        have n3' : wrap64 q = q := IntWalk.wrap64_in _ (by omega)
        have n4 : IntKind.i64.wrap (5 + q) = 5 + q := IntWalk.i64_in _ (by omega)
        have n4' : wrap64 (5 + q) = 5 + q := IntWalk.wrap64_in _ (by omega)
        have HY := Lib.hid hy
        have hD := hS.hD
        clear h1 h2 h3 h4 h5 HR hS hok hn4 hm hy hms
        have hk0 : (0 : Int) ≤ (k : Int) := by omega
        have hk1 : (k : Int) < (n : Int) := by omega
        go_enter Try.func20, Try.ntmps20
        go_wp2_with fail
        with_reducible refine (check_p HB.out hs H1.out).mono ?_
        rintro e w1 ⟨rfl, g1⟩
        have HG1 := Lib.hid (HG.out.trans g1)
        have HB1 := Lib.hid (HB.out.grew g1)
        have HO1 := Lib.hid (HO.out.grew g1)
        have HZ1 := Lib.hid (HZ.out.grew g1)
        obtain ⟨c0, c1, c2, -⟩ := HO1.out.three
        clear g1
        go_wp2_with fail
        with_reducible refine (hasD_p HB1.out hs H2.out).mono ?_
        rintro e w2 ⟨rfl, g2⟩
        have HG2 := Lib.hid (HG1.out.trans g2)
        have HZ2 := Lib.hid (HZ1.out.grew g2)
        have HO2 := Lib.hid (HO1.out.grew g2)
        clear g2 c0 c1 c2 HO1 HZ1
        go_wp2_with fail
        with_reducible refine (isWithin_p H3.out).mono ?_
        rintro e w3 ⟨rfl, rfl⟩
        go_upto_region 4 with fail
        rw [show (if lim - 5 < 0 then 0 else lim - 5) = D from by rw [← hD]; split <;> omega]
        have HCQ := Lib.hid (fun j => sum_quiet (HC.out (w2.drewN j) a c (HZ2.out.keep (q := p) (Nat.le_refl _) (fun _ h _ => h) fun _ _ _ => rfl)))
        obtain ⟨c0, c1, c2, -⟩ := HO2.out.three
        obtain ⟨g, o, rfl, -, hg, d0⟩ := HZ2.out.at_ hkL
        rw [HY.out] at d0
        go_quiet ((go_at_call 30; exact Calls.quiet_of_same (HCQ.out _)))
        go_wp2
        all_goals
          go_ret
          exact ⟨ret_int (by rw [HE.out]; omega), HG2.out.drewN _⟩
set_option maxHeartbeats 4000000 in
theorem share_q {p : Nat → Prop} {v : Value} {x : Pd} {d lim r : Int} {w : World} (h : PdR w p v x) (hs : x.e.length ≤ 1000) (hr : shF x d lim = r) :
    Calls Try.prog 21 #[v, .int .i64 d, .int .i64 lim] w (RetG (.int .i64 r) w) := by
  have HX := Lib.hid h
  obtain ⟨a, c, rfl, h⟩ := h
  have HR := Lib.hid hr
  clear hr
  obtain ⟨L, P, l⟩ := x
  simp only at h hs HX ⊢
  obtain ⟨n, hn⟩ : ∃ n, L.length = n := ⟨_, rfl⟩
  have HN := Lib.hid hn
  rw [hn] at h HX ⊢
  have HB := Lib.hid (HX.out.grew ((Grew.refl w).alloc (.cells #[.slice a n c, .int .i64 P, .int .i64 l] 27)))
  have HZ := Lib.hid (h.grew ((Grew.refl w).alloc (.cells #[.slice a n c, .int .i64 P, .int .i64 l] 27)))
  have HG := Lib.hid ((Grew.refl w).alloc (.cells #[.slice a n c, .int .i64 P, .int .i64 l] 27))
  have HO := Lib.hid (Own.new w 27 #[.slice a n c, .int .i64 P, .int .i64 l])
  clear h hn HX
  cases h1 : okD ⟨L, P, l⟩
  · have HE : Hid (r = 0) := Lib.hid (by rw [← HR.out]; exact shF_no _ _ _ (.inl h1))
    have H1 := Lib.hid h1
    clear h1 HR
    go_enter Try.func21, Try.ntmps21
    go_wp2_with fail
    with_reducible refine (check_q HB.out hs H1.out).mono ?_
    rintro e w1 ⟨rfl, g1⟩
    have HG1 := Lib.hid (HG.out.trans g1)
    clear g1
    go_wp2
    go_ret
    exact ⟨ret_int HE.out.symm, HG1.out⟩
  · have H1 := Lib.hid h1
    cases h2 : hasD ⟨L, P, l⟩ d
    · have HE : Hid (r = 0) := Lib.hid (by rw [← HR.out]; exact shF_no _ _ _ (.inr (.inl h2)))
      have hd : ¬0 ≤ d ∨ (0 ≤ d ∧ ¬d < (n : Int)) := by
        rcases frB_no h2 with h | ⟨h, h'⟩
        · exact .inl h
        · exact .inr ⟨h, by rw [← HN.out]; simp only at h'; omega⟩
      clear h1 h2 HR
      rcases hd with hd | ⟨hd, hd2⟩
      all_goals
        go_enter Try.func21, Try.ntmps21
        go_wp2_with fail
        with_reducible refine (check_q HB.out hs H1.out).mono ?_
        rintro e w1 ⟨rfl, g1⟩
        have HG1 := Lib.hid (HG.out.trans g1)
        obtain ⟨c0, c1, c2, -⟩ := (HO.out.grew g1).three
        clear g1
        go_wp2
        go_ret
        exact ⟨ret_int HE.out.symm, HG1.out⟩
    · obtain ⟨h4, h5⟩ := frB_iff.1 h2
      obtain ⟨k, rfl⟩ := Int.eq_ofNat_of_zero_le h4
      have hkn : k < n := by rw [← HN.out]; simp only at h5; omega
      have hkL : k < L.length := by rw [HN.out]; exact hkn
      have hk0 : (0 : Int) ≤ (k : Int) := by omega
      have hk1 : (k : Int) < (n : Int) := by omega
      cases h3 : frB lim 0 64
      · have HE : Hid (r = 0) := Lib.hid (by rw [← HR.out]; exact shF_no _ _ _ (.inr (.inr h3)))
        have hd := frB_no h3
        clear h1 h2 h3 HR
        rcases hd with hd | ⟨hd, hd2⟩
        all_goals
          go_enter Try.func21, Try.ntmps21
          go_wp2_with fail
          with_reducible refine (check_q HB.out hs H1.out).mono ?_
          rintro e w1 ⟨rfl, g1⟩
          have HG1 := Lib.hid (HG.out.trans g1)
          obtain ⟨c0, c1, c2, -⟩ := (HO.out.grew g1).three
          clear g1
          go_wp2
          go_ret
          exact ⟨ret_int HE.out.symm, HG1.out⟩
      · obtain ⟨h6, h7⟩ := frB_iff.1 h3
        have hok := okD_iff.1 h1
        obtain ⟨D, e1, X, s, q, hS⟩ := ShN.some (d := k) hok hkL h7
        have HS := Lib.hid hS
        have HE : Hid (r = min (5 + q) lim) := Lib.hid (by rw [← HR.out, shF_yes h1 h2 h3, ← HS.out.hq]; rfl)
        obtain ⟨y, hy⟩ : ∃ y, L.getD k 0 = y := ⟨_, rfl⟩
        have n0 : IntKind.i64.wrap (y + 1) = e1 := by rw [← hy, ← hS.he]; exact IntWalk.i64_in _ (by have := hS.e0; have := hS.e2; simp only at *; omega)
        have n0' : wrap64 (y + 1) = e1 := by rw [← hy, ← hS.he]; exact IntWalk.wrap64_in _ (by have := hS.e0; have := hS.e2; simp only at *; omega)
        have n1 : IntKind.i64.wrap (D * e1) = X := by rw [hS.hX]; exact IntWalk.i64_in _ (by have := hS.x0; have := hS.x1; omega)
        have n1' : wrap64 (D * e1) = X := by rw [hS.hX]; exact IntWalk.wrap64_in _ (by have := hS.x0; have := hS.x1; omega)
        obtain ⟨m, hm⟩ : ∃ m, smF L L.length = m := ⟨_, rfl⟩
        have hms : m + (n : Int) = s := by rw [← hm, ← HN.out]; exact hS.hs
        have n2 : IntKind.i64.wrap (m + (n : Int)) = s := by rw [hms]; exact IntWalk.i64_in _ (by have := hS.s0; have := hS.s1; omega)
        have n2' : wrap64 (m + (n : Int)) = s := by rw [hms]; exact IntWalk.wrap64_in _ (by have := hS.s0; have := hS.s1; omega)
        have s0 := hS.s0
        have hq := hS.hd
        have q0 := hS.q0
        have q1 := hS.q1
        have n3 : IntKind.i64.wrap q = q := IntWalk.i64_in _ (by omega)
        have n3' : wrap64 q = q := IntWalk.wrap64_in _ (by omega)
        have n4 : IntKind.i64.wrap (5 + q) = 5 + q := IntWalk.i64_in _ (by omega)
        have n4' : wrap64 (5 + q) = 5 + q := IntWalk.wrap64_in _ (by omega)
        have HY := Lib.hid hy
        have hD := hS.hD
        have HM := Lib.hid hm
        have HSS := Lib.hid (fun k (hk : k < L.length) => sm_s hk)
        have HL := Lib.hid (sm_le hok.ev)
        have HV := Lib.hid hok.ev
        have hn4 : n ≤ 4 := by rw [← HN.out]; exact hok.n4
        clear h1 h2 h3 h4 h5 HR hS hok hm hy hms
        go_enter Try.func21, Try.ntmps21
        go_wp2_with fail
        with_reducible refine (check_q HB.out hs H1.out).mono ?_
        rintro e w1 ⟨rfl, g1⟩
        have HG1 := Lib.hid (HG.out.trans g1)
        have HO1 := Lib.hid (HO.out.grew g1)
        have HZ1 := Lib.hid (HZ.out.grew g1)
        obtain ⟨c0, c1, c2, -⟩ := HO1.out.three
        clear g1
        go_wp2_with fail
        clear c0 c1 c2
        go_loopw [7, 8] (fun sv iv wr => ∃ i : Nat, iv = .int .i64 i ∧ i ≤ n ∧ sv = .int .i64 (smF L i) ∧ Grew w1 wr) (fun _ iv _ => n - (intOf iv).toNat)
        case atStart => exact ⟨0, rfl, by omega, by rw [sm_0], Grew.refl _⟩
        case round =>
          obtain ⟨i, rfl, hi, rfl, G⟩ := hrel
          obtain ⟨wo, rfl⟩ : ∃ wo : World, wo = wr := ⟨_, rfl⟩
          obtain ⟨c0, c1, c2, -⟩ := (HO1.out.grew G).three
          have HG2 := Lib.hid G
          by_cases hlt : i < n
          · have hiL : i < L.length := by rw [HN.out]; exact hlt
            obtain ⟨g, o, rfl, -, hg, e0⟩ := (HZ1.out.grew G).at_ hiL
            have hn := HSS.out i hiL
            have hb := HL.out i (by omega)
            have hy := HV.out i hiL
            obtain ⟨t, ht⟩ : ∃ t, smF L i = t := ⟨_, rfl⟩
            obtain ⟨t2, ht2⟩ : ∃ t2, smF L (i + 1) = t2 := ⟨_, rfl⟩
            rw [ht] at hn hb ⊢
            rw [ht2] at hn
            generalize L.getD i 0 = y at *
            have hi0 : (0 : Int) ≤ (i : Int) := by omega
            have hi1 : (i : Int) < (n : Int) := by omega
            have m1 : IntKind.i64.wrap (t + y) = t2 := (IntWalk.i64_in _ (by omega)).trans hn.symm
            have m2 : wrap64 (t + y) = t2 := (IntWalk.wrap64_in _ (by omega)).trans hn.symm
            have HS2 := Lib.hid ht2
            clear hn hb hy ht ht2 G
            go_wp2
            exact ⟨⟨i + 1, by go_num, by omega, by rw [HS2.out], HG2.out⟩, by simp [intOf] <;> omega⟩
          · obtain rfl : i = n := by omega
            obtain ⟨g, o, rfl, -, hg, d0⟩ := (HZ1.out.grew G).at_ hkL
            rw [HY.out] at d0
            rw [show smF L i = m from by rw [← HM.out, HN.out]]
            clear G
            have hIf : (if lim - 5 < 0 then 0 else lim - 5) = D := by rw [← hD]; split <;> omega
            have z1 : ¬s = 0 := by omega
            have z2 : IntKind.i64.wrap (lim - 5) = lim - 5 := IntWalk.i64_in _ (by omega)
            have HI := Lib.hid hIf
            have HQ := Lib.hid hq
            have H2 := Lib.hid z2
            clear hIf hq z2
            go_upto_region 8 with fail
            go_region_held3 (fun w' => w'.cell? ⟨w.heap.size, 0, none⟩ = some (.slice (some ⟨g, o, none⟩) i c) ∧ w'.cell? ⟨g, o + k, none⟩ = some (.int .i64 y))
              (refine ⟨?_, ?_⟩ <;> (repeat (first | (with_reducible assumption) | (with_reducible refine far_drew ?_))))
              (fail)
            rw [H2.out, HI.out, n1, HQ.out, n3, n4]
            go_wp2
            all_goals
              go_ret
              exact ⟨ret_int (by rw [HE.out]; omega), (HG1.out.trans HG2.out).drew⟩
end Go.Proofs.Ytjeelciijfpdiaa
