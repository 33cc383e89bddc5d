/- Layer 12: the program's Note: count, ticks, renew. -/
import Derived.Test.YtofeeaekdgpmlaaBw1
namespace Go.Proofs.Ytofeeaekdgpmlaa
open Go.RowKit Go.Mine

/-- Nothing is returned; block g holds cs then; nothing else that was there has turned. -/
def RetO (g : Nat) (t : TypeId) (cs : Array Value) (w : World) (e : Ending) (w' : World) : Prop := e = .returned (.tuple #[]) ∧ Own w' g t cs ∧ w.grownBy w' (some g)
theorem count_p {g : Nat} {a s d p D : Int} {w : World} (O : Own w g 41 #[.int .i64 a, .int .i64 s, .int .i64 d]) (d0 : 0 ≤ d) (d1 : d ≤ 256000000) (p0 : 0 ≤ p) (p1 : p ≤ 64) (hD : min (d + p) 256000000 = D) :
    Calls Try.prog 19 #[.pointer (some ⟨g, 0, none⟩), .int .i64 p] w (RetO g 41 #[.int .i64 a, .int .i64 s, .int .i64 D] w) := by
  have n1 := num_dn d0 d1 p0 p1
  have HO := Lib.hid O
  have HD := Lib.hid hD
  obtain ⟨a0, a1, a2, a3, a4, a5⟩ := O.three
  clear O hD
  go_enter Try.func19, Try.ntmps19
  go_wp2
  all_goals
    go_end0
    refine ⟨rfl, ?_, grown_set (grown_refl _ _) (.inl rfl) _⟩
    first
      | (rw [show d + p = D from by rw [← HD.out]; omega]; exact HO.out.set 2 _)
      | (rw [show D = 256000000 from by rw [← HD.out]; omega]; exact HO.out.set 2 _)
theorem ticks_p {g : Nat} {a s d n : Int} {w : World} (O : Own w g 41 #[.int .i64 a, .int .i64 s, .int .i64 d]) (h0 : 0 ≤ s) (h1 : s ≤ n) (h2 : n ≤ 1000000) :
    Calls Try.prog 20 #[.pointer (some ⟨g, 0, none⟩), .int .i64 n] w (RetS (.int .i64 (n - s)) w) := by
  have n1 := num_tk h0 h1 h2
  obtain ⟨a0, a1, a2, a3, a4, a5⟩ := O.three
  clear O
  go_enter Try.func20, Try.ntmps20
  go_wp2
  go_ret
  exact ⟨rfl, rfl⟩
theorem ticks_s {g : Nat} {a s d n : Int} {w : World} (O : Own w g 41 #[.int .i64 a, .int .i64 s, .int .i64 d]) (h0 : 0 ≤ s) (h1 : s ≤ n) (h2 : n ≤ 1000000) :
    Calls Try.prog 20 #[.pointer (some ⟨g, 0, none⟩), .int .i64 n] w fun e w' => e = .returned (.int .i64 (n - s)) ∧ w' = w :=
  (ticks_p O h0 h1 h2).mono fun _ _ ⟨x, y⟩ => ⟨x, y.symm⟩
set_option maxHeartbeats 4000000 in
theorem renew_p {g : Nat} {a s d n A : Int} {w : World} (O : Own w g 41 #[.int .i64 a, .int .i64 s, .int .i64 d]) (a0 : 0 ≤ a) (a1 : a ≤ 256000000) (d0 : 0 ≤ d) (d1 : d ≤ 256000000) (h0 : 0 ≤ s) (h1 : 16 ≤ n - s) (h2 : n ≤ 1000000)
    (hA : min ((3 * a + d * 256 / (n - s)) / 4) 256000000 = A) :
    Calls Try.prog 21 #[.pointer (some ⟨g, 0, none⟩), .int .i64 n] w (RetO g 41 #[.int .i64 A, .int .i64 n, .int .i64 0] w) := by
  have n1 := num_256 d0 d1
  have n2 := num_3 a0 a1
  have HC := Lib.hid (fun k => ticks_s (Own.drewN O k) h0 (by omega) h2)
  have HO := Lib.hid O
  have HA := Lib.hid hA
  obtain ⟨t, ht⟩ : ∃ t, n - s = t := ⟨_, rfl⟩
  rw [ht] at HC HA h1
  obtain ⟨X, hX⟩ : ∃ X, d * 256 = X := ⟨_, rfl⟩
  rw [hX] at n1 HA
  have x0 : 0 ≤ X := by omega
  have x1 : X ≤ 65536000000 := by omega
  have hq : Int.tdiv X t = X / t := Int.tdiv_eq_ediv_of_nonneg x0
  obtain ⟨c0, c1, c2, c3, c4, c5⟩ := O.three
  have HT := Lib.hid ht
  clear O hA ht
  go_enter Try.func21, Try.ntmps21
  go_wp2
  go_quiet ((go_at_call 20; exact Calls.quiet_of_same (HC.out _)))
  obtain ⟨Q, hQ⟩ : ∃ Q, X / t = Q := ⟨_, rfl⟩
  obtain ⟨q0, q1⟩ := quo_le (X := X) x0 h1
  rw [hQ] at q0 q1 HA
  have e1 : wrap64 (X / t) = Q := by rw [hQ]; exact IntWalk.wrap64_in _ (by omega)
  rw [e1]
  clear hq e1 hQ hX
  obtain ⟨Y, hY⟩ : ∃ Y, 3 * a + Q = Y := ⟨_, rfl⟩
  have n3 : IntKind.i64.wrap (3 * a + Q) = Y := by rw [← hY]; exact IntWalk.i64_in _ (by omega)
  rw [hY] at HA
  have y0 : 0 ≤ Y := by omega
  have y1 : Y ≤ 70000000000 := by omega
  have hZ : Int.tdiv Y 4 = Y / 4 := Int.tdiv_eq_ediv_of_nonneg y0
  obtain ⟨Z, hZZ⟩ : ∃ Z, Y / 4 = Z := ⟨_, rfl⟩
  rw [hZZ] at hZ HA
  have z0 : 0 ≤ Z := by omega
  have z1 : Z ≤ 70000000000 := by omega
  have n4 : wrap64 Z = Z := IntWalk.wrap64_in _ (by omega)
  have n5 : IntKind.i64.wrap Z = Z := IntWalk.i64_in _ (by omega)
  clear hY hZZ q0 q1 x0 x1 y0 y1 z0 z1
  go_wp2
  all_goals
    go_end0
    have GE : ∀ u, w.grownBy ((((w.drewN nq).setCell ⟨g, 0, none⟩ u).setCell ⟨g, 2, none⟩ (.int .i64 0)).setCell ⟨g, 1, none⟩ (.int .i64 n)) (some g) := fun u =>
      grown_set (p := ⟨g, 1, none⟩) (grown_set (p := ⟨g, 2, none⟩) (grown_set (p := ⟨g, 0, none⟩) (grown_drewN (grown_refl w _) nq) (.inl rfl) u) (.inl rfl) (.int .i64 0)) (.inl rfl) (.int .i64 n)
    have OE : ∀ u, Own ((((w.drewN nq).setCell ⟨g, 0, none⟩ u).setCell ⟨g, 2, none⟩ (.int .i64 0)).setCell ⟨g, 1, none⟩ (.int .i64 n)) g 41 #[u, .int .i64 n, .int .i64 0] := fun u => (((HO.out.drewN nq).set 0 u).set 2 (.int .i64 0)).set 1 (.int .i64 n)
    first
      | (rw [show A = Z from by rw [← HA.out]; omega]; exact ⟨rfl, OE _, GE _⟩)
      | (rw [show A = 256000000 from by rw [← HA.out]; omega]; exact ⟨rfl, OE _, GE _⟩)
set_option maxHeartbeats 2000000 in
theorem note_p {x y : Me} {n p e : Int} {w : World} (hn : NtR x n p y e) : Calls Try.prog 10 #[meV x, .int .i64 n, .int .i64 p] w (RetG (.tuple #[meV y, .int .i64 e]) w) := by
  obtain ⟨a, s, d⟩ := x
  have O := (Own.new w 28 #[.int .i64 a, .int .i64 s, .int .i64 d])
  have HO := Lib.hid (O.alloc (.cells #[.int .i64 0, .int .i64 0, .int .i64 0] 28))
  have HP := Lib.hid (Own.new2 w (.cells #[.int .i64 a, .int .i64 s, .int .i64 d] 28) 28 #[.int .i64 0, .int .i64 0, .int .i64 0])
  have HG := Lib.hid (((Grew.refl w).alloc (.cells #[.int .i64 a, .int .i64 s, .int .i64 d] 28)).alloc (.cells #[.int .i64 0, .int .i64 0, .int .i64 0] 28))
  have hs1 : w.heap.size ≤ w.heap.size + 1 := Nat.le_succ _
  clear O
  rcases hn with ⟨h1, rfl, rfl⟩ | ⟨h1, h2, rfl, rfl⟩ | ⟨h1, h2, h3, rfl, rfl⟩ | ⟨h1, h2, h3, rfl, rfl⟩
  · have H1 := Lib.hid h1
    clear h1
    go_enter Try.func10, Try.ntmps10
    go_wp2_with fail
    with_reducible refine (check_p H1.out).mono ?_
    rintro e w1 ⟨rfl, g1⟩
    have P1 := HP.out.grew g1
    have O1 := HO.out.grew g1
    obtain ⟨a0, a1, a2, a3, a4, a5⟩ := O1.three
    obtain ⟨c0, c1, c2, c3, c4, c5⟩ := P1.three
    have HP1 := Lib.hid P1
    have HG1 := Lib.hid (HG.out.trans g1)
    clear g1 P1 O1
    go_wp2
    generalize hw : World.setCell (World.setCell (World.setCell w1 _ _) _ _) _ _ = E
    obtain ⟨b0, b1, b2, -⟩ := (HP1.out.store3 hw).three
    refine bodyPost_ret (v := .tuple #[meV ⟨a, s, d⟩, .int .i64 1]) (by simp [results, Try.results10, go_sem, b0, b1, b2]) rfl ⟨rfl, ?_⟩
    exact HG1.out.far3 hw hs1
  · cases h3 : frB n s 1000000
    · have H3 := Lib.hid h3
      clear h2 h3
      have H1 := Lib.hid h1
      clear h1
      go_enter Try.func10, Try.ntmps10
      go_wp2_with fail
      with_reducible refine (check_p H1.out).mono ?_
      rintro e w1 ⟨rfl, g1⟩
      have P1 := HP.out.grew g1
      have O1 := HO.out.grew g1
      obtain ⟨a0, a1, a2, a3, a4, a5⟩ := O1.three
      obtain ⟨c0, c1, c2, c3, c4, c5⟩ := P1.three
      have HP1 := Lib.hid P1
      have HO1 := Lib.hid O1
      have hl0 := O1.lt
      have hl1 := P1.lt
      have HG1 := Lib.hid (HG.out.trans g1)
      clear g1 P1 O1
      go_wp2_with fail
      with_reducible refine (isWithin_p H3.out).mono ?_
      rintro e w2 ⟨rfl, rfl⟩
      go_wp2
      generalize hw : World.setCell (World.setCell (World.setCell w1 _ _) _ _) _ _ = E
      obtain ⟨b0, b1, b2, -⟩ := (HP1.out.store3 hw).three
      refine bodyPost_ret (v := .tuple #[meV ⟨a, s, d⟩, .int .i64 2]) (by simp [results, Try.results10, go_sem, b0, b1, b2]) rfl ⟨rfl, ?_⟩
      exact HG1.out.far3 hw hs1
    · have H3 := Lib.hid h3
      have H4 : Hid (frB p 0 64 = false) := Lib.hid (by have h4 := h2; unfold rgM at h4; simp only [h3, Bool.true_and] at h4; exact h4)
      clear h2 h3
      have H1 := Lib.hid h1
      clear h1
      go_enter Try.func10, Try.ntmps10
      go_wp2_with fail
      with_reducible refine (check_p H1.out).mono ?_
      rintro e w1 ⟨rfl, g1⟩
      have P1 := HP.out.grew g1
      have O1 := HO.out.grew g1
      obtain ⟨a0, a1, a2, a3, a4, a5⟩ := O1.three
      obtain ⟨c0, c1, c2, c3, c4, c5⟩ := P1.three
      have HP1 := Lib.hid P1
      have HO1 := Lib.hid O1
      have hl0 := O1.lt
      have hl1 := P1.lt
      have HG1 := Lib.hid (HG.out.trans g1)
      clear g1 P1 O1
      go_wp2_with fail
      with_reducible refine (isWithin_p H3.out).mono ?_
      rintro e w2 ⟨rfl, rfl⟩
      go_wp2_with fail
      with_reducible refine (isWithin_p H4.out).mono ?_
      rintro e w2 ⟨rfl, rfl⟩
      go_wp2
      generalize hw : World.setCell (World.setCell (World.setCell w1 _ _) _ _) _ _ = E
      obtain ⟨b0, b1, b2, -⟩ := (HP1.out.store3 hw).three
      refine bodyPost_ret (v := .tuple #[meV ⟨a, s, d⟩, .int .i64 2]) (by simp [results, Try.results10, go_sem, b0, b1, b2]) rfl ⟨rfl, ?_⟩
      exact HG1.out.far3 hw hs1
  · have HB : Hid ((0 ≤ a ∧ a ≤ 256000000) ∧ (0 ≤ d ∧ d ≤ 256000000) ∧ (0 ≤ s ∧ s ≤ 1000000)) := Lib.hid (okM_iff.1 h1)
    have h2' := h2
    unfold rgM at h2'
    rw [Bool.and_eq_true] at h2'
    have H3 := Lib.hid h2'.1
    have H4 := Lib.hid h2'.2
    have HN : Hid (s ≤ n ∧ n ≤ 1000000) := Lib.hid (frB_iff.1 h2'.1)
    have HQ : Hid (0 ≤ p ∧ p ≤ 64) := Lib.hid (frB_iff.1 h2'.2)
    simp only at h3
    clear h2 h2'
    have H1 := Lib.hid h1
    clear h1
    go_enter Try.func10, Try.ntmps10
    go_wp2_with fail
    with_reducible refine (check_p H1.out).mono ?_
    rintro e w1 ⟨rfl, g1⟩
    have P1 := HP.out.grew g1
    have O1 := HO.out.grew g1
    obtain ⟨a0, a1, a2, a3, a4, a5⟩ := O1.three
    obtain ⟨c0, c1, c2, c3, c4, c5⟩ := P1.three
    have HP1 := Lib.hid P1
    have HO1 := Lib.hid O1
    have hl0 := O1.lt
    have hl1 := P1.lt
    have HG1 := Lib.hid (HG.out.trans g1)
    clear g1 P1 O1
    go_wp2_with fail
    with_reducible refine (isWithin_p H3.out).mono ?_
    rintro e w2 ⟨rfl, rfl⟩
    go_wp2_with fail
    with_reducible refine (isWithin_p H4.out).mono ?_
    rintro e w2 ⟨rfl, rfl⟩
    have V1 := Own.new w1 41 #[.int .i64 a, .int .i64 s, .int .i64 d]
    have HO2 := Lib.hid (HO1.out.alloc (.cells #[.int .i64 a, .int .i64 s, .int .i64 d] 41))
    have HP2 := Lib.hid (HP1.out.alloc (.cells #[.int .i64 a, .int .i64 s, .int .i64 d] 41))
    have HG2 := Lib.hid (HG1.out.alloc (.cells #[.int .i64 a, .int .i64 s, .int .i64 d] 41))
    have hd : min (d + p) 256000000 = dnM ⟨a, s, d⟩ p := rfl
    obtain ⟨D, hD⟩ : ∃ D, dnM ⟨a, s, d⟩ p = D := ⟨_, rfl⟩
    rw [hD] at hd
    have HD0 : Hid (0 ≤ D ∧ D ≤ 256000000) := Lib.hid (by have := HB.out; have := HQ.out; omega)
    have hcnt := Lib.hid (count_p V1 HB.out.2.1.1 HB.out.2.1.2 HQ.out.1 HQ.out.2 hd)
    clear hd V1
    go_wp2_with fail
    with_reducible refine hcnt.out.mono ?_
    rintro e w2 ⟨rfl, V2, g2⟩
    have O2 := HO2.out.past g2 (by omega)
    have P2 := HP2.out.past g2 (by omega)
    have HG3 := Lib.hid (HG2.out.past g2 HG1.out.size)
    have hl2 := V2.lt
    clear g2 hcnt HG2 HO2 HP2 HO1 HP1 a0 a1 a2 a3 a4 a5 c0 c1 c2 c3 c4 c5
    have HV2 := Lib.hid V2
    go_wp2_with fail
    with_reducible refine (ticks_p HV2.out HB.out.2.2.1 HN.out.1 HN.out.2).mono ?_
    rintro e w3 ⟨rfl, rfl⟩
    have HP3 := Lib.hid P2
    obtain ⟨c0, c1, c2, c3, c4, c5⟩ := P2.three
    obtain ⟨v0, v1, v2, v3, v4, v5⟩ := V2.three
    have HDD := Lib.hid hD
    clear P2 O2 V2 hD
    go_wp2
    rw [HDD.out]
    generalize hw : World.setCell (World.setCell (World.setCell w2 _ _) _ _) _ _ = E
    obtain ⟨b0, b1, b2, -⟩ := (HP3.out.store3 hw).three
    refine bodyPost_ret (v := .tuple #[meV ⟨a, s, D⟩, .int .i64 0]) (by simp [results, Try.results10, go_sem, b0, b1, b2]) rfl ⟨rfl, ?_⟩
    exact HG3.out.far3 hw hs1
  · have HB : Hid ((0 ≤ a ∧ a ≤ 256000000) ∧ (0 ≤ d ∧ d ≤ 256000000) ∧ (0 ≤ s ∧ s ≤ 1000000)) := Lib.hid (okM_iff.1 h1)
    have h2' := h2
    unfold rgM at h2'
    rw [Bool.and_eq_true] at h2'
    have H3 := Lib.hid h2'.1
    have H4 := Lib.hid h2'.2
    have HN : Hid (s ≤ n ∧ n ≤ 1000000) := Lib.hid (frB_iff.1 h2'.1)
    have HQ : Hid (0 ≤ p ∧ p ≤ 64) := Lib.hid (frB_iff.1 h2'.2)
    simp only at h3
    clear h2 h2'
    have H1 := Lib.hid h1
    clear h1
    go_enter Try.func10, Try.ntmps10
    go_wp2_with fail
    with_reducible refine (check_p H1.out).mono ?_
    rintro e w1 ⟨rfl, g1⟩
    have P1 := HP.out.grew g1
    have O1 := HO.out.grew g1
    obtain ⟨a0, a1, a2, a3, a4, a5⟩ := O1.three
    obtain ⟨c0, c1, c2, c3, c4, c5⟩ := P1.three
    have HP1 := Lib.hid P1
    have HO1 := Lib.hid O1
    have hl0 := O1.lt
    have hl1 := P1.lt
    have HG1 := Lib.hid (HG.out.trans g1)
    clear g1 P1 O1
    go_wp2_with fail
    with_reducible refine (isWithin_p H3.out).mono ?_
    rintro e w2 ⟨rfl, rfl⟩
    go_wp2_with fail
    with_reducible refine (isWithin_p H4.out).mono ?_
    rintro e w2 ⟨rfl, rfl⟩
    have V1 := Own.new w1 41 #[.int .i64 a, .int .i64 s, .int .i64 d]
    have HO2 := Lib.hid (HO1.out.alloc (.cells #[.int .i64 a, .int .i64 s, .int .i64 d] 41))
    have HP2 := Lib.hid (HP1.out.alloc (.cells #[.int .i64 a, .int .i64 s, .int .i64 d] 41))
    have HG2 := Lib.hid (HG1.out.alloc (.cells #[.int .i64 a, .int .i64 s, .int .i64 d] 41))
    have hd : min (d + p) 256000000 = dnM ⟨a, s, d⟩ p := rfl
    obtain ⟨D, hD⟩ : ∃ D, dnM ⟨a, s, d⟩ p = D := ⟨_, rfl⟩
    rw [hD] at hd
    have HD0 : Hid (0 ≤ D ∧ D ≤ 256000000) := Lib.hid (by have := HB.out; have := HQ.out; omega)
    have hcnt := Lib.hid (count_p V1 HB.out.2.1.1 HB.out.2.1.2 HQ.out.1 HQ.out.2 hd)
    clear hd V1
    go_wp2_with fail
    with_reducible refine hcnt.out.mono ?_
    rintro e w2 ⟨rfl, V2, g2⟩
    have O2 := HO2.out.past g2 (by omega)
    have P2 := HP2.out.past g2 (by omega)
    have HG3 := Lib.hid (HG2.out.past g2 HG1.out.size)
    have hl2 := V2.lt
    clear g2 hcnt HG2 HO2 HP2 HO1 HP1 a0 a1 a2 a3 a4 a5 c0 c1 c2 c3 c4 c5
    have HV2 := Lib.hid V2
    go_wp2_with fail
    with_reducible refine (ticks_p HV2.out HB.out.2.2.1 HN.out.1 HN.out.2).mono ?_
    rintro e w3 ⟨rfl, rfl⟩
    have HAA : Hid (min ((3 * a + D * 256 / (n - s)) / 4) 256000000 = avM ⟨a, s, d⟩ n p) := Lib.hid (by rw [← hD]; rfl)
    have hren := Lib.hid (renew_p HV2.out HB.out.1.1 HB.out.1.2 HD0.out.1 HD0.out.2 HB.out.2.2.1 h3 HN.out.2 HAA.out)
    clear V2 hD
    go_wp2_with fail
    with_reducible refine hren.out.mono ?_
    rintro e w4 ⟨rfl, V4, g4⟩
    have P4 := P2.past g4 (by omega)
    have HP3 := Lib.hid P4
    have HG4 := Lib.hid (HG3.out.past g4 HG1.out.size)
    obtain ⟨c0, c1, c2, c3, c4, c5⟩ := P4.three
    obtain ⟨v0, v1, v2, v3, v4, v5⟩ := V4.three
    generalize avM ⟨a, s, d⟩ n p = A at *
    clear P2 O2 V4 P4 g4 HG3 hren
    go_wp2
    generalize hw : World.setCell (World.setCell (World.setCell w4 _ _) _ _) _ _ = E
    obtain ⟨b0, b1, b2, -⟩ := (HP3.out.store3 hw).three
    refine bodyPost_ret (v := .tuple #[meV ⟨A, n, 0⟩, .int .i64 0]) (by simp [results, Try.results10, go_sem, b0, b1, b2]) rfl ⟨rfl, ?_⟩
    exact HG4.out.far3 hw hs1
end Go.Proofs.Ytofeeaekdgpmlaa
