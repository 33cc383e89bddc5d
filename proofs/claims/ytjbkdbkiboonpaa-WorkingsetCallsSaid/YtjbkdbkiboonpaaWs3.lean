/- Packages workingset and pagecacheref09 (layer 9): Distance, Activate; the reference; the package is awake. -/
import Derived.Test.YtjbkdbkiboonpaaWs2
namespace Go.Proofs.Ytjbkdbkiboonpaa
open Go.RowKit Go.Mine

theorem distance_any (c s : Int) (w : World) (h : (Lit.int .i64 s).wf = true) : Calls Try.prog 11 #[.int .i64 c, .int .i64 s] w (RetG (.tuple #[.int .i64 (diN c s), .int .i64 (diE c s)]) w) := by
  have H := Lib.hid h
  clear h
  have O0 := Own.new w 40 #[.int .i64 c, .int .i64 s]
  go_enter Try.func11, Try.ntmps11
  go_wp2_with fail
  with_reducible refine (check_any _ _ _ H.out).mono ?_
  rintro e' w1 ⟨rfl, g1⟩
  replace O0 := O0.grew g1
  have G : Grew w w1 := ((Grew.refl _).alloc _).trans g1
  have l0 := O0.lt
  obtain ⟨a0, a1, f0, f1⟩ := O0.two
  clear g1 O0
  by_cases hc : 0 ≤ c ∧ c ≤ 1000000
  · by_cases hp : -1000001 ≤ s ∧ s ≤ -1 ∧ -(s + 1) < c
    · have HC := Lib.hid hc
      have HP := Lib.hid hp
      have e1 := Lib.hid (show diE c s = 0 from by rw [diE, if_pos hc, if_pos hp])
      clear hc hp
      rw [e1.out]
      go_wp2_with fail
      with_reducible refine (dist_any _ _ _ H.out HC.out HP.out).mono ?_
      rintro e' w2 ⟨rfl, g2⟩
      go_wp2
      refine bodyPost_ret (v := .tuple #[.int .i64 (diN c s), .int .i64 0]) (by simp [results, Try.results11, go_sem]) rfl ⟨by rw [e1.out], G.trans g2⟩
    · have e1 := Lib.hid (show diE c s = 1 from by rw [diE, if_pos hc, if_neg hp])
      have e2 := Lib.hid (show diN c s = 0 from by rw [diN, if_pos hc, if_neg hp])
      clear hc hp
      rw [e1.out]
      go_wp2
      refine bodyPost_ret (v := .tuple #[.int .i64 0, .int .i64 1]) (by simp [results, Try.results11, go_sem]) rfl ⟨by rw [e1.out, e2.out], G⟩
  · have e1 := Lib.hid (show diE c s = 2 from by rw [diE, if_neg hc])
    have e2 := Lib.hid (show diN c s = 0 from by rw [diN, if_neg hc])
    clear hc
    rw [e1.out]
    go_wp2
    refine bodyPost_ret (v := .tuple #[.int .i64 0, .int .i64 2]) (by simp [results, Try.results11, go_sem]) rfl ⟨by rw [e1.out, e2.out], G⟩
theorem activate_any (c s a : Int) (w : World) (h : (Lit.int .i64 s).wf = true) : Calls Try.prog 13 #[.int .i64 c, .int .i64 s, .int .i64 a] w (RetG (.bool (acB c s a)) w) := by
  have H := Lib.hid h
  clear h
  go_enter Try.func13, Try.ntmps13
  go_wp2_with fail
  with_reducible refine (distance_any _ _ _ H.out).mono ?_
  rintro e' w1 ⟨rfl, g1⟩
  by_cases hc : 0 ≤ c ∧ c ≤ 1000000
  · by_cases hp : -1000001 ≤ s ∧ s ≤ -1 ∧ -(s + 1) < c
    · have e1 := Lib.hid (show diE c s = 0 from by rw [diE, if_pos hc, if_pos hp])
      have e2 := Lib.hid (show diN c s = c + s + 1 from by rw [diN, if_pos hc, if_pos hp])
      have e3 := Lib.hid (show decide (diN c s ≤ a) = acB c s a from by rw [e2.out]; exact decide_eq_decide.2 ⟨fun h => ⟨hc, hp, h⟩, fun h => h.2.2⟩)
      clear hc hp
      rw [e1.out]
      go_wp2
      go_ret
      exact ⟨ret_bool e3.out, g1⟩
    · have e1 := Lib.hid (show diE c s = 1 from by rw [diE, if_pos hc, if_neg hp])
      have e3 : Hid (false = acB c s a) := Lib.hid (decide_eq_false (fun h => hp h.2.1)).symm
      clear hc hp
      rw [e1.out]
      go_wp2
      go_ret
      exact ⟨ret_bool e3.out, g1⟩
  · have e1 := Lib.hid (show diE c s = 2 from by rw [diE, if_neg hc])
    have e3 : Hid (false = acB c s a) := Lib.hid (decide_eq_false (fun h => hc h.1)).symm
    clear hc
    rw [e1.out]
    go_wp2
    go_ret
    exact ⟨ret_bool e3.out, g1⟩

/-! The reference. -/
theorem qshadow_any (c : Int) (w : World) : Calls Try.prog 8 #[.int .i64 c] w (RetG (.tuple #[.int .i64 (shN c), .int .i64 (shE c)]) w) := by
  by_cases hc : 0 ≤ c ∧ c ≤ 1000000
  · have e1 := Lib.hid (show shN c = -(c + 1) from if_pos hc)
    have e2 := Lib.hid (show shE c = 0 from if_pos hc)
    obtain ⟨h0, h1⟩ := hc
    go_enter Try.func8, Try.ntmps8
    go_wp2
    refine bodyPost_ret (v := .tuple #[.int .i64 (-(c + 1)), .int .i64 0]) (by simp [results, Try.results8, go_sem]) rfl ⟨by rw [e1.out, e2.out], Grew.refl _⟩
  · have e1 := Lib.hid (show shN c = 0 from if_neg hc)
    have e2 := Lib.hid (show shE c = 2 from if_neg hc)
    by_cases h0 : c < 0
    · clear hc
      go_enter Try.func8, Try.ntmps8
      go_wp2
      refine bodyPost_ret (v := .tuple #[.int .i64 0, .int .i64 2]) (by simp [results, Try.results8, go_sem]) rfl ⟨by rw [e1.out, e2.out], Grew.refl _⟩
    · have h1 : 1000000 < c := by omega
      clear hc
      go_enter Try.func8, Try.ntmps8
      go_wp2
      refine bodyPost_ret (v := .tuple #[.int .i64 0, .int .i64 2]) (by simp [results, Try.results8, go_sem]) rfl ⟨by rw [e1.out, e2.out], Grew.refl _⟩
theorem qstamp_any (s : Int) (w : World) : Calls Try.prog 10 #[.int .i64 s] w (RetG (.tuple #[.int .i64 (stN s), .bool (stO s)]) w) := by
  by_cases hc : -1000001 ≤ s ∧ s ≤ -1
  · have e1 := Lib.hid (show stN s = -s - 1 from by rw [stN, if_pos hc]; omega)
    have e2 : Hid (stO s = true) := Lib.hid (decide_eq_true hc)
    have h0 : ¬0 ≤ s := by omega
    have h1 : ¬s < -1000001 := by omega
    obtain ⟨h2, h3⟩ := hc
    go_enter Try.func10, Try.ntmps10
    go_wp2
    refine bodyPost_ret (v := .tuple #[.int .i64 (-s - 1), .bool true]) (by simp [results, Try.results10, go_sem]) rfl ⟨by rw [e1.out, e2.out], Grew.refl _⟩
  · have e1 := Lib.hid (show stN s = 0 from if_neg hc)
    have e2 : Hid (stO s = false) := Lib.hid (decide_eq_false hc)
    by_cases h0 : 0 ≤ s
    · clear hc
      go_enter Try.func10, Try.ntmps10
      go_wp2
      refine bodyPost_ret (v := .tuple #[.int .i64 0, .bool false]) (by simp [results, Try.results10, go_sem]) rfl ⟨by rw [e1.out, e2.out], Grew.refl _⟩
    · have h1 : s < -1000001 := by omega
      clear hc
      go_enter Try.func10, Try.ntmps10
      go_wp2
      refine bodyPost_ret (v := .tuple #[.int .i64 0, .bool false]) (by simp [results, Try.results10, go_sem]) rfl ⟨by rw [e1.out, e2.out], Grew.refl _⟩
theorem qdistance_any (c s : Int) (w : World) : Calls Try.prog 12 #[.int .i64 c, .int .i64 s] w (RetG (.tuple #[.int .i64 (diN c s), .int .i64 (diE c s)]) w) := by
  by_cases hc : 0 ≤ c ∧ c ≤ 1000000
  · by_cases hs : -1000001 ≤ s ∧ s ≤ -1
    · have e3 := Lib.hid (show stN s = -(s + 1) from if_pos hs)
      have e4 : Hid (stO s = true) := Lib.hid (decide_eq_true hs)
      by_cases hp : -(s + 1) < c
      · have e1 := Lib.hid (show diN c s = c - -(s + 1) from by rw [diN, if_pos hc, if_pos ⟨hs.1, hs.2, hp⟩]; omega)
        have e2 := Lib.hid (show diE c s = 0 from by rw [diE, if_pos hc, if_pos ⟨hs.1, hs.2, hp⟩])
        have hq0 : 0 ≤ -(s + 1) := by omega
        obtain ⟨q, hq⟩ : ∃ q, -(s + 1) = q := ⟨_, rfl⟩
        rw [hq] at e1 e3 hp hq0
        obtain ⟨h0, h1⟩ := hc
        clear hq hs
        have hp2 : ¬c ≤ q := by omega
        go_enter Try.func12, Try.ntmps12
        go_wp2_with fail
        with_reducible refine (qstamp_any _ _).mono ?_
        rintro e' w1 ⟨rfl, g1⟩
        rw [e3.out, e4.out]
        go_wp2
        refine bodyPost_ret (v := .tuple #[.int .i64 (c - q), .int .i64 0]) (by simp [results, Try.results12, go_sem]) rfl ⟨by rw [e1.out, e2.out], g1⟩
      · have e1 := Lib.hid (show diN c s = 0 from by rw [diN, if_pos hc, if_neg (fun h => hp h.2.2)])
        have e2 := Lib.hid (show diE c s = 1 from by rw [diE, if_pos hc, if_neg (fun h => hp h.2.2)])
        obtain ⟨q, hq⟩ : ∃ q, -(s + 1) = q := ⟨_, rfl⟩
        rw [hq] at e3 hp
        obtain ⟨h0, h1⟩ := hc
        clear hq hs
        have hp2 : c ≤ q := by omega
        go_enter Try.func12, Try.ntmps12
        go_wp2_with fail
        with_reducible refine (qstamp_any _ _).mono ?_
        rintro e' w1 ⟨rfl, g1⟩
        rw [e3.out, e4.out]
        go_wp2
        refine bodyPost_ret (v := .tuple #[.int .i64 0, .int .i64 1]) (by simp [results, Try.results12, go_sem]) rfl ⟨by rw [e1.out, e2.out], g1⟩
    · have e1 := Lib.hid (show diN c s = 0 from by rw [diN, if_pos hc, if_neg (fun h => hs ⟨h.1, h.2.1⟩)])
      have e2 := Lib.hid (show diE c s = 1 from by rw [diE, if_pos hc, if_neg (fun h => hs ⟨h.1, h.2.1⟩)])
      have e4 : Hid (stO s = false) := Lib.hid (decide_eq_false hs)
      obtain ⟨h0, h1⟩ := hc
      clear hs
      go_enter Try.func12, Try.ntmps12
      go_wp2_with fail
      with_reducible refine (qstamp_any _ _).mono ?_
      rintro e' w1 ⟨rfl, g1⟩
      rw [e4.out]
      go_wp2
      refine bodyPost_ret (v := .tuple #[.int .i64 0, .int .i64 1]) (by simp [results, Try.results12, go_sem]) rfl ⟨by rw [e1.out, e2.out], g1⟩
  · have e1 := Lib.hid (show diN c s = 0 from by rw [diN, if_neg hc])
    have e2 := Lib.hid (show diE c s = 2 from by rw [diE, if_neg hc])
    by_cases h0 : c < 0
    · clear hc
      go_enter Try.func12, Try.ntmps12
      go_wp2
      refine bodyPost_ret (v := .tuple #[.int .i64 0, .int .i64 2]) (by simp [results, Try.results12, go_sem]) rfl ⟨by rw [e1.out, e2.out], Grew.refl _⟩
    · have h1 : 1000000 < c := by omega
      clear hc
      go_enter Try.func12, Try.ntmps12
      go_wp2
      refine bodyPost_ret (v := .tuple #[.int .i64 0, .int .i64 2]) (by simp [results, Try.results12, go_sem]) rfl ⟨by rw [e1.out, e2.out], Grew.refl _⟩
theorem qdist_w (c s : Int) (w : World) (_ : (Lit.int .i64 s).wf = true) : Calls Try.prog 12 #[.int .i64 c, .int .i64 s] w (RetG (.tuple #[.int .i64 (diN c s), .int .i64 (diE c s)]) w) := qdistance_any c s w
theorem qactivate_any (c s a : Int) (w : World) (h : (Lit.int .i64 s).wf = true) : Calls Try.prog 14 #[.int .i64 c, .int .i64 s, .int .i64 a] w (RetG (.bool (acB c s a)) w) := by
  have H := Lib.hid h
  clear h
  go_enter Try.func14, Try.ntmps14
  go_wp2_with fail
  with_reducible refine (qdist_w _ _ _ H.out).mono ?_
  rintro e' w1 ⟨rfl, g1⟩
  by_cases hc : 0 ≤ c ∧ c ≤ 1000000
  · by_cases hp : -1000001 ≤ s ∧ s ≤ -1 ∧ -(s + 1) < c
    · have e1 := Lib.hid (show diE c s = 0 from by rw [diE, if_pos hc, if_pos hp])
      have e2 := Lib.hid (show diN c s = c + s + 1 from by rw [diN, if_pos hc, if_pos hp])
      have e3 := Lib.hid (show decide (diN c s ≤ a) = acB c s a from by rw [e2.out]; exact decide_eq_decide.2 ⟨fun h => ⟨hc, hp, h⟩, fun h => h.2.2⟩)
      clear hc hp
      rw [e1.out]
      go_wp2
      go_ret
      exact ⟨ret_bool e3.out, g1⟩
    · have e1 := Lib.hid (show diE c s = 1 from by rw [diE, if_pos hc, if_neg hp])
      have e3 : Hid (false = acB c s a) := Lib.hid (decide_eq_false (fun h => hp h.2.1)).symm
      clear hc hp
      rw [e1.out]
      go_wp2
      go_ret
      exact ⟨ret_bool e3.out, g1⟩
  · have e1 := Lib.hid (show diE c s = 2 from by rw [diE, if_neg hc])
    have e3 : Hid (false = acB c s a) := Lib.hid (decide_eq_false (fun h => hc h.1)).symm
    clear hc
    rw [e1.out]
    go_wp2
    go_ret
    exact ⟨ret_bool e3.out, g1⟩

theorem awake_any (w : World) : Calls Try.prog 15 #[] w (RetG (.bool true) w) := by
  have s4 : shN 4 = -5 := by decide
  have s4e : shE 4 = 0 := by decide
  have t5 : stN (-5) = 4 := by decide
  have t5o : stO (-5) = true := by decide
  have d7 : diN 7 (-5) = 3 := by decide
  have d7e : diE 7 (-5) = 0 := by decide
  have t3o : stO 3 = false := by decide
  have k3 : acB 7 (-5) 3 = true := by decide
  have k2 : acB 7 (-5) 2 = false := by decide
  go_enter Try.func15, Try.ntmps15
  go_wp2_with fail
  with_reducible refine (shadow_any _ _ (by decide)).mono ?_
  rintro e w1 ⟨rfl, rfl⟩
  rw [s4, s4e]
  go_wp2_with fail
  with_reducible refine (stamp_any _ _ (by decide)).mono ?_
  rintro e w1 ⟨rfl, rfl⟩
  rw [t5, t5o]
  go_wp2_with fail
  with_reducible refine (distance_any _ _ _ (by decide)).mono ?_
  rintro e w1 ⟨rfl, g1⟩
  rw [d7, d7e]
  go_wp2_with fail
  with_reducible refine (stamp_any _ _ (by decide)).mono ?_
  rintro e w2 ⟨rfl, rfl⟩
  rw [t3o]
  go_wp2_with fail
  with_reducible refine (activate_any _ _ _ _ (by decide)).mono ?_
  rintro e w2 ⟨rfl, g2⟩
  rw [k3]
  go_wp2_with fail
  with_reducible refine (activate_any _ _ _ _ (by decide)).mono ?_
  rintro e w3 ⟨rfl, g3⟩
  rw [k2]
  go_wp2
  go_ret
  exact ⟨rfl, (g1.trans g2).trans g3⟩
end Go.Proofs.Ytjbkdbkiboonpaa
