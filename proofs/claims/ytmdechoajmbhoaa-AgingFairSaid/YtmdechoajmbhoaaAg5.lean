/- Dirty files by age (layer 15): Expired, Oldest, Add, Remove, Again of the program. -/
import Derived.Test.YtmdechoajmbhoaaAg4
namespace Go.Mine
open Go Go.RowKit
/-- It returns a slice of the integers L, in a block of its own. -/
def RetIL (L : List Int) (w : World) (e : Ending) (w' : World) : Prop := ∃ v, e = .returned v ∧ RdS 1 enc1 w' w.heap.size v L ∧ Grew w w'
/-- It returns a file, and whether there is one. -/
abbrev oldV (x : Int × Bool) : Value := .tuple #[.int .i64 x.1, .bool x.2]
theorem expX_0 {L : List Du} {n a : Int} (h : okA L = false) : expX L n a = [] := by unfold expX; rw [h]
theorem expX_1 {L : List Du} {n a : Int} (h : tickB n = false) : expX L n a = [] := by unfold expX; rw [h]; cases okA L <;> rfl
theorem expX_2 {L : List Du} {n a : Int} (h : tickB a = false) : expX L n a = [] := by unfold expX; rw [h]; cases okA L <;> cases tickB n <;> rfl
theorem expX_3 {L : List Du} {n a : Int} (h : okA L = true) (h1 : tickB n = true) (h2 : tickB a = true) : expX L n a = dueL L (n - a) := by unfold expX; rw [h, h1, h2]
theorem oldX_0 {L : List Du} (h : okA L = false) : oldX L = (0, false) := by unfold oldX; rw [h]
theorem oldX_1 : oldX [] = (0, false) := rfl
theorem oldX_2 {d : Du} {L : List Du} (h : okA (d :: L) = true) : oldX (d :: L) = (d.1, true) := by unfold oldX; rw [h]
theorem addX_e {L : List Du} {f n e : Int} (h : eA L f n = e) (he : e ≠ 0) : addX L f n = (L, e) := by
  subst h
  unfold eA addX at *
  revert he
  cases okA L <;> cases fileB f <;> cases (tickB n && decide (lstA L ≤ n)) <;> cases hasA L f <;> intro he <;> first | rfl | exact absurd rfl he
theorem addX_h {L : List Du} {f n : Int} (h : eA L f n = 0) (h1 : hasA L f = true) : addX L f n = (L, 0) := by
  unfold eA at h; unfold addX
  rw [h1]
  cases hk : okA L <;> cases hf : fileB f <;> cases ht : (tickB n && decide (lstA L ≤ n)) <;> rw [hk, hf, ht] at h <;> first | rfl | exact absurd h (by decide)
theorem addX_n {L : List Du} {f n : Int} (h : eA L f n = 0) (h1 : hasA L f = false) : addX L f n = (L ++ [(f, n)], 0) := by
  unfold eA at h; unfold addX
  rw [h1]
  cases hk : okA L <;> cases hf : fileB f <;> cases ht : (tickB n && decide (lstA L ≤ n)) <;> rw [hk, hf, ht] at h <;> first | rfl | exact absurd h (by decide)
theorem agaX_e {L : List Du} {f n e : Int} (h : eA L f n = e) (he : e ≠ 0) : agaX L f n = (L, e) := by
  subst h
  unfold eA agaX at *
  revert he
  cases okA L <;> cases fileB f <;> cases (tickB n && decide (lstA L ≤ n)) <;> cases hasA L f <;> intro he <;> first | rfl | exact absurd rfl he
theorem agaX_n {L : List Du} {f n : Int} (h : eA L f n = 0) (h1 : hasA L f = false) : agaX L f n = (L, 4) := by
  unfold eA at h; unfold agaX
  rw [h1]
  cases hk : okA L <;> cases hf : fileB f <;> cases ht : (tickB n && decide (lstA L ≤ n)) <;> rw [hk, hf, ht] at h <;> first | rfl | exact absurd h (by decide)
theorem agaX_h {L : List Du} {f n : Int} (h : eA L f n = 0) (h1 : hasA L f = true) : agaX L f n = (outA L f ++ [(f, n)], 0) := by
  unfold eA at h; unfold agaX
  rw [h1]
  cases hk : okA L <;> cases hf : fileB f <;> cases ht : (tickB n && decide (lstA L ≤ n)) <;> rw [hk, hf, ht] at h <;> first | rfl | exact absurd h (by decide)
theorem remX_e {L : List Du} {f e : Int} (h : eF L f = e) (he : e ≠ 0) : remX L f = (L, e) := by
  subst h
  unfold eF remX at *
  revert he
  cases okA L <;> cases fileB f <;> cases hasA L f <;> intro he <;> first | rfl | exact absurd rfl he
theorem remX_n {L : List Du} {f : Int} (h : eF L f = 0) (h1 : hasA L f = false) : remX L f = (L, 4) := by
  unfold eF at h; unfold remX
  rw [h1]
  cases hk : okA L <;> cases hf : fileB f <;> rw [hk, hf] at h <;> first | rfl | exact absurd h (by decide)
theorem remX_h {L : List Du} {f : Int} (h : eF L f = 0) (h1 : hasA L f = true) : remX L f = (outA L f, 0) := by
  unfold eF at h; unfold remX
  rw [h1]
  cases hk : okA L <;> cases hf : fileB f <;> rw [hk, hf] at h <;> first | rfl | exact absurd h (by decide)
theorem eF_ok {L : List Du} {f : Int} (h : eF L f = 0) : okA L = true ∧ fileB f = true := by
  unfold eF at h
  cases hk : okA L <;> cases hf : fileB f <;> rw [hk, hf] at h <;> first | exact ⟨rfl, rfl⟩ | exact absurd h (by decide)
theorem eA_ok {L : List Du} {f n : Int} (h : eA L f n = 0) : okA L = true ∧ fileB f = true ∧ tickB n = true ∧ lstA L ≤ n := by
  unfold eA at h
  cases hk : okA L <;> cases hf : fileB f <;> cases ht : tickB n <;> rw [hk, hf, ht] at h
  case true.true.true =>
    by_cases hl : lstA L ≤ n
    · exact ⟨rfl, rfl, rfl, hl⟩
    · rw [decide_eq_false hl] at h; simp at h
  all_goals simp at h
theorem eA_rng (L : List Du) (f n : Int) : 0 ≤ eA L f n ∧ eA L f n ≤ 2 := by
  unfold eA
  cases okA L <;> cases fileB f <;> cases (tickB n && decide (lstA L ≤ n)) <;> decide
theorem eF_rng (L : List Du) (f : Int) : 0 ≤ eF L f ∧ eF L f ≤ 2 := by
  unfold eF
  cases okA L <;> cases fileB f <;> decide
end Go.Mine
namespace Go.Proofs.Ytmdechoajmbhoaa
open Go.RowKit Go.Mine

theorem info_i1 : (Try.prog.info? 3).map (fun i => (i.zero, i.size, i.bytes)) = some (some (.int .i64 0), 1, 8) := by kernel_rfl
set_option maxHeartbeats 4000000 in
theorem expired_p {B : Nat} {v : Value} {L : List Du} {w : World} {now age : Int} (h : RdS 2 enc2 w B v L) (hs : L.length ≤ 1000) : Calls Try.prog 15 #[v, .int .i64 now, .int .i64 age] w (RetIL (expX L now age) w) := by
  obtain ⟨a, c, rfl, -, -⟩ := h.slice
  cases h1 : okA L
  · have HE := Lib.hid (expX_0 (n := now) (a := age) h1)
    go_enter Try.func15, Try.ntmps15
    go_wp2_with fail
    with_reducible refine (check_p h hs h1).mono ?_
    rintro e w1 ⟨rfl, g1⟩
    go_wp2
    go_ret
    exact ⟨_, rfl, by rw [HE.out]; exact RdS.nil _ _ _ _ (Nat.zero_le _), g1⟩
  · cases h2 : tickB now
    · have HE := Lib.hid (expX_1 (L := L) (a := age) h2)
      have H2 := Lib.hid h2
      clear h2
      go_enter Try.func15, Try.ntmps15
      go_wp2_with fail
      with_reducible refine (check_p h hs h1).mono ?_
      rintro e w1 ⟨rfl, g1⟩
      go_wp2_with fail
      with_reducible refine (isTick_p H2.out).mono ?_
      rintro e w2 ⟨rfl, rfl⟩
      go_wp2
      go_ret
      exact ⟨_, rfl, by rw [HE.out]; exact RdS.nil _ _ _ _ (Nat.zero_le _), g1⟩
    · cases h3 : tickB age
      · have HE := Lib.hid (expX_2 (L := L) (n := now) h3)
        have H2 := Lib.hid h2
        have H3 := Lib.hid h3
        clear h2 h3
        go_enter Try.func15, Try.ntmps15
        go_wp2_with fail
        with_reducible refine (check_p h hs h1).mono ?_
        rintro e w1 ⟨rfl, g1⟩
        go_wp2_with fail
        with_reducible refine (isTick_p H2.out).mono ?_
        rintro e w2 ⟨rfl, rfl⟩
        go_wp2_with fail
        with_reducible refine (isTick_p H3.out).mono ?_
        rintro e w2 ⟨rfl, rfl⟩
        go_wp2
        go_ret
        exact ⟨_, rfl, by rw [HE.out]; exact RdS.nil _ _ _ _ (Nat.zero_le _), g1⟩
      · have HE := Lib.hid (expX_3 h1 h2 h3)
        have H2 := Lib.hid h2
        have H3 := Lib.hid h3
        obtain ⟨t0, t1⟩ := tickB_iff.1 h2
        obtain ⟨t2, t3⟩ := tickB_iff.1 h3
        have HC := Lib.hid (check_p h hs h1)
        have HZ := Lib.hid h
        obtain ⟨n, hn⟩ : ∃ n, L.length = n := ⟨_, rfl⟩
        have HN := Lib.hid hn
        rw [hn] at HC HZ hs ⊢
        clear h h1 h2 h3 hn
        go_enter Try.func15, Try.ntmps15
        go_wp2_with fail
        with_reducible refine HC.out.mono ?_
        rintro e w1 ⟨rfl, g1⟩
        go_wp2_with fail
        with_reducible refine (isTick_p H2.out).mono ?_
        rintro e w2 ⟨rfl, rfl⟩
        go_wp2_with fail
        with_reducible refine (isTick_p H3.out).mono ?_
        rintro e w2 ⟨rfl, rfl⟩
        clear HC
        go_wp2_with fail
        go_loopw [7, 25] (fun fv iv wr => ∃ (i : Nat) (r : Value) (M : List Int), r = fv ∧ iv = .int .i64 i ∧ i ≤ n ∧ M.length ≤ i ∧ Hid (M = dueL (L.take i) (now - age)) ∧ RowE 3 1 enc1 wr w.heap.size r M ∧ Grew w wr) (fun _ iv _ => n - (intOf iv).toNat)
        case atStart => exact ⟨0, _, [], rfl, rfl, by omega, by simp, Lib.hid rfl, RowE.nil _ _, g1⟩
        case round =>
          obtain ⟨i, fv, M, rfl, rfl, hi, hml, HM, R, G⟩ := hrel
          obtain ⟨wo, rfl⟩ : ∃ wo : World, wo = wr := ⟨_, rfl⟩
          have HR := Lib.hid R
          have HG := Lib.hid G
          by_cases hlt : i < n
          · have hiL : i < L.length := by rw [HN.out]; exact hlt
            obtain ⟨g, o, rfl, -, hg, c0, c1⟩ := (HZ.out.grew G).at2 hiL
            have HT := Lib.hid (dueL_take hiL (now - age))
            obtain ⟨⟨df, ds⟩, hd⟩ : ∃ d, L.getD i zD = d := ⟨_, rfl⟩
            rw [show (L.getD i ((0 : Int), (0 : Int))) = (df, ds) from hd] at c0 c1
            rw [hd] at HT
            simp only at c0 c1 HT
            have hi0 : (0 : Int) ≤ (i : Int) := by omega
            have hi1 : (i : Int) < (n : Int) := by omega
            have hx6 : M.length < 1000000 := by omega
            have HGA := Lib.hid (G.alloc (.cells #[.int .i64 df, .int .i64 ds] 44))
            have HRA := Lib.hid (R.alloc (.cells #[.int .i64 df, .int .i64 ds] 44))
            have hz : ∀ ob, w.heap.size ≤ ((wo.alloc (.cells #[.int .i64 df, .int .i64 ds] 44)).alloc ob).heap.size := fun ob => Nat.le_trans HGA.out.size (by simp)
            clear hd g1 R G
            by_cases hle : ds ≤ now - age
            · have HM2 : Hid (M ++ [df] = dueL (L.take (i + 1)) (now - age)) := Lib.hid (by rw [HT.out, if_pos hle, ← HM.out])
              have t5 : decide (ds ≤ now - age) = true := decide_eq_true hle
              clear HM HT
              go_wp2_with (at_builtin; go_loud (refine wpList_append_row _ rfl _ _ 22 rfl w.heap.size info_i1 Try.underlying22 (by decide) (by decide) enc1_len fv M rfl (HRA.out.alloc _) _ _ df rfl (Own.new2 _ _ _ _) enc1_one hx6 (by decide) (hz _) ?_; intro g7 cap w7 R7 G7 o7))
              have HR7 := Lib.hid R7
              have HG7 := Lib.hid (Grew.keptA (B := w.heap.size) (HGA.out.alloc _) G7 (fun x e => HRA.out.above x e) (Nat.le_refl _))
              clear o7 G7 R7
              go_roundw
              case rel => exact ⟨i + 1, _, M ++ [df], rfl, by go_num, by omega, by simp; omega, HM2, HR7.out, HG7.out⟩
              case measure => simp [intOf]; omega
            · have HM2 : Hid (M = dueL (L.take (i + 1)) (now - age)) := Lib.hid (by rw [HT.out, if_neg hle, ← HM.out])
              have t5 : decide (ds ≤ now - age) = false := decide_eq_false hle
              clear HM HT
              go_wp2
              exact ⟨⟨i + 1, _, M, rfl, by go_num, by omega, by omega, HM2, HRA.out, HGA.out⟩, by simp [intOf] <;> omega⟩
          · obtain rfl : i = n := by omega
            have HE2 : Hid (M = expX L now age) := Lib.hid (by rw [HE.out, HM.out, ← HN.out, List.take_length])
            clear R G g1
            go_wp2
            go_ret
            exact ⟨_, rfl, by rw [← HE2.out]; exact RowE.rdS enc1_len HR.out, HG.out⟩
theorem oldest_p {B : Nat} {v : Value} {L : List Du} {w : World} {x : Int × Bool} (h : RdS 2 enc2 w B v L) (hs : L.length ≤ 1000) (hx : oldX L = x) : Calls Try.prog 17 #[v] w (RetG (oldV x) w) := by
  have HH := Lib.hid h
  obtain ⟨a, c, rfl, -, -⟩ := h.slice
  cases L with
  | nil =>
    subst hx
    clear h
    rw [List.length_nil]
    go_enter Try.func17, Try.ntmps17
    go_wp2
    refine bodyPost_ret (v := .tuple #[.int .i64 0, .bool false]) (by simp [results, Try.results17, go_sem]) rfl ?_
    exact ⟨rfl, Grew.refl _⟩
  | cons d L =>
    have hc0 := h.at2 (k := 0) (Nat.succ_pos _)
    obtain ⟨m, hm⟩ : ∃ m, L.length = m := ⟨_, rfl⟩
    have hln : (d :: L).length = m + 1 := by rw [List.length_cons, hm]
    cases h1 : okA (d :: L)
    · have HE : Hid (x = (0, false)) := Lib.hid (hx.symm.trans (oldX_0 h1))
      have HC := Lib.hid (check_p h hs h1)
      rw [hln] at HC ⊢
      clear h HH hx hc0 h1 hs hln
      go_enter Try.func17, Try.ntmps17
      go_wp2_with fail
      with_reducible refine HC.out.mono ?_
      rintro e w1 ⟨rfl, g1⟩
      go_wp2
      refine bodyPost_ret (v := .tuple #[.int .i64 0, .bool false]) (by simp [results, Try.results17, go_sem]) rfl ?_
      exact ⟨by rw [HE.out], g1⟩
    · have HE : Hid (x = (d.1, true)) := Lib.hid (hx.symm.trans (oldX_2 h1))
      have HC := Lib.hid (check_p h hs h1)
      rw [hln] at HC ⊢
      obtain ⟨df, ds⟩ := d
      obtain ⟨g, o, rfl, -, hg, c0, -⟩ := hc0
      simp only [List.getD_cons_zero, Nat.zero_mul, Nat.add_zero] at c0
      simp only at HE
      have HC0 := Lib.hid (fun w' (G : Grew w w') => (G.cells.1 g o hg).trans c0)
      clear h HH hx h1 hs hln c0
      go_enter Try.func17, Try.ntmps17
      go_wp2_with fail
      with_reducible refine HC.out.mono ?_
      rintro e w1 ⟨rfl, g1⟩
      have c1 := HC0.out _ g1
      have hg1 := Nat.lt_of_lt_of_le hg g1.size
      go_wp2
      refine bodyPost_ret (v := .tuple #[.int .i64 df, .bool true]) (by simp [results, Try.results17, go_sem]) rfl ?_
      exact ⟨by rw [HE.out], g1⟩
set_option maxHeartbeats 4000000 in
theorem add_p {B : Nat} {v : Value} {L : List Du} {w : World} {f n : Int} (h : RdS 2 enc2 w B v L) (hB : B ≤ w.heap.size) (hs : L.length ≤ 500) : Calls Try.prog 9 #[v, .int .i64 f, .int .i64 n] w (RetAE B (addX L f n) w) := by
  have hs2 : L.length ≤ 1000 := by omega
  have HH := Lib.hid h
  have HB := Lib.hid hB
  clear h
  obtain ⟨e, he⟩ : ∃ e, eA L f n = e := ⟨_, rfl⟩
  have HE := Lib.hid he
  have hr := eA_rng L f n
  rw [he] at hr
  by_cases h0 : e = 0
  · subst h0
    obtain ⟨k1, -, -, k2⟩ := eA_ok he
    cases h1 : hasA L f
    · have HX := Lib.hid (addX_n he h1)
      have HA := Lib.hid (ahead_one k1 (d := (f, n)) k2)
      have H1 := Lib.hid h1
      clear he h1 k1 k2 hr hB
      go_enter Try.func9, Try.ntmps9
      go_wp2_with fail
      with_reducible refine (checkAdd_p HH.out hs2 HE.out).mono ?_
      rintro e w1 ⟨rfl, g1⟩
      have HH1 := Lib.hid (HH.out.grew g1)
      have HG1 := Lib.hid g1
      clear g1
      go_wp2_with fail
      with_reducible refine (isListed_p HH1.out hs2 H1.out).mono ?_
      rintro e w2 ⟨rfl, g2⟩
      have HH2 := Lib.hid ((HH1.out.grew g2).alloc (.cells #[.int .i64 f, .int .i64 n] 44))
      have HG2 := Lib.hid ((HG1.out.trans g2).alloc (.cells #[.int .i64 f, .int .i64 n] 44))
      have R0 : RowE 44 2 enc2 (w2.alloc (.cells #[.int .i64 f, .int .i64 n] 44)) B (.slice (some ⟨w2.heap.size, 0, none⟩) 1 1) [(f, n)] := RowE.lit w2 _ rfl rfl (show 1 ≤ maxLen by decide) (Nat.le_trans HB.out (HG1.out.trans g2).size)
      have HR0 := Lib.hid (RowE.rdS enc2_len R0)
      have HL : Hid (L.length + [(f, n)].length ≤ 1000) := Lib.hid (by simp; omega)
      clear g2 R0
      go_wp2_with fail
      with_reducible refine (merged_p HH2.out HR0.out HA.out HL.out).mono ?_
      rintro e w3 ⟨v3, rfl, R3, g3⟩
      have HR3 := Lib.hid (R3.wider (Nat.le_trans HB.out HG2.out.size))
      have HG3 := Lib.hid (HG2.out.trans g3)
      clear R3 g3
      go_wp2
      refine bodyPost_ret (v := .tuple #[v3, .int .i64 0]) (by simp [results, Try.results9, go_sem]) rfl ?_
      exact ⟨v3, by rw [HX.out], by rw [HX.out]; exact HR3.out, HG3.out⟩
    · have HX := Lib.hid (addX_h he h1)
      have H1 := Lib.hid h1
      clear he h1 k1 k2 hr hB
      go_enter Try.func9, Try.ntmps9
      go_wp2_with fail
      with_reducible refine (checkAdd_p HH.out hs2 HE.out).mono ?_
      rintro e w1 ⟨rfl, g1⟩
      have HH1 := Lib.hid (HH.out.grew g1)
      have HG1 := Lib.hid g1
      clear g1
      go_wp2_with fail
      with_reducible refine (isListed_p HH1.out hs2 H1.out).mono ?_
      rintro e w2 ⟨rfl, g2⟩
      have HH2 := Lib.hid (HH1.out.grew g2)
      have HG2 := Lib.hid (HG1.out.trans g2)
      clear g2
      go_wp2_with fail
      with_reducible refine (clone_d HH2.out hs2).mono ?_
      rintro e w3 ⟨v3, rfl, R3, g3⟩
      have HR3 := Lib.hid (R3.wider (Nat.le_trans HB.out HG2.out.size))
      have HG3 := Lib.hid (HG2.out.trans g3)
      clear R3 g3
      go_wp2
      refine bodyPost_ret (v := .tuple #[v3, .int .i64 0]) (by simp [results, Try.results9, go_sem]) rfl ?_
      exact ⟨v3, by rw [HX.out], by rw [HX.out]; exact HR3.out, HG3.out⟩
  · have HX := Lib.hid (addX_e he h0)
    have hne : (e != 0) = true := by simp [h0]
    clear he hB
    go_enter Try.func9, Try.ntmps9
    go_wp2_with fail
    with_reducible refine (checkAdd_p HH.out hs2 HE.out).mono ?_
    rintro e9 w1 ⟨rfl, g1⟩
    have HH1 := Lib.hid (HH.out.grew g1)
    have HG1 := Lib.hid g1
    clear g1
    go_wp2_with fail
    with_reducible refine (clone_d HH1.out hs2).mono ?_
    rintro e9 w3 ⟨v3, rfl, R3, g3⟩
    have HR3 := Lib.hid (R3.wider (Nat.le_trans HB.out HG1.out.size))
    have HG3 := Lib.hid (HG1.out.trans g3)
    clear R3 g3
    go_wp2
    refine bodyPost_ret (v := .tuple #[v3, .int .i64 e]) (by simp [results, Try.results9, go_sem]) rfl ?_
    exact ⟨v3, by rw [HX.out], by rw [HX.out]; exact HR3.out, HG3.out⟩
set_option maxHeartbeats 4000000 in
theorem remove_p {B : Nat} {v : Value} {L : List Du} {w : World} {f : Int} (h : RdS 2 enc2 w B v L) (hB : B ≤ w.heap.size) (hs : L.length ≤ 500) : Calls Try.prog 11 #[v, .int .i64 f] w (RetAE B (remX L f) w) := by
  have hs2 : L.length ≤ 1000 := by omega
  have HH := Lib.hid h
  have HB := Lib.hid hB
  clear h
  obtain ⟨e, he⟩ : ∃ e, eF L f = e := ⟨_, rfl⟩
  have HE := Lib.hid he
  by_cases h0 : e = 0
  · subst h0
    obtain ⟨k1, -⟩ := eF_ok he
    cases h1 : hasA L f
    · have HX := Lib.hid (remX_n he h1)
      have H1 := Lib.hid h1
      clear he h1 hB
      go_enter Try.func11, Try.ntmps11
      go_wp2_with fail
      with_reducible refine (checkFile_p HH.out hs2 HE.out).mono ?_
      rintro e w1 ⟨rfl, g1⟩
      have HH1 := Lib.hid (HH.out.grew g1)
      have HG1 := Lib.hid g1
      clear g1
      go_wp2_with fail
      with_reducible refine (isListed_p HH1.out hs2 H1.out).mono ?_
      rintro e w2 ⟨rfl, g2⟩
      have HH2 := Lib.hid (HH1.out.grew g2)
      have HG2 := Lib.hid (HG1.out.trans g2)
      clear g2
      go_wp2_with fail
      with_reducible refine (clone_d HH2.out hs2).mono ?_
      rintro e w3 ⟨v3, rfl, R3, g3⟩
      have HR3 := Lib.hid (R3.wider (Nat.le_trans HB.out HG2.out.size))
      have HG3 := Lib.hid (HG2.out.trans g3)
      clear R3 g3
      go_wp2
      refine bodyPost_ret (v := .tuple #[v3, .int .i64 4]) (by simp [results, Try.results11, go_sem]) rfl ?_
      exact ⟨v3, by rw [HX.out], by rw [HX.out]; exact HR3.out, HG3.out⟩
    · have HX := Lib.hid (remX_h he h1)
      have H1 := Lib.hid h1
      have HK := Lib.hid k1
      clear he h1 hB k1
      go_enter Try.func11, Try.ntmps11
      go_wp2_with fail
      with_reducible refine (checkFile_p HH.out hs2 HE.out).mono ?_
      rintro e w1 ⟨rfl, g1⟩
      have HH1 := Lib.hid (HH.out.grew g1)
      have HG1 := Lib.hid g1
      clear g1
      go_wp2_with fail
      with_reducible refine (isListed_p HH1.out hs2 H1.out).mono ?_
      rintro e w2 ⟨rfl, g2⟩
      have HH2 := Lib.hid (HH1.out.grew g2)
      have HG2 := Lib.hid (HG1.out.trans g2)
      clear g2
      go_wp2_with fail
      with_reducible refine (without_p HH2.out hs2 HK.out H1.out).mono ?_
      rintro e w3 ⟨v3, rfl, R3, g3⟩
      have HR3 := Lib.hid (R3.wider (Nat.le_trans HB.out HG2.out.size))
      have HG3 := Lib.hid (HG2.out.trans g3)
      clear R3 g3
      go_wp2
      refine bodyPost_ret (v := .tuple #[v3, .int .i64 0]) (by simp [results, Try.results11, go_sem]) rfl ?_
      exact ⟨v3, by rw [HX.out], by rw [HX.out]; exact HR3.out, HG3.out⟩
  · have HX := Lib.hid (remX_e he h0)
    have hne : (e != 0) = true := by simp [h0]
    clear he hB
    go_enter Try.func11, Try.ntmps11
    go_wp2_with fail
    with_reducible refine (checkFile_p HH.out hs2 HE.out).mono ?_
    rintro e9 w1 ⟨rfl, g1⟩
    have HH1 := Lib.hid (HH.out.grew g1)
    have HG1 := Lib.hid g1
    clear g1
    go_wp2_with fail
    with_reducible refine (clone_d HH1.out hs2).mono ?_
    rintro e9 w3 ⟨v3, rfl, R3, g3⟩
    have HR3 := Lib.hid (R3.wider (Nat.le_trans HB.out HG1.out.size))
    have HG3 := Lib.hid (HG1.out.trans g3)
    clear R3 g3
    go_wp2
    refine bodyPost_ret (v := .tuple #[v3, .int .i64 e]) (by simp [results, Try.results11, go_sem]) rfl ?_
    exact ⟨v3, by rw [HX.out], by rw [HX.out]; exact HR3.out, HG3.out⟩
set_option maxHeartbeats 4000000 in
theorem again_p {B : Nat} {v : Value} {L : List Du} {w : World} {f n : Int} (h : RdS 2 enc2 w B v L) (hB : B ≤ w.heap.size) (hs : L.length ≤ 500) : Calls Try.prog 13 #[v, .int .i64 f, .int .i64 n] w (RetAE B (agaX L f n) w) := by
  have hs2 : L.length ≤ 1000 := by omega
  have HH := Lib.hid h
  have HB := Lib.hid hB
  clear h
  obtain ⟨e, he⟩ : ∃ e, eA L f n = e := ⟨_, rfl⟩
  have HE := Lib.hid he
  by_cases h0 : e = 0
  · subst h0
    obtain ⟨k1, -, -, k2⟩ := eA_ok he
    cases h1 : hasA L f
    · have HX := Lib.hid (agaX_n he h1)
      have H1 := Lib.hid h1
      clear he h1 hB
      go_enter Try.func13, Try.ntmps13
      go_wp2_with fail
      with_reducible refine (checkAdd_p HH.out hs2 HE.out).mono ?_
      rintro e w1 ⟨rfl, g1⟩
      have HH1 := Lib.hid (HH.out.grew g1)
      have HG1 := Lib.hid g1
      clear g1
      go_wp2_with fail
      with_reducible refine (isListed_p HH1.out hs2 H1.out).mono ?_
      rintro e w2 ⟨rfl, g2⟩
      have HH2 := Lib.hid (HH1.out.grew g2)
      have HG2 := Lib.hid (HG1.out.trans g2)
      clear g2
      go_wp2_with fail
      with_reducible refine (clone_d HH2.out hs2).mono ?_
      rintro e w3 ⟨v3, rfl, R3, g3⟩
      have HR3 := Lib.hid (R3.wider (Nat.le_trans HB.out HG2.out.size))
      have HG3 := Lib.hid (HG2.out.trans g3)
      clear R3 g3
      go_wp2
      refine bodyPost_ret (v := .tuple #[v3, .int .i64 4]) (by simp [results, Try.results13, go_sem]) rfl ?_
      exact ⟨v3, by rw [HX.out], by rw [HX.out]; exact HR3.out, HG3.out⟩
    · have HX := Lib.hid (agaX_h he h1)
      have H1 := Lib.hid h1
      have HK := Lib.hid k1
      have HA := Lib.hid ((ahead_one k1 (d := (f, n)) k2).sub (fun d hd => outA_mem (f := f) hd))
      have HL : Hid ((outA L f).length + [(f, n)].length ≤ 1000) := Lib.hid (by have := outA_len L f; simp; omega)
      clear k2
      clear he h1 hB k1
      go_enter Try.func13, Try.ntmps13
      go_wp2_with fail
      with_reducible refine (checkAdd_p HH.out hs2 HE.out).mono ?_
      rintro e w1 ⟨rfl, g1⟩
      have HH1 := Lib.hid (HH.out.grew g1)
      have HG1 := Lib.hid g1
      clear g1
      go_wp2_with fail
      with_reducible refine (isListed_p HH1.out hs2 H1.out).mono ?_
      rintro e w2 ⟨rfl, g2⟩
      have HH2 := Lib.hid (HH1.out.grew g2)
      have HG2 := Lib.hid (HG1.out.trans g2)
      clear g2
      go_wp2_with fail
      with_reducible refine (without_p HH2.out hs2 HK.out H1.out).mono ?_
      rintro e w3 ⟨v3, rfl, R3, g3⟩
      have HR3 := Lib.hid (R3.wider (Nat.le_trans HB.out HG2.out.size))
      have HG3 := Lib.hid (HG2.out.trans g3)
      clear R3 g3
      have HH3 := Lib.hid (HR3.out.alloc (.cells #[.int .i64 f, .int .i64 n] 44))
      have HG4 := Lib.hid (HG3.out.alloc (.cells #[.int .i64 f, .int .i64 n] 44))
      have R0 : RowE 44 2 enc2 (w3.alloc (.cells #[.int .i64 f, .int .i64 n] 44)) B (.slice (some ⟨w3.heap.size, 0, none⟩) 1 1) [(f, n)] := RowE.lit w3 _ rfl rfl (show 1 ≤ maxLen by decide) (Nat.le_trans HB.out HG3.out.size)
      have HR0 := Lib.hid (RowE.rdS enc2_len R0)
      clear R0
      go_wp2_with fail
      with_reducible refine (merged_p HH3.out HR0.out HA.out HL.out).mono ?_
      rintro e w5 ⟨v5, rfl, R5, g5⟩
      have HR5 := Lib.hid (R5.wider (Nat.le_trans HB.out HG4.out.size))
      have HG5 := Lib.hid (HG4.out.trans g5)
      clear R5 g5
      go_wp2
      refine bodyPost_ret (v := .tuple #[v5, .int .i64 0]) (by simp [results, Try.results13, go_sem]) rfl ?_
      exact ⟨v5, by rw [HX.out], by rw [HX.out]; exact HR5.out, HG5.out⟩
  · have HX := Lib.hid (agaX_e he h0)
    have hne : (e != 0) = true := by simp [h0]
    clear he hB
    go_enter Try.func13, Try.ntmps13
    go_wp2_with fail
    with_reducible refine (checkAdd_p HH.out hs2 HE.out).mono ?_
    rintro e9 w1 ⟨rfl, g1⟩
    have HH1 := Lib.hid (HH.out.grew g1)
    have HG1 := Lib.hid g1
    clear g1
    go_wp2_with fail
    with_reducible refine (clone_d HH1.out hs2).mono ?_
    rintro e9 w3 ⟨v3, rfl, R3, g3⟩
    have HR3 := Lib.hid (R3.wider (Nat.le_trans HB.out HG1.out.size))
    have HG3 := Lib.hid (HG1.out.trans g3)
    clear R3 g3
    go_wp2
    refine bodyPost_ret (v := .tuple #[v3, .int .i64 e]) (by simp [results, Try.results13, go_sem]) rfl ?_
    exact ⟨v3, by rw [HX.out], by rw [HX.out]; exact HR3.out, HG3.out⟩
end Go.Proofs.Ytmdechoajmbhoaa
