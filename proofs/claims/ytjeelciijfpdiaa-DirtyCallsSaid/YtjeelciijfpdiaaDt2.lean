/- Layer 13: New, Limit, Background of both; Check and Same of the reference. -/
import Derived.Test.YtjeelciijfpdiaaDt1
import Derived.Deep.OwnRows
namespace Go.Proofs.Ytjeelciijfpdiaa
open Go.RowKit Go.Mine

/-- It returns proportions that hold x, of which the events lie in a block of q, and an error. -/
def RetPd (x : Pd) (er : Int) (q : Nat → Prop) (w : World) (e : Ending) (w' : World) : Prop := ∃ v, e = .returned (.tuple #[v, .int .i64 er]) ∧ PdR w' q v x ∧ Grew w w'
theorem info_int : (Try.prog.info? 3).map (fun i => (i.zero, i.size, i.bytes)) = some (some (.int .i64 0), 1, 8) := by kernel_rfl
theorem pd_made {w : World} (o : Obj) {k : Nat} {p l : Int} : PdR ((w.alloc o).alloc (.cells (madeCells #[.int .i64 0] k) 3)) (fun b => w.heap.size ≤ b) (.agg #[.slice (some ⟨w.heap.size + 1, 0, none⟩) k k, .int .i64 p, .int .i64 l]) ⟨List.replicate (k : Int).toNat 0, p, l⟩ := by
  have R := World.rowIs_made (w.alloc o) (.int .i64 0) k 3
  have e : (List.replicate (k : Int).toNat (0 : Int)).length = k := by simp
  refine ⟨some ⟨w.heap.size + 1, 0, none⟩, k, by simp, ?_⟩
  rw [e]
  refine ⟨e.symm, .inr ⟨w.heap.size + 1, 0, rfl, by omega, by simp, fun j hj => ?_⟩⟩
  rw [e] at hj
  have hc := R.cell hj
  have hs : (w.alloc o).heap.size = w.heap.size + 1 := by simp
  rw [hs] at hc
  rw [Nat.zero_add, hc]
  simp [List.getD, hj]
set_option maxHeartbeats 2000000 in
theorem new_p {n p e : Int} {y : Pd} {w : World} (h : NwR n p y e) : Calls Try.prog 9 #[.int .i64 n, .int .i64 p] w (RetPd y e (fun b => w.heap.size ≤ b) w) := by
  have HG := Lib.hid ((Grew.refl w).alloc (.cells #[.slice none 0 0, .int .i64 0, .int .i64 0] 27))
  have HO := Lib.hid (Own.new w 27 #[.slice none 0 0, .int .i64 0, .int .i64 0])
  rcases h with ⟨h1, h2, rfl, rfl⟩ | ⟨h1 | ⟨h1, h2⟩, rfl, rfl⟩
  · have H1 := Lib.hid h1
    have H2 := Lib.hid h2
    obtain ⟨h3, h4⟩ := frB_iff.1 h1
    obtain ⟨k, rfl⟩ := Int.eq_ofNat_of_zero_le (show 0 ≤ n by omega)
    have hmk := run_make_row' (P := Try.prog) 22 3 (.int .i64 0) 8 Try.underlying22 info_int rfl .i64 .i64 k (by omega) (by omega)
    have h3' : 0 < k := by omega
    clear h1 h2 h3 h4
    go_enter Try.func9, Try.ntmps9
    go_wp2_with fail
    with_reducible refine (isWithin_p H1.out).mono ?_
    rintro e w1 ⟨rfl, rfl⟩
    go_wp2_with fail
    with_reducible refine (isWithin_p H2.out).mono ?_
    rintro e w1 ⟨rfl, rfl⟩
    go_wp2
    have OE := (Own.new w 27 #[.slice (some ⟨w.heap.size + 1, 0, none⟩) k k, .int .i64 p, .int .i64 p]).alloc (.cells (madeCells #[.int .i64 0] k) 3)
    obtain ⟨b0, b1, b2, -⟩ := OE.three
    refine bodyPost_ret (v := .tuple #[.agg #[.slice (some ⟨w.heap.size + 1, 0, none⟩) k k, .int .i64 p, .int .i64 p], .int .i64 0]) (by simp [results, Try.results9, go_sem, b0, b1, b2]) rfl ?_
    exact ⟨_, rfl, pd_made _, ((Grew.refl w).alloc _).alloc _⟩
  · have H1 := Lib.hid h1
    clear h1
    go_enter Try.func9, Try.ntmps9
    go_wp2_with fail
    with_reducible refine (isWithin_p H1.out).mono ?_
    rintro e w1 ⟨rfl, rfl⟩
    go_wp2
    obtain ⟨b0, b1, b2, -⟩ := HO.out.three
    refine bodyPost_ret (v := .tuple #[.agg #[.slice none 0 0, .int .i64 0, .int .i64 0], .int .i64 2]) (by simp [results, Try.results9, go_sem, b0, b1, b2]) rfl ?_
    exact ⟨_, rfl, ⟨none, 0, rfl, rfl, .inl rfl⟩, HG.out⟩
  · have H1 := Lib.hid h1
    have H2 := Lib.hid h2
    clear h1 h2
    go_enter Try.func9, Try.ntmps9
    go_wp2_with fail
    with_reducible refine (isWithin_p H1.out).mono ?_
    rintro e w1 ⟨rfl, rfl⟩
    go_wp2_with fail
    with_reducible refine (isWithin_p H2.out).mono ?_
    rintro e w1 ⟨rfl, rfl⟩
    go_wp2
    obtain ⟨b0, b1, b2, -⟩ := HO.out.three
    refine bodyPost_ret (v := .tuple #[.agg #[.slice none 0 0, .int .i64 0, .int .i64 0], .int .i64 2]) (by simp [results, Try.results9, go_sem, b0, b1, b2]) rfl ?_
    exact ⟨_, rfl, ⟨none, 0, rfl, rfl, .inl rfl⟩, HG.out⟩
set_option maxHeartbeats 2000000 in
theorem new_q {n p e : Int} {y : Pd} {w : World} (h : NwR n p y e) : Calls Try.prog 10 #[.int .i64 n, .int .i64 p] w (RetPd y e (fun b => w.heap.size ≤ b) w) := by
  have HG := Lib.hid ((Grew.refl w).alloc (.cells #[.slice none 0 0, .int .i64 0, .int .i64 0] 27))
  have HO := Lib.hid (Own.new w 27 #[.slice none 0 0, .int .i64 0, .int .i64 0])
  rcases h with ⟨h1, h2, rfl, rfl⟩ | ⟨h, rfl, rfl⟩
  · obtain ⟨h3, h4⟩ := frB_iff.1 h1
    obtain ⟨h5, h6⟩ := frB_iff.1 h2
    obtain ⟨k, rfl⟩ := Int.eq_ofNat_of_zero_le (show 0 ≤ n by omega)
    have hmk := run_make_row' (P := Try.prog) 22 3 (.int .i64 0) 8 Try.underlying22 info_int rfl .i64 .i64 k (by omega) (by omega)
    have h3' : 0 < k := by omega
    clear h1 h2
    go_enter Try.func10, Try.ntmps10
    go_wp2
    have OE := (Own.new w 27 #[.slice (some ⟨w.heap.size + 1, 0, none⟩) k k, .int .i64 p, .int .i64 p]).alloc (.cells (madeCells #[.int .i64 0] k) 3)
    obtain ⟨b0, b1, b2, -⟩ := OE.three
    refine bodyPost_ret (v := .tuple #[.agg #[.slice (some ⟨w.heap.size + 1, 0, none⟩) k k, .int .i64 p, .int .i64 p], .int .i64 0]) (by simp [results, Try.results10, go_sem, b0, b1, b2]) rfl ?_
    exact ⟨_, rfl, pd_made _, ((Grew.refl w).alloc _).alloc _⟩
  · have hc : ¬1 ≤ n ∨ (1 ≤ n ∧ ¬n ≤ 4) ∨ (1 ≤ n ∧ n ≤ 4 ∧ ¬1 ≤ p) ∨ (1 ≤ n ∧ n ≤ 4 ∧ 1 ≤ p ∧ ¬p ≤ 1000000) := by
      rcases h with h | ⟨h, h'⟩
      · rcases frB_no h with h | ⟨h, h2⟩
        · exact .inl h
        · exact .inr (.inl ⟨h, h2⟩)
      · obtain ⟨h1, h2⟩ := frB_iff.1 h
        rcases frB_no h' with h | ⟨h, h4⟩
        · exact .inr (.inr (.inl ⟨h1, h2, h⟩))
        · exact .inr (.inr (.inr ⟨h1, h2, h, h4⟩))
    clear h
    rcases hc with h1 | ⟨h1, h2⟩ | ⟨h1, h2, h3⟩ | ⟨h1, h2, h3, h4⟩
    all_goals
      go_enter Try.func10, Try.ntmps10
      go_wp2
      obtain ⟨b0, b1, b2, -⟩ := HO.out.three
      refine bodyPost_ret (v := .tuple #[.agg #[.slice none 0 0, .int .i64 0, .int .i64 0], .int .i64 2]) (by simp [results, Try.results10, go_sem, b0, b1, b2]) rfl ?_
      exact ⟨_, rfl, ⟨none, 0, rfl, rfl, .inl rfl⟩, HG.out⟩
theorem lim_p {f p r : Int} {w : World} (hr : lmF f p = r) : Calls Try.prog 16 #[.int .i64 f, .int .i64 p] w (RetS (.int .i64 r) w) := by
  have HR := Lib.hid hr
  clear hr
  cases h1 : frB f 6 64
  · have HE : Hid (r = 0) := Lib.hid (by rw [← HR.out]; unfold lmF; rw [h1]; rfl)
    have H1 := Lib.hid h1
    clear h1 HR
    go_enter Try.func16, Try.ntmps16
    go_wp2_with fail
    with_reducible refine (isWithin_p H1.out).mono ?_
    rintro e w1 ⟨rfl, rfl⟩
    go_wp2
    go_ret
    exact ⟨ret_int HE.out.symm, rfl⟩
  · cases h2 : frB p 0 100
    · have HE : Hid (r = 0) := Lib.hid (by rw [← HR.out]; unfold lmF; rw [h1, h2]; rfl)
      have H1 := Lib.hid h1
      have H2 := Lib.hid h2
      clear h1 h2 HR
      go_enter Try.func16, Try.ntmps16
      go_wp2_with fail
      with_reducible refine (isWithin_p H1.out).mono ?_
      rintro e w1 ⟨rfl, rfl⟩
      go_wp2_with fail
      with_reducible refine (isWithin_p H2.out).mono ?_
      rintro e w1 ⟨rfl, rfl⟩
      go_wp2
      go_ret
      exact ⟨ret_int HE.out.symm, rfl⟩
    · have HE : Hid (r = max (f * p / 100) 6) := Lib.hid (by rw [← HR.out]; unfold lmF; rw [h1, h2]; rfl)
      have H1 := Lib.hid h1
      have H2 := Lib.hid h2
      obtain ⟨f0, f1⟩ := frB_iff.1 h1
      obtain ⟨p0, p1⟩ := frB_iff.1 h2
      obtain ⟨X, hX⟩ : ∃ X, f * p = X := ⟨_, rfl⟩
      have x0 : 0 ≤ X := by rw [← hX]; exact Int.mul_nonneg (by omega) p0
      have x1 : X ≤ 6400 := by
        rw [← hX]
        exact Int.le_trans (Int.mul_le_mul_of_nonneg_right f1 p0) (by omega)
      rw [hX] at HE
      have n1 : IntKind.i64.wrap (f * p) = X := by rw [hX]; exact IntWalk.i64_in _ (by omega)
      have n2 : wrap64 (f * p) = X := by rw [hX]; exact IntWalk.wrap64_in _ (by omega)
      obtain ⟨Y, hY⟩ : ∃ Y, X / 100 = Y := ⟨_, rfl⟩
      rw [hY] at HE
      have hZ : Int.tdiv X 100 = Y := by rw [Int.tdiv_eq_ediv_of_nonneg x0, hY]
      have n3 : IntKind.i64.wrap Y = Y := IntWalk.i64_in _ (by omega)
      have n4 : wrap64 Y = Y := IntWalk.wrap64_in _ (by omega)
      clear h1 h2 HR f0 f1 p0 p1 hX x0 x1 hY
      go_enter Try.func16, Try.ntmps16
      go_wp2_with fail
      with_reducible refine (isWithin_p H1.out).mono ?_
      rintro e w1 ⟨rfl, rfl⟩
      go_wp2_with fail
      with_reducible refine (isWithin_p H2.out).mono ?_
      rintro e w1 ⟨rfl, rfl⟩
      go_wp2
      all_goals
        go_ret
        exact ⟨ret_int (by rw [HE.out]; omega), rfl⟩
theorem lim_q {f p r : Int} {w : World} (hr : lmF f p = r) : Calls Try.prog 17 #[.int .i64 f, .int .i64 p] w (RetS (.int .i64 r) w) := by
  have HR := Lib.hid hr
  clear hr
  cases h1 : frB f 6 64
  · have HE : Hid (r = 0) := Lib.hid (by rw [← HR.out]; unfold lmF; rw [h1]; rfl)
    rcases frB_no h1 with h2 | ⟨h2, h3⟩
    all_goals
      clear h1 HR
      go_enter Try.func17, Try.ntmps17
      go_wp2
      go_ret
      exact ⟨ret_int HE.out.symm, rfl⟩
  · obtain ⟨f0, f1⟩ := frB_iff.1 h1
    cases h2 : frB p 0 100
    · have HE : Hid (r = 0) := Lib.hid (by rw [← HR.out]; unfold lmF; rw [h1, h2]; rfl)
      rcases frB_no h2 with h3 | ⟨h3, h4⟩
      all_goals
        clear h1 h2 HR
        go_enter Try.func17, Try.ntmps17
        go_wp2
        go_ret
        exact ⟨ret_int HE.out.symm, rfl⟩
    · have HE : Hid (r = max (f * p / 100) 6) := Lib.hid (by rw [← HR.out]; unfold lmF; rw [h1, h2]; rfl)
      obtain ⟨p0, p1⟩ := frB_iff.1 h2
      obtain ⟨X, hX⟩ : ∃ X, f * p = X := ⟨_, rfl⟩
      have x0 : 0 ≤ X := by rw [← hX]; exact Int.mul_nonneg (by omega) p0
      have x1 : X ≤ 6400 := by
        rw [← hX]
        exact Int.le_trans (Int.mul_le_mul_of_nonneg_right f1 p0) (by omega)
      rw [hX] at HE
      have n1 : IntKind.i64.wrap (f * p) = X := by rw [hX]; exact IntWalk.i64_in _ (by omega)
      have n2 : wrap64 (f * p) = X := by rw [hX]; exact IntWalk.wrap64_in _ (by omega)
      obtain ⟨Y, hY⟩ : ∃ Y, X / 100 = Y := ⟨_, rfl⟩
      rw [hY] at HE
      have hZ : Int.tdiv X 100 = Y := by rw [Int.tdiv_eq_ediv_of_nonneg x0, hY]
      have n3 : IntKind.i64.wrap Y = Y := IntWalk.i64_in _ (by omega)
      have n4 : wrap64 Y = Y := IntWalk.wrap64_in _ (by omega)
      clear h1 h2 HR hX x0 x1 hY
      go_enter Try.func17, Try.ntmps17
      go_wp2
      all_goals
        go_ret
        exact ⟨ret_int (by rw [HE.out]; omega), rfl⟩
theorem bg_p {l r : Int} {w : World} (hr : bgF l = r) (hw : -9223372036854775808 ≤ l ∧ l ≤ 9223372036854775807) : Calls Try.prog 18 #[.int .i64 l] w (RetS (.int .i64 r) w) := by
  have HR := Lib.hid hr
  clear hr
  by_cases h0 : 0 ≤ l
  · have hd : Int.tdiv l 2 = r := by rw [← HR.out, Int.tdiv_eq_ediv_of_nonneg h0]; unfold bgF; rw [Int.max_eq_left h0]
    have hb : 0 ≤ r ∧ r ≤ 9223372036854775807 := by rw [← HR.out]; unfold bgF; omega
    have n1 : IntKind.i64.wrap r = r := IntWalk.i64_in _ (by omega)
    have n2 : wrap64 r = r := IntWalk.wrap64_in _ (by omega)
    clear HR
    go_enter Try.func18, Try.ntmps18
    go_wp2
    all_goals
      go_ret
      first
      | exact ⟨rfl, rfl⟩
      | (obtain rfl : l = 0 := by omega
         exact ⟨ret_int (by rw [← hd]; decide), rfl⟩)
  · obtain rfl : r = 0 := by rw [← HR.out]; unfold bgF; omega
    clear HR
    go_enter Try.func18, Try.ntmps18
    go_wp2
    all_goals
      go_ret
      exact ⟨rfl, rfl⟩
theorem bg_q {l r : Int} {w : World} (hr : bgF l = r) (hw : -9223372036854775808 ≤ l ∧ l ≤ 9223372036854775807) : Calls Try.prog 19 #[.int .i64 l] w (RetS (.int .i64 r) w) := by
  have HR := Lib.hid hr
  clear hr
  by_cases h0 : 0 ≤ l
  · have hd : Int.tdiv l 2 = r := by rw [← HR.out, Int.tdiv_eq_ediv_of_nonneg h0]; unfold bgF; rw [Int.max_eq_left h0]
    have hb : 0 ≤ r ∧ r ≤ 9223372036854775807 := by rw [← HR.out]; unfold bgF; omega
    have n1 : IntKind.i64.wrap r = r := IntWalk.i64_in _ (by omega)
    have n2 : wrap64 r = r := IntWalk.wrap64_in _ (by omega)
    clear HR
    go_enter Try.func19, Try.ntmps19
    go_wp2
    all_goals
      go_ret
      first
      | exact ⟨rfl, rfl⟩
      | (obtain rfl : l = 0 := by omega
         exact ⟨ret_int (by rw [← hd]; decide), rfl⟩)
  · obtain rfl : r = 0 := by rw [← HR.out]; unfold bgF; omega
    clear HR
    go_enter Try.func19, Try.ntmps19
    go_wp2
    all_goals
      go_ret
      exact ⟨rfl, rfl⟩
end Go.Proofs.Ytjeelciijfpdiaa
