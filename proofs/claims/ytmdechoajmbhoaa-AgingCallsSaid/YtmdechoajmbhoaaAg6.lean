/- Dirty files by age (layer 15): without, refuse, Add, Remove, Again, Expired, Oldest, Same of the reference. -/
import Derived.Test.YtmdechoajmbhoaaAg2
import Derived.Test.YtmdechoajmbhoaaAg5
namespace Go.Proofs.Ytmdechoajmbhoaa
open Go.RowKit Go.Mine

set_option maxHeartbeats 4000000 in
theorem without_q {B : Nat} {v : Value} {L : List Du} {w : World} {f : Int} (h : RdS 2 enc2 w B v L) (hs : L.length ≤ 1000) : Calls Try.prog 33 #[v, .int .i64 f] w (fun e w' => ∃ v, e = .returned v ∧ RowE 44 2 enc2 w' w.heap.size v (outA L f) ∧ Grew w w') := by
  obtain ⟨a, c, rfl, -, -⟩ := h.slice
  have HZ := Lib.hid h
  obtain ⟨n, hn⟩ : ∃ n, L.length = n := ⟨_, rfl⟩
  have HN := Lib.hid hn
  rw [hn] at HZ hs ⊢
  clear h hn
  go_enter Try.func33, Try.ntmps33
  go_wp2_with fail
  go_loopw [5, 6] (fun fv iv wr => ∃ (i : Nat) (r : Value) (M : List Du), r = fv ∧ iv = .int .i64 i ∧ i ≤ n ∧ M.length ≤ i ∧ Hid (M = outA (L.take i) f) ∧ RowE 44 2 enc2 wr w.heap.size r M ∧ Grew w wr) (fun _ iv _ => n - (intOf iv).toNat)
  case atStart => exact ⟨0, _, [], rfl, rfl, by omega, by simp, Lib.hid rfl, RowE.nil _ _, Grew.refl _⟩
  case round =>
    obtain ⟨i, fv, M, rfl, rfl, hi, hml, HM, R, G⟩ := hrel
    obtain ⟨wo, rfl⟩ : ∃ wo : World, wo = wr := ⟨_, rfl⟩
    have HR := Lib.hid R
    have HG := Lib.hid G
    by_cases hlt : i < n
    · have hiL : i < L.length := by rw [HN.out]; exact hlt
      obtain ⟨g, o, rfl, -, hg, c0, c1⟩ := (HZ.out.grew G).at2 hiL
      have HT := Lib.hid (outA_take hiL f)
      obtain ⟨⟨df, ds⟩, hd⟩ : ∃ d, L.getD i zD = d := ⟨_, rfl⟩
      rw [show (L.getD i ((0 : Int), (0 : Int))) = (df, ds) from hd] at c0 c1
      rw [hd] at HT
      simp only at c0 c1 HT
      have hi0 : (0 : Int) ≤ (i : Int) := by omega
      have hi1 : (i : Int) < (n : Int) := by omega
      have hx6 : M.length < 1000000 := by omega
      have hz : ∀ ob, w.heap.size ≤ (wo.alloc ob).heap.size := fun ob => Nat.le_trans HG.out.size (by simp)
      clear hd R G
      by_cases hne : df = f
      · have HM2 : Hid (M = outA (L.take (i + 1)) f) := Lib.hid (by rw [HT.out, if_pos hne, ← HM.out])
        have t5 : (df != f) = false := by simp [hne]
        clear HM HT hne
        go_wp2
        exact ⟨⟨i + 1, _, M, rfl, by go_num, by omega, by omega, HM2, HR.out, HG.out⟩, by simp [intOf] <;> omega⟩
      · have HM2 : Hid (M ++ [(df, ds)] = outA (L.take (i + 1)) f) := Lib.hid (by rw [HT.out, if_neg hne, ← HM.out])
        have t5 : (df != f) = true := by simp [hne]
        clear HM HT hne
        go_wp2_with (at_builtin; go_loud (refine wpList_append_row _ rfl _ _ 26 rfl w.heap.size info_due Try.underlying26 (by decide) (by decide) enc2_len fv M rfl (HR.out.alloc _) _ _ (df, ds) rfl (Own.new _ _ _) enc2_one hx6 (by decide) (hz _) ?_; intro g7 cap w7 R7 G7 o7))
        have HR7 := Lib.hid R7
        have HG7 := Lib.hid (Grew.keptA (B := w.heap.size) (HG.out.alloc _) G7 (fun x e => HR.out.above x e) (Nat.le_refl _))
        clear o7 G7 R7
        go_roundw
        case rel => exact ⟨i + 1, _, M ++ [(df, ds)], rfl, by go_num, by omega, by simp; omega, HM2, HR7.out, HG7.out⟩
        case measure => simp [intOf]; omega
    · obtain rfl : i = n := by omega
      have HE2 : Hid (M = outA L f) := Lib.hid (by rw [HM.out, ← HN.out, List.take_length])
      clear R G
      go_wp2
      go_ret
      exact ⟨_, rfl, by rw [← HE2.out]; exact HR.out, HG.out⟩
set_option maxHeartbeats 4000000 in
theorem refuseF_q {B : Nat} {v : Value} {L : List Du} {w : World} {f n x : Int} (h : RdS 2 enc2 w B v L) (hs : L.length ≤ 1000) (hx : eF L f = x) : Calls Try.prog 29 #[v, .int .i64 f, .int .i64 n, .bool false] w (RetG (.int .i64 x) w) := by
  cases h1 : okA L
  · have HE : Hid (x = 1) := Lib.hid (hx.symm.trans (eF_0 h1))
    go_enter Try.func29, Try.ntmps29
    go_wp2_with fail
    with_reducible refine (check_q h hs h1).mono ?_
    rintro e w1 ⟨rfl, g1⟩
    go_wp2
    go_ret
    exact ⟨ret_int HE.out.symm, g1⟩
  · by_cases t0 : 0 ≤ f
    · by_cases t1 : f < 8
      · have HE : Hid (x = 0) := Lib.hid (hx.symm.trans (eF_2 h1 (fileB_t t0 t1)))
        go_enter Try.func29, Try.ntmps29
        go_wp2_with fail
        with_reducible refine (check_q h hs h1).mono ?_
        rintro e w1 ⟨rfl, g1⟩
        go_wp2
        go_ret
        exact ⟨ret_int HE.out.symm, g1⟩
      · have HE : Hid (x = 2) := Lib.hid (hx.symm.trans (eF_1 h1 (fileB_2 t1)))
        go_enter Try.func29, Try.ntmps29
        go_wp2_with fail
        with_reducible refine (check_q h hs h1).mono ?_
        rintro e w1 ⟨rfl, g1⟩
        go_wp2
        go_ret
        exact ⟨ret_int HE.out.symm, g1⟩
    · have HE : Hid (x = 2) := Lib.hid (hx.symm.trans (eF_1 h1 (fileB_1 t0)))
      go_enter Try.func29, Try.ntmps29
      go_wp2_with fail
      with_reducible refine (check_q h hs h1).mono ?_
      rintro e w1 ⟨rfl, g1⟩
      go_wp2
      go_ret
      exact ⟨ret_int HE.out.symm, g1⟩
set_option maxHeartbeats 4000000 in
theorem refuseA_q {B : Nat} {v : Value} {L : List Du} {w : World} {f n x : Int} (h : RdS 2 enc2 w B v L) (hs : L.length ≤ 1000) (hx : eA L f n = x) : Calls Try.prog 29 #[v, .int .i64 f, .int .i64 n, .bool true] w (RetG (.int .i64 x) w) := by
  cases h1 : okA L
  · have HE : Hid (x = 1) := Lib.hid (hx.symm.trans (eA_0 h1))
    go_enter Try.func29, Try.ntmps29
    go_wp2_with fail
    with_reducible refine (check_q h hs h1).mono ?_
    rintro e w1 ⟨rfl, g1⟩
    go_wp2
    go_ret
    exact ⟨ret_int HE.out.symm, g1⟩
  · by_cases t0 : 0 ≤ f
    · by_cases t1 : f < 8
      · by_cases t2 : 0 ≤ n
        · by_cases t3 : n ≤ 1000000
          · by_cases hl : L.length = 0
            · have hle : lstA L ≤ n := by rw [List.length_eq_zero_iff.1 hl, lstA_nil]; exact t2
              have HE : Hid (x = 0) := Lib.hid (hx.symm.trans (eA_4 h1 (fileB_t t0 t1) (tickB_t t2 t3) hle))
              have HC := Lib.hid (check_q h hs h1)
              obtain ⟨a, c, rfl, -, -⟩ := h.slice
              rw [hl] at HC ⊢
              clear h hx hl hle
              go_enter Try.func29, Try.ntmps29
              go_wp2_with fail
              with_reducible refine HC.out.mono ?_
              rintro e w1 ⟨rfl, g1⟩
              go_wp2
              go_ret
              exact ⟨ret_int HE.out.symm, g1⟩
            · obtain ⟨m, hm⟩ : ∃ m, L.length = m + 1 := ⟨L.length - 1, by omega⟩
              have hlast : lstA L = (L.getD m zD).2 := by rw [lstA_eq (by omega), hm, Nat.add_sub_cancel]
              have HC := Lib.hid (check_q h hs h1)
              obtain ⟨a, c, rfl, -, -⟩ := h.slice
              obtain ⟨g, o, rfl, -, hg, -, c1⟩ := h.at2 (k := m) (by omega)
              rw [show (L.getD m ((0 : Int), (0 : Int))) = L.getD m zD from rfl] at c1
              rw [hm] at HC hs ⊢
              by_cases hle : lstA L ≤ n
              · have HE : Hid (x = 0) := Lib.hid (hx.symm.trans (eA_4 h1 (fileB_t t0 t1) (tickB_t t2 t3) hle))
                rw [hlast] at hle
                generalize (L.getD m zD).2 = y at *
                have HC1 := Lib.hid (fun w' (G : Grew w w') => (G.cells.1 g _ hg).trans c1)
                clear h hx hm hl h1 c1
                go_enter Try.func29, Try.ntmps29
                go_wp2_with fail
                with_reducible refine HC.out.mono ?_
                rintro e w1 ⟨rfl, g1⟩
                have c1 := HC1.out _ g1
                have hg1 := Nat.lt_of_lt_of_le hg g1.size
                go_wp2
                go_ret
                exact ⟨ret_int HE.out.symm, g1⟩
              · have HE : Hid (x = 2) := Lib.hid (hx.symm.trans (eA_3 h1 (fileB_t t0 t1) (by omega)))
                rw [hlast] at hle
                generalize (L.getD m zD).2 = y at *
                have HC1 := Lib.hid (fun w' (G : Grew w w') => (G.cells.1 g _ hg).trans c1)
                clear h hx hm hl h1 c1
                go_enter Try.func29, Try.ntmps29
                go_wp2_with fail
                with_reducible refine HC.out.mono ?_
                rintro e w1 ⟨rfl, g1⟩
                have c1 := HC1.out _ g1
                have hg1 := Nat.lt_of_lt_of_le hg g1.size
                go_wp2
                go_ret
                exact ⟨ret_int HE.out.symm, g1⟩
          · have HE : Hid (x = 2) := Lib.hid (hx.symm.trans (eA_2 h1 (fileB_t t0 t1) (tickB_2 t3)))
            go_enter Try.func29, Try.ntmps29
            go_wp2_with fail
            with_reducible refine (check_q h hs h1).mono ?_
            rintro e w1 ⟨rfl, g1⟩
            go_wp2
            go_ret
            exact ⟨ret_int HE.out.symm, g1⟩
        · have HE : Hid (x = 2) := Lib.hid (hx.symm.trans (eA_2 h1 (fileB_t t0 t1) (tickB_1 t2)))
          go_enter Try.func29, Try.ntmps29
          go_wp2_with fail
          with_reducible refine (check_q h hs h1).mono ?_
          rintro e w1 ⟨rfl, g1⟩
          go_wp2
          go_ret
          exact ⟨ret_int HE.out.symm, g1⟩
      · have HE : Hid (x = 2) := Lib.hid (hx.symm.trans (eA_1 h1 (fileB_2 t1)))
        go_enter Try.func29, Try.ntmps29
        go_wp2_with fail
        with_reducible refine (check_q h hs h1).mono ?_
        rintro e w1 ⟨rfl, g1⟩
        go_wp2
        go_ret
        exact ⟨ret_int HE.out.symm, g1⟩
    · have HE : Hid (x = 2) := Lib.hid (hx.symm.trans (eA_1 h1 (fileB_1 t0)))
      go_enter Try.func29, Try.ntmps29
      go_wp2_with fail
      with_reducible refine (check_q h hs h1).mono ?_
      rintro e w1 ⟨rfl, g1⟩
      go_wp2
      go_ret
      exact ⟨ret_int HE.out.symm, g1⟩
set_option maxHeartbeats 4000000 in
theorem expired_q {B : Nat} {v : Value} {L : List Du} {w : World} {now age : Int} (h : RdS 2 enc2 w B v L) (hs : L.length ≤ 1000) : Calls Try.prog 16 #[v, .int .i64 now, .int .i64 age] w (RetIL (expX L now age) w) := by
  obtain ⟨a, c, rfl, -, -⟩ := h.slice
  cases h1 : okA L
  · have HE := Lib.hid (expX_0 (n := now) (a := age) h1)
    go_enter Try.func16, Try.ntmps16
    go_wp2_with fail
    with_reducible refine (check_q h hs h1).mono ?_
    rintro e w1 ⟨rfl, g1⟩
    go_wp2
    go_ret
    exact ⟨_, rfl, by rw [HE.out]; exact RdS.nil _ _ _ _ (Nat.zero_le _), g1⟩
  · by_cases t0 : 0 ≤ now
    · by_cases t1 : now ≤ 1000000
      · by_cases t2 : 0 ≤ age
        · by_cases t3 : age ≤ 1000000
          · have HE := Lib.hid (expX_3 h1 (tickB_t t0 t1) (tickB_t t2 t3))
            have HC := Lib.hid (check_q h hs h1)
            have HZ := Lib.hid h
            obtain ⟨n, hn⟩ : ∃ n, L.length = n := ⟨_, rfl⟩
            have HN := Lib.hid hn
            rw [hn] at HC HZ hs ⊢
            clear h h1 hn
            go_enter Try.func16, Try.ntmps16
            go_wp2_with fail
            with_reducible refine HC.out.mono ?_
            rintro e w1 ⟨rfl, g1⟩
            clear HC
            go_wp2_with fail
            go_loopw [7, 8] (fun fv iv wr => ∃ (i : Nat) (r : Value) (M : List Int), r = fv ∧ iv = .int .i64 i ∧ i ≤ n ∧ M.length ≤ i ∧ Hid (M = dueL (L.take i) (now - age)) ∧ RowE 3 1 enc1 wr w.heap.size r M ∧ Grew w wr) (fun _ iv _ => n - (intOf iv).toNat)
            case atStart => exact ⟨0, _, [], rfl, rfl, by omega, by simp, Lib.hid rfl, RowE.nil _ _, g1⟩
            case round =>
              obtain ⟨i, fv, M, rfl, rfl, hi, hml, HM, R, G⟩ := hrel
              obtain ⟨wo, rfl⟩ : ∃ wo : World, wo = wr := ⟨_, rfl⟩
              have HR := Lib.hid R
              have HG := Lib.hid G
              by_cases hlt : i < n
              · have hiL : i < L.length := by rw [HN.out]; exact hlt
                obtain ⟨g, o, rfl, -, hg, c0, c1⟩ := (HZ.out.grew G).at2 hiL
                have HT := Lib.hid (dueL_take hiL (now - age))
                obtain ⟨⟨df, ds⟩, hd⟩ : ∃ d, L.getD i zD = d := ⟨_, rfl⟩
                rw [show (L.getD i ((0 : Int), (0 : Int))) = (df, ds) from hd] at c0 c1
                rw [hd] at HT
                simp only at c0 c1 HT
                have hi0 : (0 : Int) ≤ (i : Int) := by omega
                have hi1 : (i : Int) < (n : Int) := by omega
                have hx6 : M.length < 1000000 := by omega
                have HGA := Lib.hid G
                have HRA := Lib.hid R
                have hz : ∀ ob, w.heap.size ≤ (wo.alloc ob).heap.size := fun ob => Nat.le_trans HGA.out.size (by simp)
                clear hd g1 R G
                by_cases hle : ds ≤ now - age
                · have HM2 : Hid (M ++ [df] = dueL (L.take (i + 1)) (now - age)) := Lib.hid (by rw [HT.out, if_pos hle, ← HM.out])
                  have t5 : decide (ds ≤ now - age) = true := decide_eq_true hle
                  clear HM HT
                  go_wp2_with (at_builtin; go_loud (refine wpList_append_row _ rfl _ _ 22 rfl w.heap.size info_i1 Try.underlying22 (by decide) (by decide) enc1_len fv M rfl (HRA.out.alloc _) _ _ df rfl (Own.new _ _ _) enc1_one hx6 (by decide) (hz _) ?_; intro g7 cap w7 R7 G7 o7))
                  have HR7 := Lib.hid R7
                  have HG7 := Lib.hid (Grew.keptA (B := w.heap.size) (HGA.out.alloc _) G7 (fun x e => HRA.out.above x e) (Nat.le_refl _))
                  clear o7 G7 R7
                  go_roundw
                  case rel => exact ⟨i + 1, _, M ++ [df], rfl, by go_num, by omega, by simp; omega, HM2, HR7.out, HG7.out⟩
                  case measure => simp [intOf]; omega
                · have HM2 : Hid (M = dueL (L.take (i + 1)) (now - age)) := Lib.hid (by rw [HT.out, if_neg hle, ← HM.out])
                  have t5 : decide (ds ≤ now - age) = false := decide_eq_false hle
                  clear HM HT
                  go_wp2
                  exact ⟨⟨i + 1, _, M, rfl, by go_num, by omega, by omega, HM2, HRA.out, HGA.out⟩, by simp [intOf] <;> omega⟩
              · obtain rfl : i = n := by omega
                have HE2 : Hid (M = expX L now age) := Lib.hid (by rw [HE.out, HM.out, ← HN.out, List.take_length])
                clear R G g1
                go_wp2
                go_ret
                exact ⟨_, rfl, by rw [← HE2.out]; exact RowE.rdS enc1_len HR.out, HG.out⟩
          · have HE := Lib.hid (expX_2 (L := L) (n := now) (tickB_2 t3))
            go_enter Try.func16, Try.ntmps16
            go_wp2_with fail
            with_reducible refine (check_q h hs h1).mono ?_
            rintro e w1 ⟨rfl, g1⟩
            go_wp2
            go_ret
            exact ⟨_, rfl, by rw [HE.out]; exact RdS.nil _ _ _ _ (Nat.zero_le _), g1⟩
        · have HE := Lib.hid (expX_2 (L := L) (n := now) (tickB_1 t2))
          go_enter Try.func16, Try.ntmps16
          go_wp2_with fail
          with_reducible refine (check_q h hs h1).mono ?_
          rintro e w1 ⟨rfl, g1⟩
          go_wp2
          go_ret
          exact ⟨_, rfl, by rw [HE.out]; exact RdS.nil _ _ _ _ (Nat.zero_le _), g1⟩
      · have HE := Lib.hid (expX_1 (L := L) (a := age) (tickB_2 t1))
        go_enter Try.func16, Try.ntmps16
        go_wp2_with fail
        with_reducible refine (check_q h hs h1).mono ?_
        rintro e w1 ⟨rfl, g1⟩
        go_wp2
        go_ret
        exact ⟨_, rfl, by rw [HE.out]; exact RdS.nil _ _ _ _ (Nat.zero_le _), g1⟩
    · have HE := Lib.hid (expX_1 (L := L) (a := age) (tickB_1 t0))
      go_enter Try.func16, Try.ntmps16
      go_wp2_with fail
      with_reducible refine (check_q h hs h1).mono ?_
      rintro e w1 ⟨rfl, g1⟩
      go_wp2
      go_ret
      exact ⟨_, rfl, by rw [HE.out]; exact RdS.nil _ _ _ _ (Nat.zero_le _), g1⟩
theorem oldest_q {B : Nat} {v : Value} {L : List Du} {w : World} {x : Int × Bool} (h : RdS 2 enc2 w B v L) (hs : L.length ≤ 1000) (hx : oldX L = x) : Calls Try.prog 18 #[v] w (RetG (oldV x) w) := by
  have HH := Lib.hid h
  obtain ⟨a, c, rfl, -, -⟩ := h.slice
  cases L with
  | nil =>
    subst hx
    have HC := Lib.hid (check_q h hs okA_nil)
    rw [List.length_nil] at HC ⊢
    clear h
    go_enter Try.func18, Try.ntmps18
    go_wp2_with fail
    with_reducible refine HC.out.mono ?_
    rintro e w1 ⟨rfl, g1⟩
    go_wp2
    refine bodyPost_ret (v := .tuple #[.int .i64 0, .bool false]) (by simp [results, Try.results18, go_sem]) rfl ?_
    exact ⟨rfl, g1⟩
  | cons d L =>
    have hc0 := h.at2 (k := 0) (Nat.succ_pos _)
    obtain ⟨m, hm⟩ : ∃ m, L.length = m := ⟨_, rfl⟩
    have hln : (d :: L).length = m + 1 := by rw [List.length_cons, hm]
    cases h1 : okA (d :: L)
    · have HE : Hid (x = (0, false)) := Lib.hid (hx.symm.trans (oldX_0 h1))
      have HC := Lib.hid (check_q h hs h1)
      rw [hln] at HC ⊢
      clear h HH hx hc0 h1 hs hln
      go_enter Try.func18, Try.ntmps18
      go_wp2_with fail
      with_reducible refine HC.out.mono ?_
      rintro e w1 ⟨rfl, g1⟩
      go_wp2
      refine bodyPost_ret (v := .tuple #[.int .i64 0, .bool false]) (by simp [results, Try.results18, go_sem]) rfl ?_
      exact ⟨by rw [HE.out], g1⟩
    · have HE : Hid (x = (d.1, true)) := Lib.hid (hx.symm.trans (oldX_2 h1))
      have HC := Lib.hid (check_q h hs h1)
      rw [hln] at HC ⊢
      obtain ⟨df, ds⟩ := d
      obtain ⟨g, o, rfl, -, hg, c0, -⟩ := hc0
      simp only [List.getD_cons_zero, Nat.zero_mul, Nat.add_zero] at c0
      simp only at HE
      have HC0 := Lib.hid (fun w' (G : Grew w w') => (G.cells.1 g o hg).trans c0)
      clear h HH hx h1 hs hln c0
      go_enter Try.func18, Try.ntmps18
      go_wp2_with fail
      with_reducible refine HC.out.mono ?_
      rintro e w1 ⟨rfl, g1⟩
      have c1 := HC0.out _ g1
      have hg1 := Nat.lt_of_lt_of_le hg g1.size
      go_wp2
      refine bodyPost_ret (v := .tuple #[.int .i64 df, .bool true]) (by simp [results, Try.results18, go_sem]) rfl ?_
      exact ⟨by rw [HE.out], g1⟩
set_option maxRecDepth 100000 in
set_option maxHeartbeats 4000000 in
theorem remove_q {B : Nat} {v : Value} {L : List Du} {w : World} {f : Int} (h : RdS 2 enc2 w B v L) (hB : B ≤ w.heap.size) (hs : L.length ≤ 500) : Calls Try.prog 12 #[v, .int .i64 f] w (RetAE B (remX L f) w) := by
  have hs2 : L.length ≤ 1000 := by omega
  have HH := Lib.hid h
  have HB := Lib.hid hB
  obtain ⟨a, c, rfl, -, -⟩ := h.slice
  clear h
  obtain ⟨e, he⟩ : ∃ e, eF L f = e := ⟨_, rfl⟩
  have HE := Lib.hid he
  by_cases h0 : e = 0
  · subst h0
    cases h1 : hasA L f
    · have HX := Lib.hid (remX_n he h1)
      have H1 := Lib.hid h1
      clear he h1 hB
      go_enter Try.func12, Try.ntmps12
      go_wp2_with fail
      with_reducible refine (refuseF_q HH.out hs2 HE.out).mono ?_
      rintro e w1 ⟨rfl, g1⟩
      have HH1 := Lib.hid (HH.out.grew g1)
      have HG1 := Lib.hid g1
      clear g1
      go_wp2_with fail
      with_reducible refine (has_q HH1.out hs2 H1.out).mono ?_
      rintro e w2 ⟨rfl, g2⟩
      have HH2 := Lib.hid (HH1.out.grew g2)
      have HG2 := Lib.hid (HG1.out.trans g2)
      clear g2
      go_wp2
      refine bodyPost_ret (v := .tuple #[.slice a L.length c, .int .i64 4]) (by simp [results, Try.results12, go_sem]) rfl ?_
      exact ⟨_, by rw [HX.out], by rw [HX.out]; exact HH2.out, HG2.out⟩
    · have HX := Lib.hid (remX_h he h1)
      have H1 := Lib.hid h1
      clear he h1 hB
      go_enter Try.func12, Try.ntmps12
      go_wp2_with fail
      with_reducible refine (refuseF_q HH.out hs2 HE.out).mono ?_
      rintro e w1 ⟨rfl, g1⟩
      have HH1 := Lib.hid (HH.out.grew g1)
      have HG1 := Lib.hid g1
      clear g1
      go_wp2_with fail
      with_reducible refine (has_q HH1.out hs2 H1.out).mono ?_
      rintro e w2 ⟨rfl, g2⟩
      have HH2 := Lib.hid (HH1.out.grew g2)
      have HG2 := Lib.hid (HG1.out.trans g2)
      clear g2
      go_wp2_with fail
      with_reducible refine (without_q HH2.out hs2).mono ?_
      rintro e w3 ⟨v3, rfl, R3, g3⟩
      have HR3 := Lib.hid (R3.wider (Nat.le_trans HB.out HG2.out.size))
      have HG3 := Lib.hid (HG2.out.trans g3)
      clear R3 g3
      go_wp2
      refine bodyPost_ret (v := .tuple #[v3, .int .i64 0]) (by simp [results, Try.results12, go_sem]) rfl ?_
      exact ⟨v3, by rw [HX.out], by rw [HX.out]; exact RowE.rdS enc2_len HR3.out, HG3.out⟩
  · have HX := Lib.hid (remX_e he h0)
    have hne : (e != 0) = true := by simp [h0]
    clear he hB
    go_enter Try.func12, Try.ntmps12
    go_wp2_with fail
    with_reducible refine (refuseF_q HH.out hs2 HE.out).mono ?_
    rintro e9 w1 ⟨rfl, g1⟩
    have HH1 := Lib.hid (HH.out.grew g1)
    have HG1 := Lib.hid g1
    clear g1
    go_wp2
    refine bodyPost_ret (v := .tuple #[.slice a L.length c, .int .i64 e]) (by simp [results, Try.results12, go_sem]) rfl ?_
    exact ⟨_, by rw [HX.out], by rw [HX.out]; exact HH1.out, HG1.out⟩
set_option maxRecDepth 100000 in
set_option maxHeartbeats 4000000 in
theorem add_q {B : Nat} {v : Value} {L : List Du} {w : World} {f n : Int} (h : RdS 2 enc2 w B v L) (hB : B ≤ w.heap.size) (hs : L.length ≤ 500) : Calls Try.prog 10 #[v, .int .i64 f, .int .i64 n] w (RetAE B (addX L f n) w) := by
  have hs2 : L.length ≤ 1000 := by omega
  have HH := Lib.hid h
  have HB := Lib.hid hB
  obtain ⟨a, c, rfl, -, -⟩ := h.slice
  clear h
  obtain ⟨e, he⟩ : ∃ e, eA L f n = e := ⟨_, rfl⟩
  have HE := Lib.hid he
  by_cases h0 : e = 0
  · subst h0
    cases h1 : hasA L f
    · have HX := Lib.hid (addX_n he h1)
      have H1 := Lib.hid h1
      clear he h1 hB
      go_enter Try.func10, Try.ntmps10
      go_wp2_with fail
      with_reducible refine (refuseA_q HH.out hs2 HE.out).mono ?_
      rintro e w1 ⟨rfl, g1⟩
      have HH1 := Lib.hid (HH.out.grew g1)
      have HG1 := Lib.hid g1
      clear g1
      go_wp2_with fail
      with_reducible refine (has_q HH1.out hs2 H1.out).mono ?_
      rintro e w2 ⟨rfl, g2⟩
      have HH2 := Lib.hid (HH1.out.grew g2)
      have HG2 := Lib.hid (HG1.out.trans g2)
      clear g2
      obtain ⟨hln, -, hlies⟩ := HH2.out.lies enc2_len
      have HL2 := Lib.hid hlies
      have hx6 : ([] : List Du).length + L.length < 1000000 := by simp; omega
      have hx7 : L.length < 1000000 := by omega
      have hz2 : w.heap.size ≤ w2.heap.size := HG2.out.size
      clear hlies hln
      go_wp2_with (at_builtin; go_loud (first
        | (refine wpList_append_src _ rfl _ _ 26 rfl w.heap.size info_due Try.underlying26 (by decide) (by decide) enc2_len (fun z => enc2_one) (.slice none 0 0) [] rfl (RowE.nil _ _) _ _ _ L rfl rfl HL2.out hx6 (by decide) hz2 ?_
           intro v3 w3 R3 G3 o3
           rw [List.nil_append] at R3
           have HR3 := Lib.hid R3
           have HG3 := Lib.hid (Grew.keptA (B := w.heap.size) HG2.out G3 (fun x e => by simp [Value.ownBlock] at e) (Nat.le_refl _))
           have hz3 : ∀ ob, w.heap.size ≤ (w3.alloc ob).heap.size := fun ob => Nat.le_trans HG3.out.size (by simp)
           clear o3 R3 G3)
        | (refine wpList_append_row _ rfl _ _ 26 rfl w.heap.size info_due Try.underlying26 (by decide) (by decide) enc2_len v3 L rfl (HR3.out.alloc _) _ _ (f, n) rfl (Own.new _ _ _) enc2_one hx7 (by decide) (hz3 _) ?_
           intro g7 cap w7 R7 G7 o7)))
      have HR7 := Lib.hid R7
      have HG7 := Lib.hid (Grew.keptA (B := w.heap.size) (HG3.out.alloc _) G7 (fun x e => HR3.out.above x e) (Nat.le_refl _))
      clear o7 G7 R7
      go_wp2
      refine bodyPost_ret (v := .tuple #[.slice (some ⟨g7, 0, none⟩) (L.length + 1) cap, .int .i64 0]) (by simp [results, Try.results10, go_sem]) rfl ?_
      exact ⟨_, by rw [HX.out], by rw [HX.out]; exact (RowE.rdS enc2_len HR7.out).wider HB.out, HG7.out⟩
    · have HX := Lib.hid (addX_h he h1)
      have H1 := Lib.hid h1
      clear he h1 hB
      go_enter Try.func10, Try.ntmps10
      go_wp2_with fail
      with_reducible refine (refuseA_q HH.out hs2 HE.out).mono ?_
      rintro e w1 ⟨rfl, g1⟩
      have HH1 := Lib.hid (HH.out.grew g1)
      have HG1 := Lib.hid g1
      clear g1
      go_wp2_with fail
      with_reducible refine (has_q HH1.out hs2 H1.out).mono ?_
      rintro e w2 ⟨rfl, g2⟩
      have HH2 := Lib.hid (HH1.out.grew g2)
      have HG2 := Lib.hid (HG1.out.trans g2)
      clear g2
      go_wp2
      refine bodyPost_ret (v := .tuple #[.slice a L.length c, .int .i64 0]) (by simp [results, Try.results10, go_sem]) rfl ?_
      exact ⟨_, by rw [HX.out], by rw [HX.out]; exact HH2.out, HG2.out⟩
  · have HX := Lib.hid (addX_e he h0)
    have hne : (e != 0) = true := by simp [h0]
    clear he hB
    go_enter Try.func10, Try.ntmps10
    go_wp2_with fail
    with_reducible refine (refuseA_q HH.out hs2 HE.out).mono ?_
    rintro e9 w1 ⟨rfl, g1⟩
    have HH1 := Lib.hid (HH.out.grew g1)
    have HG1 := Lib.hid g1
    clear g1
    go_wp2
    refine bodyPost_ret (v := .tuple #[.slice a L.length c, .int .i64 e]) (by simp [results, Try.results10, go_sem]) rfl ?_
    exact ⟨_, by rw [HX.out], by rw [HX.out]; exact HH1.out, HG1.out⟩
set_option maxRecDepth 100000 in
set_option maxHeartbeats 4000000 in
theorem again_q {B : Nat} {v : Value} {L : List Du} {w : World} {f n : Int} (h : RdS 2 enc2 w B v L) (hB : B ≤ w.heap.size) (hs : L.length ≤ 500) : Calls Try.prog 14 #[v, .int .i64 f, .int .i64 n] w (RetAE B (agaX L f n) w) := by
  have hs2 : L.length ≤ 1000 := by omega
  have HH := Lib.hid h
  have HB := Lib.hid hB
  obtain ⟨a, c, rfl, -, -⟩ := h.slice
  clear h
  obtain ⟨e, he⟩ : ∃ e, eA L f n = e := ⟨_, rfl⟩
  have HE := Lib.hid he
  by_cases h0 : e = 0
  · subst h0
    cases h1 : hasA L f
    · have HX := Lib.hid (agaX_n he h1)
      have H1 := Lib.hid h1
      clear he h1 hB
      go_enter Try.func14, Try.ntmps14
      go_wp2_with fail
      with_reducible refine (refuseA_q HH.out hs2 HE.out).mono ?_
      rintro e w1 ⟨rfl, g1⟩
      have HH1 := Lib.hid (HH.out.grew g1)
      have HG1 := Lib.hid g1
      clear g1
      go_wp2_with fail
      with_reducible refine (has_q HH1.out hs2 H1.out).mono ?_
      rintro e w2 ⟨rfl, g2⟩
      have HH2 := Lib.hid (HH1.out.grew g2)
      have HG2 := Lib.hid (HG1.out.trans g2)
      clear g2
      go_wp2
      refine bodyPost_ret (v := .tuple #[.slice a L.length c, .int .i64 4]) (by simp [results, Try.results14, go_sem]) rfl ?_
      exact ⟨_, by rw [HX.out], by rw [HX.out]; exact HH2.out, HG2.out⟩
    · have HX := Lib.hid (agaX_h he h1)
      have H1 := Lib.hid h1
      clear he h1 hB
      go_enter Try.func14, Try.ntmps14
      go_wp2_with fail
      with_reducible refine (refuseA_q HH.out hs2 HE.out).mono ?_
      rintro e w1 ⟨rfl, g1⟩
      have HH1 := Lib.hid (HH.out.grew g1)
      have HG1 := Lib.hid g1
      clear g1
      go_wp2_with fail
      with_reducible refine (has_q HH1.out hs2 H1.out).mono ?_
      rintro e w2 ⟨rfl, g2⟩
      have HH2 := Lib.hid (HH1.out.grew g2)
      have HG2 := Lib.hid (HG1.out.trans g2)
      clear g2
      go_wp2_with fail
      with_reducible refine (without_q HH2.out hs2).mono ?_
      rintro e w3 ⟨v3, rfl, R3, g3⟩
      have HR3 := Lib.hid (R3.wider HG2.out.size)
      have HG3 := Lib.hid (HG2.out.trans g3)
      clear R3 g3
      have hx6 : (outA L f).length < 1000000 := by have := outA_len L f; omega
      have hz : ∀ ob, w.heap.size ≤ (w3.alloc ob).heap.size := fun ob => Nat.le_trans HG3.out.size (by simp)
      go_wp2_with (at_builtin; go_loud (refine wpList_append_row _ rfl _ _ 26 rfl w.heap.size info_due Try.underlying26 (by decide) (by decide) enc2_len v3 (outA L f) rfl (HR3.out.alloc _) _ _ (f, n) rfl (Own.new _ _ _) enc2_one hx6 (by decide) (hz _) ?_; intro g7 cap w7 R7 G7 o7))
      have HR7 := Lib.hid R7
      have HG7 : Hid (Grew w w7) := Lib.hid (Grew.keptA (B := w.heap.size) (HG3.out.alloc _) G7 (fun x e => HR3.out.above x e) (Nat.le_refl _))
      clear o7 G7 R7
      go_wp2
      refine bodyPost_ret (v := .tuple #[.slice (some ⟨g7, 0, none⟩) ((outA L f).length + 1) cap, .int .i64 0]) (by simp [results, Try.results14, go_sem]) rfl ?_
      exact ⟨_, by rw [HX.out], by rw [HX.out]; exact (RowE.rdS enc2_len HR7.out).wider HB.out, HG7.out⟩
  · have HX := Lib.hid (agaX_e he h0)
    have hne : (e != 0) = true := by simp [h0]
    clear he hB
    go_enter Try.func14, Try.ntmps14
    go_wp2_with fail
    with_reducible refine (refuseA_q HH.out hs2 HE.out).mono ?_
    rintro e9 w1 ⟨rfl, g1⟩
    have HH1 := Lib.hid (HH.out.grew g1)
    have HG1 := Lib.hid g1
    clear g1
    go_wp2
    refine bodyPost_ret (v := .tuple #[.slice a L.length c, .int .i64 e]) (by simp [results, Try.results14, go_sem]) rfl ?_
    exact ⟨_, by rw [HX.out], by rw [HX.out]; exact HH1.out, HG1.out⟩
set_option maxHeartbeats 4000000 in
/-- Equal lists are the same. -/
theorem same_q {B : Nat} {v u : Value} {L : List Du} {w : World} (h : RdS 2 enc2 w B v L) (k : RdS 2 enc2 w B u L) (hs : L.length ≤ 1000) : Calls Try.prog 21 #[v, u] w (RetG (.bool true) w) := by
  obtain ⟨a, c, rfl, -, -⟩ := h.slice
  obtain ⟨a', c', rfl, -, -⟩ := k.slice
  have HZ := Lib.hid h
  have HY := Lib.hid k
  obtain ⟨n, hn⟩ : ∃ n, L.length = n := ⟨_, rfl⟩
  have HN := Lib.hid hn
  rw [hn] at HZ HY hs ⊢
  clear h k hn
  go_enter Try.func21, Try.ntmps21
  go_wp2_with fail
  go_loopw [5] (fun iv wr => ∃ i : Nat, iv = .int .i64 i ∧ i ≤ n ∧ Grew w wr) (fun iv _ => n - (intOf iv).toNat)
  case atStart => exact ⟨0, rfl, by omega, Grew.refl _⟩
  case round =>
    obtain ⟨i, rfl, hi, G⟩ := hrel
    obtain ⟨wo, rfl⟩ : ∃ wo : World, wo = wr := ⟨_, rfl⟩
    by_cases hlt : i < n
    · have hiL : i < L.length := by rw [HN.out]; exact hlt
      obtain ⟨g, o, rfl, -, hg, c0, c1⟩ := (HZ.out.grew G).at2 hiL
      obtain ⟨g', o', rfl, -, hg', d0, d1⟩ := (HY.out.grew G).at2 hiL
      generalize (L.getD i ((0 : Int), (0 : Int))) = d at *
      obtain ⟨df, ds⟩ := d
      simp only at c0 c1 d0 d1
      have hi0 : (0 : Int) ≤ (i : Int) := by omega
      have hi1 : (i : Int) < (n : Int) := by omega
      have HG := Lib.hid G
      clear G
      go_wp2
      go_quiet (fail)
      revert nq; intro nq1
      go_wp2
      exact ⟨⟨i + 1, by go_num, by omega, HG.out.drewN _⟩, by simp [intOf] <;> omega⟩
    · obtain rfl : i = n := by omega
      go_wp2
      go_ret
      exact ⟨rfl, G⟩
end Go.Proofs.Ytmdechoajmbhoaa
