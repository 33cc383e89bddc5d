/- The program's groups (layer 11): isFrom, isWrong, Check. -/
import Derived.Test.YtgcblkibnihplaaGrR
import Derived.Test.YtgcblkibnihplaaTape
namespace Go.Proofs.Ytgcblkibnihplaa
open Go.RowKit Go.Mine

theorem isFrom_p {n l m : Int} {b : Bool} {w : World} (hb : frB n l m = b) : Calls Try.prog 26 #[.int .i64 n, .int .i64 l, .int .i64 m] w (RetS (.bool b) w) := by
  have HB := Lib.hid hb
  clear hb
  by_cases t1 : l ≤ n
  · by_cases t2 : n ≤ m
    · have HE : Hid (b = true) := Lib.hid (by rw [← HB.out]; exact frB_t t1 t2)
      go_enter Try.func26, Try.ntmps26
      go_wp2
      go_ret
      exact ⟨ret_bool HE.out.symm, rfl⟩
    · have HE : Hid (b = false) := Lib.hid (by rw [← HB.out]; exact frB_2 t2)
      go_enter Try.func26, Try.ntmps26
      go_wp2
      go_ret
      exact ⟨ret_bool HE.out.symm, rfl⟩
  · have HE : Hid (b = false) := Lib.hid (by rw [← HB.out]; exact frB_1 t1)
    go_enter Try.func26, Try.ntmps26
    go_wp2
    go_ret
    exact ⟨ret_bool HE.out.symm, rfl⟩
set_option maxHeartbeats 2000000 in
theorem isWrong_p {x : Gp} {b : Bool} {w : World} (hb : wrB x = b) : Calls Try.prog 20 #[gpV x] w (RetG (.bool b) w) := by
  have HB := Lib.hid hb
  clear hb
  obtain ⟨l, p, c⟩ := x
  have HG := Lib.hid ((Grew.refl w).alloc (.cells #[.int .i64 l, .int .i64 p, .int .i64 c] 33))
  cases h1 : frB l 1 64
  · have HE : Hid (b = true) := Lib.hid (by rw [← HB.out]; unfold wrB; simp [h1])
    have H1 := Lib.hid h1
    clear h1
    go_enter Try.func20, Try.ntmps20
    go_wp2_with (go_at_call 26; (with_reducible refine (isFrom_p H1.out).mono ?_); rintro e w1 ⟨rfl, rfl⟩)
    go_ret
    exact ⟨ret_bool (by rw [HE.out]), HG.out⟩
  · have H1 := Lib.hid h1
    cases h2 : frB p 0 l
    · have HE : Hid (b = true) := Lib.hid (by rw [← HB.out]; unfold wrB; simp [h1, h2])
      have H2 := Lib.hid h2
      clear h1 h2
      go_enter Try.func20, Try.ntmps20
      go_wp2_with fail
      with_reducible refine (isFrom_p H1.out).mono ?_
      rintro e w1 ⟨rfl, rfl⟩
      go_wp2_with fail
      with_reducible refine (isFrom_p H2.out).mono ?_
      rintro e w1 ⟨rfl, rfl⟩
      go_wp2
      go_ret
      exact ⟨ret_bool (by rw [HE.out]), HG.out⟩
    · have H2 := Lib.hid h2
      cases h3 : frB c 0 64
      · have HE : Hid (b = true) := Lib.hid (by rw [← HB.out]; unfold wrB; simp [h1, h2, h3])
        have H3 := Lib.hid h3
        clear h1 h2 h3
        go_enter Try.func20, Try.ntmps20
        go_wp2_with fail
        with_reducible refine (isFrom_p H1.out).mono ?_
        rintro e w1 ⟨rfl, rfl⟩
        go_wp2_with fail
        with_reducible refine (isFrom_p H2.out).mono ?_
        rintro e w1 ⟨rfl, rfl⟩
        go_wp2_with fail
        with_reducible refine (isFrom_p H3.out).mono ?_
        rintro e w1 ⟨rfl, rfl⟩
        go_wp2
        go_ret
        exact ⟨ret_bool (by rw [HE.out]), HG.out⟩
      · have HE : Hid (b = false) := Lib.hid (by rw [← HB.out]; unfold wrB; simp [h1, h2, h3])
        have H3 := Lib.hid h3
        clear h1 h2 h3
        go_enter Try.func20, Try.ntmps20
        go_wp2_with fail
        with_reducible refine (isFrom_p H1.out).mono ?_
        rintro e w1 ⟨rfl, rfl⟩
        go_wp2_with fail
        with_reducible refine (isFrom_p H2.out).mono ?_
        rintro e w1 ⟨rfl, rfl⟩
        go_wp2_with fail
        with_reducible refine (isFrom_p H3.out).mono ?_
        rintro e w1 ⟨rfl, rfl⟩
        go_wp2
        go_ret
        exact ⟨ret_bool (by rw [HE.out]), HG.out⟩
/-- The first place of a group that is not right; -1 if there is none. -/
def RetIw (L : List Gp) (w : World) (e' : Ending) (w' : World) : Prop := ∃ j : Int, e' = .returned (.int .i64 j) ∧ Grew w w' ∧ ((j = -1 ∧ L.any wrB = false) ∨ (0 ≤ j ∧ L.any wrB = true))
set_option maxHeartbeats 2000000 in
theorem indexW_p {B : Nat} {v : Value} {L : List Gp} {w : World} (h : RowE 33 3 encG w B v L) (hs : L.length ≤ 1000) :
    Calls Try.prog 25 #[v, .func (.func 20) #[] #[]] w (RetIw L w) := by
  obtain ⟨a, c, rfl, -⟩ := h.gps
  obtain ⟨n, hn⟩ : ∃ n, L.length = n := ⟨_, rfl⟩
  have HN := Lib.hid hn
  rw [hn] at h hs ⊢
  have HZ := Lib.hid h
  clear h hn
  go_enter Try.func25, Try.ntmps25
  go_wp2_with fail
  go_loopw [8] (fun iv wr => ∃ i : Nat, iv = .int .i64 i ∧ i ≤ n ∧ Hid (∀ j, j < i → wrB (L.getD j zG) = false) ∧ Grew w wr) (fun iv _ => n - (intOf iv).toNat)
  case atStart => exact ⟨0, rfl, by omega, Lib.hid fun j hj => by omega, Grew.refl _⟩
  case round =>
    obtain ⟨i, rfl, hi, HB, G⟩ := hrel
    obtain ⟨wo, rfl⟩ : ∃ wo : World, wo = wr := ⟨_, rfl⟩
    by_cases hlt : i < n
    · have hiL : i < L.length := by rw [HN.out]; exact hlt
      obtain ⟨-, g, rfl, -, hg, c0, c1, c2⟩ := (HZ.out.grew G).gat hiL
      have HNX : Hid (wrB (L.getD i zG) = false → ∀ j, j < i + 1 → wrB (L.getD j zG) = false) := Lib.hid fun h j hj => by
        by_cases e : j = i
        · rw [e]; exact h
        · exact HB.out j (by omega)
      have HAN : Hid (wrB (L.getD i zG) = true → L.any wrB = true) := Lib.hid fun h => List.any_eq_true.2 ⟨_, by rw [gD hiL]; exact List.getElem_mem hiL, h⟩
      obtain ⟨⟨xl, xp, xc⟩, hx⟩ : ∃ x, L.getD i zG = x := ⟨_, rfl⟩
      rw [hx] at c0 c1 c2 HNX HAN
      simp only at c0 c1 c2
      have hi0 : (0 : Int) ≤ (i : Int) := by omega
      have hi1 : (i : Int) < (n : Int) := by omega
      have HG := Lib.hid G
      clear hx G HB
      cases hq : wrB ⟨xl, xp, xc⟩
      · have HNX2 := Lib.hid (HNX.out hq)
        have HQ := Lib.hid hq
        clear hq HNX HAN
        go_wp2_with (go_at_call 20; (with_reducible refine (isWrong_p HQ.out).mono ?_); rintro e2 w2 ⟨rfl, g2⟩)
        have HG2 := Lib.hid (HG.out.trans g2)
        clear g2
        go_wp2
        exact ⟨⟨i + 1, by go_num, by omega, HNX2, HG2.out⟩, by simp [intOf] <;> omega⟩
      · have HAN2 := Lib.hid (HAN.out hq)
        have HQ := Lib.hid hq
        clear hq HNX HAN
        go_wp2_with (go_at_call 20; (with_reducible refine (isWrong_p HQ.out).mono ?_); rintro e2 w2 ⟨rfl, g2⟩)
        have HG2 := Lib.hid (HG.out.trans g2)
        clear g2
        go_wp2
        go_ret
        exact ⟨i, rfl, HG2.out, .inr ⟨by omega, HAN2.out⟩⟩
    · obtain rfl : i = n := by omega
      have HE : Hid (L.any wrB = false) := Lib.hid (by
        rw [List.any_eq_false]
        intro z hz
        obtain ⟨k, hk, rfl⟩ := List.getElem_of_mem hz
        have := HB.out k (by rw [← HN.out]; exact hk)
        rw [gD hk] at this
        simp [this])
      go_wp2
      go_ret
      exact ⟨-1, rfl, G, .inl ⟨rfl, HE.out⟩⟩
theorem contW_p {B : Nat} {v : Value} {L : List Gp} {w : World} (h : RowE 33 3 encG w B v L) (hs : L.length ≤ 1000) :
    Calls Try.prog 19 #[v, .func (.func 20) #[] #[]] w (RetG (.bool (L.any wrB)) w) := by
  go_enter Try.func19, Try.ntmps19
  go_wp2_with fail
  with_reducible refine (indexW_p h hs).mono ?_
  rintro e1 w1 ⟨j, rfl, g1, ⟨rfl, h2⟩ | ⟨hj, h2⟩⟩
  · go_wp2
    go_ret
    exact ⟨ret_bool h2.symm, g1⟩
  · go_wp2
    go_ret
    exact ⟨ret_bool h2.symm, g1⟩
theorem check_p {B : Nat} {v : Value} {L : List Gp} {b : Bool} {w : World} (h : RowE 33 3 encG w B v L) (hs : L.length ≤ 1000) (hb : okG L = b) : Calls Try.prog 8 #[v] w (RetG (.bool b) w) := by
  have HC := Lib.hid (fun w' (G : Grew w w') => contW_p (h.grew G) hs)
  obtain ⟨a, c, rfl, -⟩ := h.gps
  obtain ⟨n, hn⟩ : ∃ n, L.length = n := ⟨_, rfl⟩
  have HB : Hid (b = (decide (1 ≤ n ∧ n ≤ 4) && !L.any wrB)) := Lib.hid (by rw [← hn, ← hb]; rfl)
  rw [hn] at hs HC ⊢
  clear h hn hb
  by_cases t1 : 1 ≤ n
  · have t1i : (1 : Int) ≤ (n : Int) := by omega
    by_cases t2 : n ≤ 4
    · have t2i : (n : Int) ≤ 4 := by omega
      have HE : Hid (b = !L.any wrB) := Lib.hid (by rw [HB.out]; simp [t1, t2])
      clear HB
      generalize L.any wrB = q at *
      go_enter Try.func8, Try.ntmps8
      go_wp2_with fail
      with_reducible refine (HC.out _ (Grew.refl _)).mono ?_
      rintro e1 w1 ⟨rfl, g1⟩
      go_wp2
      go_ret
      exact ⟨ret_bool HE.out.symm, g1⟩
    · have HE : Hid (b = false) := Lib.hid (by rw [HB.out]; simp [t2])
      clear HB HC
      go_enter Try.func8, Try.ntmps8
      go_wp2
      go_ret
      exact ⟨ret_bool HE.out.symm, Grew.refl _⟩
  · have HE : Hid (b = false) := Lib.hid (by rw [HB.out]; simp [t1])
    clear HB HC
    go_enter Try.func8, Try.ntmps8
    go_wp2
    go_ret
    exact ⟨ret_bool HE.out.symm, Grew.refl _⟩
end Go.Proofs.Ytgcblkibnihplaa
