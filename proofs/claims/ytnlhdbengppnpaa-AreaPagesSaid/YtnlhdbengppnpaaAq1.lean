/- Areas (layer 16): Find, Room, Shown, Same of the answer. -/
import Derived.Test.YtnlhdbengppnpaaAr9
namespace Go.Proofs.Ytnlhdbengppnpaa
open Go.RowKit Go.Mine

set_option maxHeartbeats 4000000 in
theorem find_q {B : Nat} {v : Value} {L : List Ar} {p : Int} {x : Ar × Bool} {w : World} (h : RdS 5 enc5 w B v L) (hs : L.length ≤ 1000) (hx : fdX L p = x) : Calls Try.prog 15 #[v, .int .i64 p] w (RetG (fdV x) w) := by
  have HX := Lib.hid hx
  have HH := Lib.hid (h.alloc (.cells #[.int .i64 0, .int .i64 0, .int .i64 0, .int .i64 0, .bool false] 30))
  have HO := Lib.hid (Own.new w 30 #[.int .i64 0, .int .i64 0, .int .i64 0, .int .i64 0, .bool false])
  have HG := Lib.hid ((Grew.refl w).alloc (.cells #[.int .i64 0, .int .i64 0, .int .i64 0, .int .i64 0, .bool false] 30))
  clear h hx
  cases h1 : okR L
  · have HE : Hid (x = (zR, false)) := Lib.hid (HX.out.symm.trans (fdX_n (fndR_0 h1)))
    have H1 := Lib.hid h1
    clear h1
    go_enter Try.func15, Try.ntmps15
    go_wp2_with fail
    with_reducible refine (check_q HH.out hs H1.out).mono ?_
    rintro e9 w1 ⟨rfl, g1⟩
    have HG1 := Lib.hid (HG.out.trans g1)
    have HO1 := Lib.hid (HO.out.grew g1)
    obtain ⟨x0, x1, x2, x3, x4⟩ := HO1.out.five
    obtain ⟨y0, y1, y2, y3, y4⟩ := HO1.out.five0
    clear g1
    go_wp2
    generalize hw : World.setCell (World.setCell (World.setCell (World.setCell (World.setCell w1 _ _) _ _) _ _) _ _) _ _ = E
    obtain ⟨b0, b1, b2, b3, b4⟩ := (HO1.out.store5 hw).five
    refine bodyPost_ret (v := fdV (zR, false)) (by simp [results, Try.results15, go_sem, b0, b1, b2, b3, b4]) rfl ?_
    exact ⟨by rw [HE.out], HG1.out.far5 hw (Nat.le_refl _)⟩
  · have H1 := Lib.hid h1
    obtain ⟨a0, c, rfl, -, -⟩ := HH.out.slice
    have HC := Lib.hid (check_q HH.out hs H1.out)
    obtain ⟨n, hn⟩ : ∃ n, L.length = n := ⟨_, rfl⟩
    have HN := Lib.hid hn
    have hs := (okR_iff.1 h1).1
    rw [hn] at HH HC hs ⊢
    clear hn h1
    go_enter Try.func15, Try.ntmps15
    go_wp2_with fail
    with_reducible refine HC.out.mono ?_
    rintro e9 w1 ⟨rfl, g1⟩
    have HG1 := Lib.hid (HG.out.trans g1)
    have HO1 := Lib.hid (HO.out.grew g1)
    have HZ := Lib.hid (HH.out.grew g1)
    clear g1 HC HG HO HH
    go_wp2_with fail
    go_loopw [6] (fun iv wr => ∃ (i : Nat), iv = .int .i64 i ∧ i ≤ n ∧ Hid (∀ j, j < i → hitR (L.getD j zR) p = false) ∧ Own wr w.heap.size 30 #[.int .i64 0, .int .i64 0, .int .i64 0, .int .i64 0, .bool false] ∧ Grew w1 wr) (fun iv _ => n - (intOf iv).toNat)
    case atStart => exact ⟨0, rfl, by omega, Lib.hid (fun j hj => by omega), HO1.out, Grew.refl _⟩
    case round =>
      obtain ⟨i, rfl, hi, HK, O, G⟩ := hrel
      obtain ⟨wo, rfl⟩ : ∃ wo : World, wo = wr := ⟨_, rfl⟩
      clear HO1
      have HO := Lib.hid O
      have HGG := Lib.hid G
      clear O
      by_cases hlt : i < n
      · have hiL : i < L.length := by rw [HN.out]; exact hlt
        obtain ⟨g, o, rfl, hBg, hg, c0, c1, c2, c3, c4⟩ := (HZ.out.grew G).at5 hiL
        have r := rtD' H1.out hiL
        have HYE : Hid (hitR (L.getD i zR) p = true → x = (L.getD i zR, true)) := Lib.hid (fun h => HX.out.symm.trans (fdX_s (by rw [fndR_1 H1.out]; exact findR_at hiL h HK.out)))
        have HNX : Hid (hitR (L.getD i zR) p = false → ∀ j, j < i + 1 → hitR (L.getD j zR) p = false) := Lib.hid (fun h j hj => by
          by_cases e : j = i
          · rw [e]; exact h
          · exact HK.out j (by omega))
        generalize L.getD i zR = d at *
        have hi0 : (0 : Int) ≤ (i : Int) := by omega
        have hi1 : (i : Int) < (n : Int) := by omega
        have hw0 : IntKind.i64.wrap (d.s + d.n) = d.s + d.n := IntWalk.i64_in _ (by omega)
        have HGA := Lib.hid (HG1.out.trans G)
        clear r G HK
        by_cases q1 : d.s ≤ p
        · have e1 : decide (d.s ≤ p) = true := decide_eq_true q1
          by_cases q2 : p < d.s + d.n
          · have HE := Lib.hid (HYE.out (hitR_iff.2 ⟨q1, q2⟩))
            have e2 : decide (p < d.s + d.n) = true := decide_eq_true q2
            obtain ⟨z0, z1, z2, z3, z4⟩ := HO.out.five
            obtain ⟨y0, y1, y2, y3, y4⟩ := HO.out.five0
            have hlO := HO.out.lt
            clear HYE HNX
            go_wp2
            go_quiet (fail)
            revert nq; intro nq1
            go_wp2
            generalize hw : World.setCell (World.setCell (World.setCell (World.setCell (World.setCell (wo.drewN nq1) _ _) _ _) _ _) _ _) _ _ = E
            obtain ⟨b0, b1, b2, b3, b4⟩ := ((HO.out.drewN nq1).store5 hw).five
            refine bodyPost_ret (v := fdV (d, true)) (by simp [results, Try.results15, go_sem, b0, b1, b2, b3, b4]) rfl ?_
            exact ⟨by rw [HE.out], (HGA.out.drewN nq1).far5 hw (Nat.le_refl _)⟩
          · have HE := Lib.hid (HNX.out (hitR_no (.inr (by unfold endA; omega))))
            have e2 : decide (p < d.s + d.n) = false := decide_eq_false q2
            clear HYE HNX
            go_wp2
            go_quiet (fail)
            revert nq; intro nq1
            go_wp2
            exact ⟨⟨i + 1, by go_num, by omega, HE, HO.out.drewN _, HGG.out.drewN _⟩, by simp [intOf] <;> omega⟩
        · have HE := Lib.hid (HNX.out (hitR_no (.inl (by omega))))
          have e1 : decide (d.s ≤ p) = false := decide_eq_false q1
          clear HYE HNX
          go_wp2
          go_quiet (fail)
          revert nq; intro nq1
          go_wp2
          exact ⟨⟨i + 1, by go_num, by omega, HE, HO.out.drewN _, HGG.out.drewN _⟩, by simp [intOf] <;> omega⟩
      · obtain rfl : i = n := by omega
        have HE : Hid (x = (zR, false)) := Lib.hid (HX.out.symm.trans (fdX_n (by rw [fndR_1 H1.out]; exact findR_none.2 (by rw [HN.out]; exact HK.out))))
        obtain ⟨z0, z1, z2, z3, z4⟩ := HO.out.five
        obtain ⟨y0, y1, y2, y3, y4⟩ := HO.out.five0
        clear G
        go_wp2
        generalize hw : World.setCell (World.setCell (World.setCell (World.setCell (World.setCell wo _ _) _ _) _ _) _ _) _ _ = E
        obtain ⟨b0, b1, b2, b3, b4⟩ := (HO.out.store5 hw).five
        refine bodyPost_ret (v := fdV (zR, false)) (by simp [results, Try.results15, go_sem, b0, b1, b2, b3, b4]) rfl ?_
        exact ⟨by rw [HE.out], (HG1.out.trans HGG.out).far5 hw (Nat.le_refl _)⟩
set_option maxHeartbeats 4000000 in
/-- Equal lists are the same. -/
theorem same_q {B : Nat} {v u : Value} {L : List Ar} {w : World} (h : RdS 5 enc5 w B v L) (k : RdS 5 enc5 w B u L) (hs : L.length ≤ 1000) : Calls Try.prog 22 #[v, u] w (RetG (.bool true) w) := by
  obtain ⟨a, c, rfl, -, -⟩ := h.slice
  obtain ⟨a', c', rfl, -, -⟩ := k.slice
  have HZ := Lib.hid h
  have HY := Lib.hid k
  obtain ⟨n, hn⟩ : ∃ n, L.length = n := ⟨_, rfl⟩
  have HN := Lib.hid hn
  rw [hn] at HZ HY hs ⊢
  have hdd : ∀ (w : World) (d : Ar), (binOp .neq 30 (arV d) (arV d)).run Try.prog w = .ok (.bool false) w := fun w d => (run_neq5 w d d).trans (by simp)
  clear h k hn
  go_enter Try.func22, Try.ntmps22
  go_wp2_with fail
  go_loopw [5] (fun iv wr => ∃ i : Nat, iv = .int .i64 i ∧ i ≤ n ∧ Grew w wr) (fun iv _ => n - (intOf iv).toNat)
  case atStart => exact ⟨0, rfl, by omega, Grew.refl _⟩
  case round =>
    obtain ⟨i, rfl, hi, G⟩ := hrel
    obtain ⟨wo, rfl⟩ : ∃ wo : World, wo = wr := ⟨_, rfl⟩
    by_cases hlt : i < n
    · have hiL : i < L.length := by rw [HN.out]; exact hlt
      obtain ⟨g, o, rfl, -, hg, c0, c1, c2, c3, c4⟩ := (HZ.out.grew G).at5 hiL
      obtain ⟨g', o', rfl, -, hg', d0, d1, d2, d3, d4⟩ := (HY.out.grew G).at5 hiL
      generalize L.getD i zR = d at *
      have hi0 : (0 : Int) ≤ (i : Int) := by omega
      have hi1 : (i : Int) < (n : Int) := by omega
      have HG := Lib.hid G
      clear G
      go_wp2
      go_quiet (fail)
      revert nq; intro nq1
      go_wp2
      exact ⟨⟨i + 1, by go_num, by omega, HG.out.drewN _⟩, by simp [intOf] <;> omega⟩
    · obtain rfl : i = n := by omega
      go_wp2
      go_ret
      exact ⟨rfl, G⟩
set_option maxHeartbeats 4000000 in
theorem room_q {B : Nat} {v : Value} {L : List Ar} {m : Int} {x : Int × Bool} {w : World} (h : RdS 5 enc5 w B v L) (hs : L.length ≤ 1000) (hx : rmR L m = x) : Calls Try.prog 17 #[v, .int .i64 m] w (RetG (rmV x) w) := by
  have HX := Lib.hid hx
  have HH := Lib.hid h
  clear h hx
  cases h1 : okR L
  · have HE : Hid (x = (0, false)) := Lib.hid (HX.out.symm.trans (rmR_0 h1))
    have H1 := Lib.hid h1
    clear h1
    go_enter Try.func17, Try.ntmps17
    go_wp2_with fail
    with_reducible refine (check_q HH.out hs H1.out).mono ?_
    rintro e9 w1 ⟨rfl, g1⟩
    go_wp2
    refine bodyPost_ret (v := rmV (0, false)) (by simp [results, Try.results17, go_sem]) rfl ?_
    exact ⟨by rw [HE.out], g1⟩
  have H1 := Lib.hid h1
  clear h1
  by_cases hm : m < 1
  · have HE : Hid (x = (0, false)) := Lib.hid (HX.out.symm.trans (rmR_1 hm))
    have hm0 : decide (m < 1) = true := decide_eq_true hm
    go_enter Try.func17, Try.ntmps17
    go_wp2_with fail
    with_reducible refine (check_q HH.out hs H1.out).mono ?_
    rintro e9 w1 ⟨rfl, g1⟩
    go_wp2
    refine bodyPost_ret (v := rmV (0, false)) (by simp [results, Try.results17, go_sem]) rfl ?_
    exact ⟨by rw [HE.out], g1⟩
  have hm0 : decide (m < 1) = false := decide_eq_false hm
  by_cases hm2 : 64 < m
  · have HE : Hid (x = (0, false)) := Lib.hid (HX.out.symm.trans (rmR_miss H1.out (fun r h1 h2 => by omega)))
    have hm3 : decide (64 < m) = true := decide_eq_true hm2
    go_enter Try.func17, Try.ntmps17
    go_wp2_with fail
    with_reducible refine (check_q HH.out hs H1.out).mono ?_
    rintro e9 w1 ⟨rfl, g1⟩
    go_wp2
    refine bodyPost_ret (v := rmV (0, false)) (by simp [results, Try.results17, go_sem]) rfl ?_
    exact ⟨by rw [HE.out], g1⟩
  have hm3 : decide (64 < m) = false := decide_eq_false hm2
  go_enter Try.func17, Try.ntmps17
  go_wp2_with fail
  with_reducible refine (check_q HH.out hs H1.out).mono ?_
  rintro e9 w1 ⟨rfl, g1⟩
  have HG1 := Lib.hid g1
  have HZ := Lib.hid (HH.out.grew g1)
  clear g1 HH
  go_wp2_with fail
  go_loopw [6] (fun pv wr => ∃ (p : Nat), pv = .int .i64 p ∧ p ≤ 64 ∧ Hid (∀ r : Int, 0 ≤ r → r < p → ¬FreeR L m r) ∧ Grew w1 wr) (fun pv _ => 65 - (intOf pv).toNat)
  case atStart => exact ⟨0, rfl, by omega, Lib.hid (fun r h1 h2 => by omega), Grew.refl _⟩
  case round =>
    obtain ⟨p, rfl, hp, HF, G⟩ := hrel
    obtain ⟨wo, rfl⟩ : ∃ wo : World, wo = wr := ⟨_, rfl⟩
    have HG := Lib.hid G
    clear G
    have hw0 : IntKind.i64.wrap ((p : Int) + m) = (p : Int) + m := IntWalk.i64_in _ (by omega)
    by_cases hlt : (p : Int) + m ≤ 64
    · go_wp2_with fail
      go_loopw [7, 8] (fun fv kv wr => ∃ (b : Bool) (k : Int), fv = .bool b ∧ kv = .int .i64 k ∧ (p : Int) ≤ k ∧ k ≤ (p : Int) + m ∧ Hid (b = true → ∀ q : Int, (p : Int) ≤ q → q < k → fndR L q = none) ∧ Hid (b = false → ¬FreeR L m p) ∧ Grew w1 wr) (fun _ kv _ => ((p : Int) + m - intOf kv).toNat)
      case atStart => exact ⟨true, p, rfl, rfl, by omega, by omega, Lib.hid (fun _ q h1 h2 => by omega), Lib.hid (fun h => by cases h), HG.out⟩
      case round =>
        obtain ⟨b, k, rfl, rfl, hk0, hk1, HT, HNF, G⟩ := hrel
        obtain ⟨wi, rfl⟩ : ∃ wi : World, wi = wr := ⟨_, rfl⟩
        have HGI := Lib.hid G
        have HZI := Lib.hid (HZ.out.grew G)
        clear G
        by_cases hkl : k < (p : Int) + m
        · obtain ⟨y, hy⟩ : ∃ y, fdX L k = y := ⟨_, rfl⟩
          have HY := Lib.hid hy
          have hwk : IntKind.i64.wrap (k + 1) = k + 1 := IntWalk.i64_in _ (by omega)
          cases hf : fndR L k with
          | none =>
            have he : y = (zR, false) := hy.symm.trans (fdX_n hf)
            subst he
            have HT2 : Hid (b = true → ∀ q : Int, (p : Int) ≤ q → q < k + 1 → fndR L q = none) := Lib.hid (fun h q h1 h2 => by
              by_cases e : q = k
              · rw [e]; exact hf
              · exact HT.out h q h1 (by omega))
            clear hy hf HT
            go_wp2_with fail
            with_reducible refine (find_q HZI.out hs HY.out).mono ?_
            rintro e9 w3 ⟨rfl, g3⟩
            have HG3 := Lib.hid ((HGI.out.trans g3).alloc (.cells #[.int .i64 0, .int .i64 0, .int .i64 0, .int .i64 0, .bool false] 30))
            clear g3
            go_wp2_with fail
            go_roundw
            case rel => exact ⟨b, k + 1, rfl, by go_num, by omega, by omega, HT2, HNF, HG3.out⟩
            case measure => simp [intOf] <;> omega
          | some d =>
            have he : y = (d, true) := hy.symm.trans (fdX_s hf)
            subst he
            have HNF2 : Hid (false = false → ¬FreeR L m p) := Lib.hid (fun _ h => by rw [h k (by omega) (by omega)] at hf; cases hf)
            clear hy hf HT HNF
            go_wp2_with fail
            with_reducible refine (find_q HZI.out hs HY.out).mono ?_
            rintro e9 w3 ⟨rfl, g3⟩
            have HG3 := Lib.hid ((HGI.out.trans g3).alloc (.cells #[.int .i64 d.s, .int .i64 d.n, .int .i64 d.f, .int .i64 d.p, .bool d.w] 30))
            clear g3
            go_wp2_with fail
            go_roundw
            case rel => exact ⟨false, k + 1, rfl, by go_num, by omega, by omega, Lib.hid (fun h => by cases h), Lib.hid (fun _ => HNF2.out trivial), HG3.out⟩
            case measure => simp [intOf] <;> omega
        · obtain rfl : k = (p : Int) + m := by omega
          cases b
          · have HF2 : Hid (∀ r : Int, 0 ≤ r → r < ((p + 1 : Nat) : Int) → ¬FreeR L m r) := Lib.hid (fun r h1 h2 => by
              by_cases e : r = p
              · rw [e]; exact HNF.out rfl
              · exact HF.out r h1 (by omega))
            go_wp2
            exact ⟨⟨p + 1, by go_num, by omega, HF2, HGI.out⟩, by simp [intOf] <;> omega⟩
          · have HE : Hid (x = ((p : Int), true)) := Lib.hid (HX.out.symm.trans (rmR_hit H1.out (by omega) (by omega) hlt (fun q h1 h2 => HT.out rfl q h1 h2) HF.out))
            go_wp2
            refine bodyPost_ret (v := rmV ((p : Int), true)) (by simp [results, Try.results17, go_sem]) rfl ?_
            exact ⟨by rw [HE.out], HG1.out.trans HGI.out⟩
    · have HE : Hid (x = (0, false)) := Lib.hid (HX.out.symm.trans (rmR_miss H1.out (fun r h1 h2 => HF.out r h1 (by omega))))
      go_wp2
      refine bodyPost_ret (v := rmV (0, false)) (by simp [results, Try.results17, go_sem]) rfl ?_
      exact ⟨by rw [HE.out], HG1.out.trans HG.out⟩
set_option maxHeartbeats 4000000 in
theorem shown_q {B : Nat} {v : Value} {L : List Ar} {f p : Int} {w : World} (h : RdS 5 enc5 w B v L) (hs : L.length ≤ 1000) : Calls Try.prog 19 #[v, .int .i64 f, .int .i64 p] w (RetIL (shwR L f p) w) := by
  have HH := Lib.hid h
  clear h
  cases h1 : okR L
  · have HE := Lib.hid (shwR_0 (f := f) (p := p) h1)
    have H1 := Lib.hid h1
    clear h1
    go_enter Try.func19, Try.ntmps19
    go_wp2_with fail
    with_reducible refine (check_q HH.out hs H1.out).mono ?_
    rintro e9 w1 ⟨rfl, g1⟩
    go_wp2
    go_ret
    exact ⟨_, rfl, by rw [HE.out]; exact RdS.nil _ _ _ _ (Nat.zero_le _), g1⟩
  · have H1 := Lib.hid h1
    clear h1
    go_enter Try.func19, Try.ntmps19
    go_wp2_with fail
    with_reducible refine (check_q HH.out hs H1.out).mono ?_
    rintro e9 w1 ⟨rfl, g1⟩
    have HG1 := Lib.hid g1
    clear g1
    go_wp2_with fail
    go_loopw [7, 8] (fun fv iv wr => ∃ (i : Nat) (r : Value) (M : List Int), r = fv ∧ iv = .int .i64 i ∧ i ≤ 64 ∧ M.length ≤ i ∧ Hid (M = shI L f p i) ∧ RowE 3 1 enc1 wr w.heap.size r M ∧ Grew w wr) (fun _ iv _ => 64 - (intOf iv).toNat)
    case atStart => exact ⟨0, _, [], rfl, rfl, by omega, by simp, Lib.hid (shI_0 L f p).symm, RowE.nil _ _, HG1.out⟩
    case round =>
      obtain ⟨i, fv, M, rfl, rfl, hi, hml, HM, R, G⟩ := hrel
      obtain ⟨wo, rfl⟩ : ∃ wo : World, wo = wr := ⟨_, rfl⟩
      have HR := Lib.hid R
      have HG := Lib.hid G
      have HZ := Lib.hid (HH.out.grew G)
      clear R G
      by_cases hlt : i < 64
      · have hx6 : M.length < 1000000 := by omega
        have hil : (i : Int) < 64 := by omega
        obtain ⟨y, hy⟩ : ∃ y, fdX L i = y := ⟨_, rfl⟩
        have HY := Lib.hid hy
        cases hf : fndR L i with
        | none =>
          have he : y = (zR, false) := hy.symm.trans (fdX_n hf)
          subst he
          have HM2 : Hid (M = shI L f p ((i + 1 : Nat) : Int)) := Lib.hid (by rw [HM.out]; exact (shI_none hf).symm)
          clear hy hf HM
          go_wp2_with fail
          with_reducible refine (find_q HZ.out hs HY.out).mono ?_
          rintro e9 w3 ⟨rfl, g3⟩
          have HG3 := Lib.hid ((HG.out.trans g3).alloc (.cells #[.int .i64 0, .int .i64 0, .int .i64 0, .int .i64 0, .bool false] 30))
          have HR3 := Lib.hid ((HR.out.grew g3).alloc (.cells #[.int .i64 0, .int .i64 0, .int .i64 0, .int .i64 0, .bool false] 30))
          clear g3
          go_wp2
          exact ⟨⟨i + 1, _, M, rfl, by go_num, by omega, by omega, HM2, HR3.out, HG3.out⟩, by simp [intOf] <;> omega⟩
        | some d =>
          have he : y = (d, true) := hy.symm.trans (fdX_s hf)
          subst he
          obtain ⟨-, -, hrd, hd0, hd1⟩ := fndR_hit hf
          have r := rtA_iff.1 hrd
          unfold endA at hd1
          have hw1 : IntKind.i64.wrap (d.p + (i : Int)) = d.p + (i : Int) := IntWalk.i64_in _ (by omega)
          have hw2 : IntKind.i64.wrap (d.p + (i : Int) - d.s) = d.p + (i : Int) - d.s := IntWalk.i64_in _ (by omega)
          have HYS : Hid (d.f = f → d.p + (i : Int) - d.s = p → M ++ [(i : Int)] = shI L f p ((i + 1 : Nat) : Int)) := Lib.hid (fun h1 h2 => by rw [HM.out]; exact (shI_some hf h1 h2).symm)
          have HNO : Hid (¬(d.f = f ∧ d.p + (i : Int) - d.s = p) → M = shI L f p ((i + 1 : Nat) : Int)) := Lib.hid (fun h1 => by rw [HM.out]; exact (shI_other hf h1).symm)
          clear hy hf HM hrd r
          by_cases q1 : d.f = f
          · have e1 : (d.f == f) = true := by simp [q1]
            by_cases q2 : d.p + (i : Int) - d.s = p
            · have e2 : (d.p + (i : Int) - d.s == p) = true := by simp [q2]
              have HM2 := Lib.hid (HYS.out q1 q2)
              clear HYS HNO q1 q2
              go_wp2_with fail
              with_reducible refine (find_q HZ.out hs HY.out).mono ?_
              rintro e9 w3 ⟨rfl, g3⟩
              have HG3 := Lib.hid ((HG.out.trans g3).alloc (.cells #[.int .i64 d.s, .int .i64 d.n, .int .i64 d.f, .int .i64 d.p, .bool d.w] 30))
              have HR3 := Lib.hid ((HR.out.grew g3).alloc (.cells #[.int .i64 d.s, .int .i64 d.n, .int .i64 d.f, .int .i64 d.p, .bool d.w] 30))
              have hz : ∀ ob, w.heap.size ≤ ((w3.alloc (.cells #[.int .i64 d.s, .int .i64 d.n, .int .i64 d.f, .int .i64 d.p, .bool d.w] 30)).alloc ob).heap.size := fun ob => Nat.le_trans HG3.out.size (by simp)
              clear g3
              go_wp2_with (at_builtin; go_loud (refine wpList_append_row _ rfl _ _ 22 rfl w.heap.size info_i1 Try.underlying22 (by decide) (by decide) enc1_len fv M rfl (HR3.out.alloc _) _ _ (i : Int) rfl (Own.new2 _ _ _ _) enc1_one hx6 (by decide) (hz _) ?_; intro g7 cap w7 R7 G7 o7))
              have HR7 := Lib.hid R7
              have HG7 := Lib.hid (Grew.keptA (B := w.heap.size) (HG3.out.alloc _) G7 (fun x e => HR3.out.above x e) (Nat.le_refl _))
              clear o7 G7 R7
              go_roundw
              case rel => exact ⟨i + 1, _, M ++ [(i : Int)], rfl, by go_num, by omega, by simp; omega, HM2, HR7.out, HG7.out⟩
              case measure => simp [intOf]; omega
            · have e2 : (d.p + (i : Int) - d.s == p) = false := by simp [q2]
              have HM2 := Lib.hid (HNO.out (fun h => q2 h.2))
              clear HYS HNO q1 q2
              go_wp2_with fail
              with_reducible refine (find_q HZ.out hs HY.out).mono ?_
              rintro e9 w3 ⟨rfl, g3⟩
              have HG3 := Lib.hid ((HG.out.trans g3).alloc (.cells #[.int .i64 d.s, .int .i64 d.n, .int .i64 d.f, .int .i64 d.p, .bool d.w] 30))
              have HR3 := Lib.hid ((HR.out.grew g3).alloc (.cells #[.int .i64 d.s, .int .i64 d.n, .int .i64 d.f, .int .i64 d.p, .bool d.w] 30))
              clear g3
              go_wp2
              exact ⟨⟨i + 1, _, M, rfl, by go_num, by omega, by omega, HM2, HR3.out, HG3.out⟩, by simp [intOf] <;> omega⟩
          · have e1 : (d.f == f) = false := by simp [q1]
            have HM2 := Lib.hid (HNO.out (fun h => q1 h.1))
            clear HYS HNO q1
            go_wp2_with fail
            with_reducible refine (find_q HZ.out hs HY.out).mono ?_
            rintro e9 w3 ⟨rfl, g3⟩
            have HG3 := Lib.hid ((HG.out.trans g3).alloc (.cells #[.int .i64 d.s, .int .i64 d.n, .int .i64 d.f, .int .i64 d.p, .bool d.w] 30))
            have HR3 := Lib.hid ((HR.out.grew g3).alloc (.cells #[.int .i64 d.s, .int .i64 d.n, .int .i64 d.f, .int .i64 d.p, .bool d.w] 30))
            clear g3
            go_wp2
            exact ⟨⟨i + 1, _, M, rfl, by go_num, by omega, by omega, HM2, HR3.out, HG3.out⟩, by simp [intOf] <;> omega⟩
      · obtain rfl : i = 64 := by omega
        have HE2 : Hid (M = shwR L f p) := Lib.hid (by rw [HM.out]; exact shI_end L f p)
        rw [show ((64 : Nat) : Int) = 64 from rfl]
        go_wp2
        go_ret
        exact ⟨_, rfl, by rw [← HE2.out]; exact RowE.rdS enc1_len HR.out, HG.out⟩
end Go.Proofs.Ytnlhdbengppnpaa
