/- Areas (layer 16): Find, Room, Shown, Clone of the program. -/
import Derived.Test.YtnlhdbengppnpaaAr5
namespace Go.Mine
open Go Go.RowKit
/-- The cells of a block that was made just now, as rules. -/
theorem five1 (w : World) (t : TypeId) (a b c d e : Value) : (w.alloc (.cells #[a, b, c, d, e] t)).cell? ⟨w.heap.size, 0, none⟩ = some a ∧ (w.alloc (.cells #[a, b, c, d, e] t)).cell? ⟨w.heap.size, 1, none⟩ = some b ∧
    (w.alloc (.cells #[a, b, c, d, e] t)).cell? ⟨w.heap.size, 2, none⟩ = some c ∧ (w.alloc (.cells #[a, b, c, d, e] t)).cell? ⟨w.heap.size, 3, none⟩ = some d ∧ (w.alloc (.cells #[a, b, c, d, e] t)).cell? ⟨w.heap.size, 4, none⟩ = some e :=
  (Own.new w t #[a, b, c, d, e]).five
theorem shO_1 {f p : Int} {a : Ar} (h : ¬a.f = f) : shO f p a = none := if_neg fun k => h k.1
theorem shO_2 {f p : Int} {a : Ar} (h : ¬a.p ≤ p) : shO f p a = none := if_neg fun k => h k.2.1
theorem shO_3 {f p : Int} {a : Ar} (h : ¬p < a.p + a.n) : shO f p a = none := if_neg fun k => h k.2.2
theorem shO_4 {f p : Int} {a : Ar} (h : a.f = f) (h1 : a.p ≤ p) (h2 : p < a.p + a.n) : shO f p a = some (a.s + p - a.p) := if_pos ⟨h, h1, h2⟩
end Go.Mine
namespace Go.Proofs.Ytnlhdbengppnpaa
open Go.RowKit Go.Mine

set_option maxHeartbeats 4000000 in
theorem find_p {B : Nat} {v : Value} {L : List Ar} {p : Int} {x : Ar × Bool} {w : World} (h : RdS 5 enc5 w B v L) (hs : SmR L) (hx : fdX L p = x) : Calls Try.prog 14 #[v, .int .i64 p] w (RetG (fdV x) w) := by
  have HX := Lib.hid hx
  have HS := Lib.hid hs
  have HH := Lib.hid (h.alloc (.cells #[.int .i64 0, .int .i64 0, .int .i64 0, .int .i64 0, .bool false] 30))
  have HO := Lib.hid (Own.new w 30 #[.int .i64 0, .int .i64 0, .int .i64 0, .int .i64 0, .bool false])
  have HG := Lib.hid ((Grew.refl w).alloc (.cells #[.int .i64 0, .int .i64 0, .int .i64 0, .int .i64 0, .bool false] 30))
  clear h hx hs
  cases h1 : okR L
  · have HE : Hid (x = (zR, false)) := Lib.hid (HX.out.symm.trans (fdX_n (fndR_0 h1)))
    have H1 := Lib.hid h1
    clear h1
    go_enter Try.func14, Try.ntmps14
    go_wp2_with fail
    with_reducible refine (check_p HH.out HS.out H1.out).mono ?_
    rintro e9 w1 ⟨rfl, g1⟩
    have HG1 := Lib.hid (HG.out.trans g1)
    have HO1 := Lib.hid (HO.out.grew g1)
    obtain ⟨x0, x1, x2, x3, x4⟩ := HO1.out.five
    obtain ⟨y0, y1, y2, y3, y4⟩ := HO1.out.five0
    clear g1
    go_wp2
    generalize hw : World.setCell (World.setCell (World.setCell (World.setCell (World.setCell w1 _ _) _ _) _ _) _ _) _ _ = E
    obtain ⟨b0, b1, b2, b3, b4⟩ := (HO1.out.store5 hw).five
    refine bodyPost_ret (v := fdV (zR, false)) (by simp [results, Try.results14, go_sem, b0, b1, b2, b3, b4]) rfl ?_
    exact ⟨by rw [HE.out], HG1.out.far5 hw (Nat.le_refl _)⟩
  · have H1 := Lib.hid h1
    obtain ⟨a0, c, rfl, -, -⟩ := HH.out.slice
    have HC := Lib.hid (check_p HH.out HS.out H1.out)
    obtain ⟨n, hn⟩ : ∃ n, L.length = n := ⟨_, rfl⟩
    have HN := Lib.hid hn
    have hs := (okR_iff.1 h1).1
    rw [hn] at HH HC hs ⊢
    clear hn h1
    go_enter Try.func14, Try.ntmps14
    go_wp2_with fail
    with_reducible refine HC.out.mono ?_
    rintro e9 w1 ⟨rfl, g1⟩
    have HG1 := Lib.hid (HG.out.trans g1)
    have HO1 := Lib.hid (HO.out.grew g1)
    have HZ := Lib.hid (HH.out.grew g1)
    clear g1 HC HG HO HH
    go_wp2_with fail
    go_loopw [14] (fun iv wr => ∃ (i : Nat), iv = .int .i64 i ∧ i ≤ n ∧ Hid (∀ j, j < i → hitR (L.getD j zR) p = false) ∧ Own wr w.heap.size 30 #[.int .i64 0, .int .i64 0, .int .i64 0, .int .i64 0, .bool false] ∧ Grew w1 wr) (fun iv _ => n - (intOf iv).toNat)
    case atStart => exact ⟨0, rfl, by omega, Lib.hid (fun j hj => by omega), HO1.out, Grew.refl _⟩
    case round =>
      obtain ⟨i, rfl, hi, HK, O, G⟩ := hrel
      obtain ⟨wo, rfl⟩ : ∃ wo : World, wo = wr := ⟨_, rfl⟩
      clear HO1
      have HO := Lib.hid O
      have HGG := Lib.hid G
      clear O
      by_cases hlt : i < n
      · have hiL : i < L.length := by rw [HN.out]; exact hlt
        obtain ⟨g, o, rfl, hBg, hg, c0, c1, c2, c3, c4⟩ := (HZ.out.grew G).at5 hiL
        have hrd := rtD H1.out hiL
        have HYE : Hid (hitR (L.getD i zR) p = true → x = (L.getD i zR, true)) := Lib.hid (fun h => HX.out.symm.trans (fdX_s (by rw [fndR_1 H1.out]; exact findR_at hiL h HK.out)))
        have HNX : Hid (hitR (L.getD i zR) p = false → ∀ j, j < i + 1 → hitR (L.getD j zR) p = false) := Lib.hid (fun h j hj => by
          by_cases e : j = i
          · rw [e]; exact h
          · exact HK.out j (by omega))
        generalize L.getD i zR = d at *
        have HRD := Lib.hid hrd
        have hi0 : (0 : Int) ≤ (i : Int) := by omega
        have hi1 : (i : Int) < (n : Int) := by omega
        have HGA := Lib.hid (G.alloc (.cells #[.int .i64 d.s, .int .i64 d.n, .int .i64 d.f, .int .i64 d.p, .bool d.w] 30))
        have HD := Lib.hid (Own.new wo 30 #[.int .i64 d.s, .int .i64 d.n, .int .i64 d.f, .int .i64 d.p, .bool d.w])
        have HO2 := Lib.hid (HO.out.alloc (.cells #[.int .i64 d.s, .int .i64 d.n, .int .i64 d.f, .int .i64 d.p, .bool d.w] 30))
        have hlO := HO.out.lt
        clear hrd G HK HGG HO
        by_cases q1 : d.s ≤ p
        · by_cases q2 : p < endA d
          · have HE := Lib.hid (HYE.out (hitR_iff.2 ⟨q1, q2⟩))
            clear HYE HNX
            go_wp2_with fail
            with_reducible refine (end_p HRD.out).mono ?_
            rintro e9 w2 ⟨rfl, g2⟩
            have HG2 := Lib.hid (HG1.out.trans (HGA.out.trans g2))
            have HO3 := Lib.hid (HO2.out.grew g2)
            obtain ⟨x0, x1, x2, x3, x4⟩ := (HD.out.grew g2).five
            obtain ⟨z0, z1, z2, z3, z4⟩ := HO3.out.five
            obtain ⟨y0, y1, y2, y3, y4⟩ := HO3.out.five0
            clear g2 HGA HD HO2
            go_wp2
            generalize hw : World.setCell (World.setCell (World.setCell (World.setCell (World.setCell w2 _ _) _ _) _ _) _ _) _ _ = E
            obtain ⟨b0, b1, b2, b3, b4⟩ := (HO3.out.store5 hw).five
            refine bodyPost_ret (v := fdV (d, true)) (by simp [results, Try.results14, go_sem, b0, b1, b2, b3, b4]) rfl ?_
            exact ⟨by rw [HE.out], HG2.out.far5 hw (Nat.le_refl _)⟩
          · have HE := Lib.hid (HNX.out (hitR_no (.inr (by omega))))
            have e1 : decide (p < endA d) = false := decide_eq_false q2
            clear HYE HNX
            go_wp2_with fail
            with_reducible refine (end_p HRD.out).mono ?_
            rintro e9 w2 ⟨rfl, g2⟩
            have HG2 := Lib.hid (HGA.out.trans g2)
            have HO3 := Lib.hid (HO2.out.grew g2)
            clear g2 HGA HD HO2
            go_wp2
            exact ⟨⟨i + 1, by go_num, by omega, HE, HO3.out, HG2.out⟩, by simp [intOf] <;> omega⟩
        · have HE := Lib.hid (HNX.out (hitR_no (.inl (by omega))))
          have e1 : decide (d.s ≤ p) = false := decide_eq_false q1
          clear HYE HNX
          go_wp2
          exact ⟨⟨i + 1, by go_num, by omega, HE, HO2.out, HGA.out⟩, by simp [intOf] <;> omega⟩
      · obtain rfl : i = n := by omega
        have HE : Hid (x = (zR, false)) := Lib.hid (HX.out.symm.trans (fdX_n (by rw [fndR_1 H1.out]; exact findR_none.2 (by rw [HN.out]; exact HK.out))))
        obtain ⟨z0, z1, z2, z3, z4⟩ := HO.out.five
        obtain ⟨y0, y1, y2, y3, y4⟩ := HO.out.five0
        clear G
        go_wp2
        generalize hw : World.setCell (World.setCell (World.setCell (World.setCell (World.setCell wo _ _) _ _) _ _) _ _) _ _ = E
        obtain ⟨b0, b1, b2, b3, b4⟩ := (HO.out.store5 hw).five
        refine bodyPost_ret (v := fdV (zR, false)) (by simp [results, Try.results14, go_sem, b0, b1, b2, b3, b4]) rfl ?_
        exact ⟨by rw [HE.out], (HG1.out.trans HGG.out).far5 hw (Nat.le_refl _)⟩
set_option maxHeartbeats 4000000 in
theorem room_p {B : Nat} {v : Value} {L : List Ar} {m : Int} {x : Int × Bool} {w : World} (h : RdS 5 enc5 w B v L) (hs : SmR L) (hx : rmR L m = x) : Calls Try.prog 16 #[v, .int .i64 m] w (RetG (rmV x) w) := by
  have HX := Lib.hid hx
  have HS := Lib.hid hs
  have HH := Lib.hid h
  clear h hx hs
  by_cases hm : m < 1
  · have HE : Hid (x = (0, false)) := Lib.hid (HX.out.symm.trans (rmR_1 hm))
    go_enter Try.func16, Try.ntmps16
    go_wp2
    refine bodyPost_ret (v := rmV (0, false)) (by simp [results, Try.results16, go_sem]) rfl ?_
    exact ⟨by rw [HE.out], Grew.refl _⟩
  have hm0 : decide (m < 1) = false := decide_eq_false hm
  cases h1 : okR L
  · have HE : Hid (x = (0, false)) := Lib.hid (HX.out.symm.trans (rmR_0 h1))
    have H1 := Lib.hid h1
    clear h1
    go_enter Try.func16, Try.ntmps16
    go_wp2_with fail
    with_reducible refine (check_p HH.out HS.out H1.out).mono ?_
    rintro e9 w1 ⟨rfl, g1⟩
    go_wp2
    refine bodyPost_ret (v := rmV (0, false)) (by simp [results, Try.results16, go_sem]) rfl ?_
    exact ⟨by rw [HE.out], g1⟩
  · have H1 := Lib.hid h1
    obtain ⟨a0, c, rfl, -, -⟩ := HH.out.slice
    have HC := Lib.hid (check_p HH.out HS.out H1.out)
    obtain ⟨n, hn⟩ : ∃ n, L.length = n := ⟨_, rfl⟩
    have HN := Lib.hid hn
    have hs := (okR_iff.1 h1).1
    rw [hn] at HH HC hs ⊢
    clear hn h1
    have HHM := Lib.hid hm
    go_enter Try.func16, Try.ntmps16
    go_wp2_with fail
    with_reducible refine HC.out.mono ?_
    rintro e9 w1 ⟨rfl, g1⟩
    have HG1 := Lib.hid g1
    have HZ := Lib.hid (HH.out.grew g1)
    clear g1 HC HH
    go_wp2_with fail
    go_loopw [6, 18] (fun fv iv wr => ∃ (i : Nat) (s : Int), fv = .int .i64 s ∧ iv = .int .i64 i ∧ i ≤ n ∧ 0 ≤ s ∧ s ≤ 64 ∧ Hid (s = pE 0 L i) ∧ Hid (∀ j, j < i → ¬m ≤ (L.getD j zR).s - pE 0 L j) ∧ Grew w1 wr) (fun _ iv _ => n - (intOf iv).toNat)
    case atStart => exact ⟨0, 0, rfl, rfl, by omega, by omega, by omega, Lib.hid rfl, Lib.hid (fun j hj => by omega), Grew.refl _⟩
    case round =>
      obtain ⟨i, s, rfl, rfl, hi, hs0, hs1, HSE, HK, G⟩ := hrel
      obtain ⟨wo, rfl⟩ : ∃ wo : World, wo = wr := ⟨_, rfl⟩
      by_cases hlt : i < n
      · have hiL : i < L.length := by rw [HN.out]; exact hlt
        obtain ⟨g, o, rfl, hBg, hg, c0, c1, c2, c3, c4⟩ := (HZ.out.grew G).at5 hiL
        have hrd := rtD H1.out hiL
        have r := rtA_iff.1 hrd
        have HYE : Hid (m ≤ (L.getD i zR).s - s → x = (s, true)) := Lib.hid (fun h => HX.out.symm.trans (rmR_s H1.out (by have := HHM.out; omega) (by rw [rmF_drop m L i HK.out (Nat.le_of_lt hiL), rmF_here hiL (by rw [← HSE.out]; exact h), HSE.out])))
        have HNX : Hid (¬m ≤ (L.getD i zR).s - s → ∀ j, j < i + 1 → ¬m ≤ (L.getD j zR).s - pE 0 L j) := Lib.hid (fun h j hj => by
          by_cases e : j = i
          · rw [e, ← HSE.out]; exact h
          · exact HK.out j (by omega))
        have HPE := Lib.hid (pE_succ L i)
        generalize L.getD i zR = d at *
        have HRD := Lib.hid hrd
        have hi0 : (0 : Int) ≤ (i : Int) := by omega
        have hi1 : (i : Int) < (n : Int) := by omega
        have hw0 : IntKind.i64.wrap (d.s - s) = d.s - s := IntWalk.i64_in _ (by omega)
        have HGA := Lib.hid (G.alloc (.cells #[.int .i64 d.s, .int .i64 d.n, .int .i64 d.f, .int .i64 d.p, .bool d.w] 30))
        have hen0 : 0 ≤ endA d := by unfold endA; omega
        have hen1 : endA d ≤ 64 := by unfold endA; omega
        clear hrd G HK HSE r
        by_cases q1 : m ≤ d.s - s
        · have HE := Lib.hid (HYE.out q1)
          clear HYE HNX
          go_wp2
          refine bodyPost_ret (v := rmV (s, true)) (by simp [results, Try.results16, go_sem]) rfl ?_
          exact ⟨by rw [HE.out], HG1.out.trans HGA.out⟩
        · have HE := Lib.hid (HNX.out q1)
          have e1 : decide (m ≤ d.s - s) = false := decide_eq_false q1
          clear HYE HNX
          go_wp2_with fail
          with_reducible refine (end_p HRD.out).mono ?_
          rintro e9 w2 ⟨rfl, g2⟩
          have HG2 := Lib.hid (HGA.out.trans g2)
          clear g2 HGA
          go_wp2
          exact ⟨⟨i + 1, endA d, by go_num, by go_num, by omega, hen0, hen1, Lib.hid HPE.out.symm, Lib.hid (fun j hj => by have := HE.out j hj; omega), HG2.out⟩, by simp [intOf] <;> omega⟩
      · obtain rfl : i = n := by omega
        have hw0 : IntKind.i64.wrap (64 - s) = 64 - s := IntWalk.i64_in _ (by omega)
        have HR : Hid (rmF m 0 L = if m ≤ 64 - s then some s else none) := Lib.hid (by
          have e := rmF_end (n := m) (L := L)
          rw [HN.out, ← HSE.out] at e
          rw [rmF_drop m L i HK.out (by rw [HN.out]; exact Nat.le_refl _), ← HSE.out]
          exact e)
        have HG := Lib.hid G
        clear G
        by_cases q1 : m ≤ 64 - s
        · have HE : Hid (x = (s, true)) := Lib.hid (HX.out.symm.trans (rmR_s H1.out (by have := HHM.out; omega) (by rw [HR.out, if_pos q1])))
          go_wp2
          refine bodyPost_ret (v := rmV (s, true)) (by simp [results, Try.results16, go_sem]) rfl ?_
          exact ⟨by rw [HE.out], HG1.out.trans HG.out⟩
        · have HE : Hid (x = (0, false)) := Lib.hid (HX.out.symm.trans (rmR_n H1.out (by have := HHM.out; omega) (by rw [HR.out, if_neg q1])))
          go_wp2
          refine bodyPost_ret (v := rmV (0, false)) (by simp [results, Try.results16, go_sem]) rfl ?_
          exact ⟨by rw [HE.out], HG1.out.trans HG.out⟩
set_option maxHeartbeats 4000000 in
theorem shown_p {B : Nat} {v : Value} {L : List Ar} {f p : Int} {w : World} (h : RdS 5 enc5 w B v L) (hs : SmR L) : Calls Try.prog 18 #[v, .int .i64 f, .int .i64 p] w (RetIL (shwR L f p) w) := by
  have HS := Lib.hid hs
  have HH := Lib.hid h
  clear h hs
  cases h1 : okR L
  · have HE := Lib.hid (shwR_0 (f := f) (p := p) h1)
    have H1 := Lib.hid h1
    clear h1
    go_enter Try.func18, Try.ntmps18
    go_wp2_with fail
    with_reducible refine (check_p HH.out HS.out H1.out).mono ?_
    rintro e9 w1 ⟨rfl, g1⟩
    go_wp2
    go_ret
    exact ⟨_, rfl, by rw [HE.out]; exact RdS.nil _ _ _ _ (Nat.zero_le _), g1⟩
  · have H1 := Lib.hid h1
    have HE := Lib.hid (shwR_1 (f := f) (p := p) h1)
    obtain ⟨a0, c, rfl, -, -⟩ := HH.out.slice
    have HC := Lib.hid (check_p HH.out HS.out H1.out)
    obtain ⟨n, hn⟩ : ∃ n, L.length = n := ⟨_, rfl⟩
    have HN := Lib.hid hn
    have hs := (okR_iff.1 h1).1
    rw [hn] at HH HC hs ⊢
    clear hn h1
    go_enter Try.func18, Try.ntmps18
    go_wp2_with fail
    with_reducible refine HC.out.mono ?_
    rintro e9 w1 ⟨rfl, g1⟩
    have HG1 := Lib.hid g1
    have HZ := HH
    clear g1 HC HH
    go_wp2_with fail
    go_loopw [7, 15] (fun fv iv wr => ∃ (i : Nat) (r : Value) (M : List Int), r = fv ∧ iv = .int .i64 i ∧ i ≤ n ∧ M.length ≤ i ∧ Hid (M = shF (L.take i) f p) ∧ RowE 3 1 enc1 wr w.heap.size r M ∧ Grew w wr) (fun _ iv _ => n - (intOf iv).toNat)
    case atStart => exact ⟨0, _, [], rfl, rfl, by omega, by simp, Lib.hid rfl, RowE.nil _ _, HG1.out⟩
    case round =>
      obtain ⟨i, fv, M, rfl, rfl, hi, hml, HM, R, G⟩ := hrel
      obtain ⟨wo, rfl⟩ : ∃ wo : World, wo = wr := ⟨_, rfl⟩
      have HR := Lib.hid R
      have HG := Lib.hid G
      by_cases hlt : i < n
      · have hiL : i < L.length := by rw [HN.out]; exact hlt
        obtain ⟨g, o, rfl, hBg, hg, c0, c1, c2, c3, c4⟩ := (HZ.out.grew G).at5 hiL
        have hrd := rtD H1.out hiL
        have r := rtA_iff.1 hrd
        have HT := Lib.hid (shF_snoc L hiL f p)
        generalize L.getD i zR = d at *
        have hi0 : (0 : Int) ≤ (i : Int) := by omega
        have hi1 : (i : Int) < (n : Int) := by omega
        have hx6 : M.length < 1000000 := by omega
        have hw0 : IntKind.i64.wrap (d.p + d.n) = d.p + d.n := IntWalk.i64_in _ (by omega)
        have HGA := Lib.hid (G.alloc (.cells #[.int .i64 d.s, .int .i64 d.n, .int .i64 d.f, .int .i64 d.p, .bool d.w] 30))
        have HRA := Lib.hid (R.alloc (.cells #[.int .i64 d.s, .int .i64 d.n, .int .i64 d.f, .int .i64 d.p, .bool d.w] 30))
        have hz : ∀ ob, w.heap.size ≤ ((wo.alloc (.cells #[.int .i64 d.s, .int .i64 d.n, .int .i64 d.f, .int .i64 d.p, .bool d.w] 30)).alloc ob).heap.size := fun ob => Nat.le_trans HGA.out.size (by simp)
        clear hrd R G
        by_cases q1 : d.f = f
        · have e1 : (d.f == f) = true := by simp [q1]
          by_cases q2 : d.p ≤ p
          · by_cases q3 : p < d.p + d.n
            · have HM2 : Hid (M ++ [d.s + p - d.p] = shF (L.take (i + 1)) f p) := Lib.hid (by rw [HT.out, shO_4 q1 q2 q3, HM.out]; rfl)
              have hw1 : IntKind.i64.wrap (d.s + p) = d.s + p := IntWalk.i64_in _ (by omega)
              have hw2 : IntKind.i64.wrap (d.s + p - d.p) = d.s + p - d.p := IntWalk.i64_in _ (by omega)
              clear HM HT q1
              go_wp2_with (at_builtin; go_loud (refine wpList_append_row _ rfl _ _ 22 rfl w.heap.size info_i1 Try.underlying22 (by decide) (by decide) enc1_len fv M rfl (HRA.out.alloc _) _ _ (d.s + p - d.p) rfl (Own.new2 _ _ _ _) enc1_one hx6 (by decide) (hz _) ?_; intro g7 cap w7 R7 G7 o7))
              have HR7 := Lib.hid R7
              have HG7 := Lib.hid (Grew.keptA (B := w.heap.size) (HGA.out.alloc _) G7 (fun x e => HRA.out.above x e) (Nat.le_refl _))
              clear o7 G7 R7
              go_roundw
              case rel => exact ⟨i + 1, _, M ++ [d.s + p - d.p], rfl, by go_num, by omega, by simp; omega, HM2, HR7.out, HG7.out⟩
              case measure => simp [intOf]; omega
            · have HM2 : Hid (M = shF (L.take (i + 1)) f p) := Lib.hid (by rw [HT.out, shO_3 q3, HM.out]; exact (List.append_nil _).symm)
              have e2 : decide (p < d.p + d.n) = false := decide_eq_false q3
              clear HM HT q1
              go_wp2
              exact ⟨⟨i + 1, _, M, rfl, by go_num, by omega, by omega, HM2, HRA.out, HGA.out⟩, by simp [intOf] <;> omega⟩
          · have HM2 : Hid (M = shF (L.take (i + 1)) f p) := Lib.hid (by rw [HT.out, shO_2 q2, HM.out]; exact (List.append_nil _).symm)
            have e2 : decide (d.p ≤ p) = false := decide_eq_false q2
            clear HM HT q1
            go_wp2
            exact ⟨⟨i + 1, _, M, rfl, by go_num, by omega, by omega, HM2, HRA.out, HGA.out⟩, by simp [intOf] <;> omega⟩
        · have HM2 : Hid (M = shF (L.take (i + 1)) f p) := Lib.hid (by rw [HT.out, shO_1 q1, HM.out]; exact (List.append_nil _).symm)
          have e1 : (d.f == f) = false := by simp [q1]
          clear HM HT q1
          go_wp2
          exact ⟨⟨i + 1, _, M, rfl, by go_num, by omega, by omega, HM2, HRA.out, HGA.out⟩, by simp [intOf] <;> omega⟩
      · obtain rfl : i = n := by omega
        have HE2 : Hid (M = shwR L f p) := Lib.hid (by rw [HE.out, HM.out, ← HN.out, List.take_length])
        clear R G
        go_wp2
        go_ret
        exact ⟨_, rfl, by rw [← HE2.out]; exact RowE.rdS enc1_len HR.out, HG.out⟩
set_option maxHeartbeats 1000000 in
theorem clone_r {B : Nat} {v : Value} {L : List Ar} {w : World} (h : RdS 5 enc5 w B v L) (hl : L.length ≤ 1000) : Calls Try.prog 28 #[v] w (fun e w' => ∃ v, e = .returned v ∧ RowE 30 5 enc5 w' w.heap.size v L ∧ Grew w w') := by
  obtain ⟨a, c, rfl, -, -⟩ := h.slice
  obtain ⟨-, hs, hlies⟩ := h.lies enc5_len
  have q22 : ∀ (w : World) (a : Option Addr) (n c n' c' : Nat), (binOp .eql 26 (.slice a n c) (.slice none n' c')).run Try.prog w = .ok (.bool a.isNone) w := fun w a n c n' c' => Lib.run_eql_slice_nil w _ _ a n c n' c' Try.underlying26
  cases a with
  | none =>
    have hx : L = [] := hs.resolve_right (by simp)
    subst hx
    go_enter Try.func28, Try.ntmps28
    go_wp2
    go_ret
    exact ⟨_, rfl, RowE.nil _ _, Grew.refl _⟩
  | some A =>
    have hk : Lies enc5 (w.alloc (.cells #[] 30)) (some A) L := by
      rcases hlies with h0 | ⟨b, e, hb⟩
      · exact .inl h0
      · refine .inr ⟨b, e, fun j u hu => ?_⟩
        rw [← hb j u hu]
        exact World.cell?_of_block (Below.heap_alloc w _ _ (World.block_lt_of_cell? w _ (hb j u hu)))
    have HL := Lib.hid hk
    obtain ⟨n, hn⟩ : ∃ n, L.length = n := ⟨_, rfl⟩
    have HN := Lib.hid hn
    rw [hn] at hl ⊢
    have hx6 : ([] : List Ar).length + L.length < 1000000 := by rw [hn]; simp; omega
    have R0 : RowE 30 5 enc5 (w.alloc (.cells #[] 30)) w.heap.size (.slice (some ⟨w.heap.size, 0, none⟩) 0 0) [] := RowE.lit w #[] rfl rfl (by decide) (Nat.le_refl _)
    have HR0 := Lib.hid R0
    have HG0 := Lib.hid ((Grew.refl w).alloc (.cells #[] 30))
    have hz : w.heap.size ≤ (w.alloc (.cells #[] 30)).heap.size := by simp
    clear h R0 hlies hk hs hn
    go_enter Try.func28, Try.ntmps28
    go_wp2_with (at_builtin; go_loud (
      refine wpList_append_src _ rfl _ _ 26 rfl w.heap.size info_ar Try.underlying26 (by decide) (by decide) enc5_len (fun z => enc5_one) _ [] rfl HR0.out _ _ _ L rfl HN.out.symm HL.out hx6 (by decide) hz ?_
      intro v2 w2 R2 G2 o2))
    have HG2 := Lib.hid (Grew.keptA (B := w.heap.size) HG0.out G2 (fun x e => HR0.out.above x e) (Nat.le_refl _))
    go_wp2
    go_ret
    exact ⟨_, rfl, R2, HG2.out⟩
theorem clone_d {B : Nat} {v : Value} {L : List Ar} {w : World} (h : RdS 5 enc5 w B v L) (hl : L.length ≤ 1000) : Calls Try.prog 28 #[v] w (RetR L w) :=
  (clone_r h hl).mono fun _ _ ⟨v, e, R, G⟩ => ⟨v, e, RowE.rdS enc5_len R, G⟩
end Go.Proofs.Ytnlhdbengppnpaa
