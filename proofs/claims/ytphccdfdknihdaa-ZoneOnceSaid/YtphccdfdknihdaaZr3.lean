/- The reference of layer 10: Take. -/
import Derived.Test.YtphccdfdknihdaaZr2
namespace Go.Proofs.Ytphccdfdknihdaa
open Go.RowKit Go.Mine

/-- It returns zones, a frame and an error. -/
def RetTk (p : Nat → Prop) (X : List Zo × Int × Int) (B : Nat) (w : World) (e : Ending) (w' : World) : Prop := ∃ v, e = .returned (.tuple #[v, .int .i64 X.2.1, .int .i64 X.2.2]) ∧ ZsR w' (pN p B) v X.1 ∧ Grew w w'
theorem pN_l {p : Nat → Prop} {B g : Nat} (h : p g) : pN p B g := .inl h
set_option maxRecDepth 100000 in
set_option maxHeartbeats 4000000 in
theorem take_q {p : Nat → Prop} {v : Value} {L : List Zo} {w : World} {u : Bool} {pr : Int} (h : ZsR w p v L) (hs : SmZ L) : Calls Try.prog 13 #[v, .int .i64 pr, .bool u] w (RetTk p (takX u L pr) w.heap.size w) := by
  obtain ⟨a, c, rfl⟩ := h.slice
  have HS := Lib.hid hs
  obtain ⟨n, hn⟩ : ∃ n, L.length = n := ⟨_, rfl⟩
  have HN := Lib.hid hn
  have hl : n ≤ 1000 := hn ▸ hs.1
  rw [hn] at h ⊢
  have HZ := Lib.hid h
  clear h hs
  cases hr : okB L
  · rw [takX_1 hr]
    go_enter Try.func13, Try.ntmps13
    go_wp2_with fail
    with_reducible refine (check_q HZ.out HS.out hr).mono ?_
    rintro e1 w1 ⟨rfl, g1⟩
    go_wp2
    refine bodyPost_ret (v := .tuple #[.slice a n c, .int .i64 0, .int .i64 1]) (by simp [results, Try.results13, go_sem]) rfl ⟨_, rfl, (HZ.out.grew g1).mono fun g h _ => pN_l h, g1⟩
  · have HOK := Lib.hid hr
    by_cases h1 : pr < 0
    · rw [takX_2 hr (by omega)]
      go_enter Try.func13, Try.ntmps13
      go_wp2_with fail
      with_reducible refine (check_q HZ.out HS.out hr).mono ?_
      rintro e1 w1 ⟨rfl, g1⟩
      go_wp2
      refine bodyPost_ret (v := .tuple #[.slice a n c, .int .i64 0, .int .i64 2]) (by simp [results, Try.results13, go_sem]) rfl ⟨_, rfl, (HZ.out.grew g1).mono fun g h _ => pN_l h, g1⟩
    · by_cases h2 : (n : Int) ≤ pr
      · rw [takX_2 hr (by omega)]
        go_enter Try.func13, Try.ntmps13
        go_wp2_with fail
        with_reducible refine (check_q HZ.out HS.out hr).mono ?_
        rintro e1 w1 ⟨rfl, g1⟩
        go_wp2
        refine bodyPost_ret (v := .tuple #[.slice a n c, .int .i64 0, .int .i64 2]) (by simp [results, Try.results13, go_sem]) rfl ⟨_, rfl, (HZ.out.grew g1).mono fun g h _ => pN_l h, g1⟩
      · obtain ⟨m, rfl⟩ : ∃ m : Nat, pr = m := ⟨pr.toNat, by omega⟩
        have hmn : m < n := by omega
        have HX3 : Hid (fromZ u L (m + 1) = none → takX u L (m : Int) = (L, 0, 3)) := Lib.hid fun hf => takX_3 hr (by omega) (by simpa using hf)
        have HX0 : Hid (∀ i, fromZ u L (m + 1) = some i → takX u L (m : Int) = (setF L i ((frI L i).drop 1), (frI L i).getD 0 0, 0)) := Lib.hid fun i hf => takX_0 hr (by omega) (by simpa using hf)
        generalize takX u L (m : Int) = X at *
        clear hn
        go_enter Try.func13, Try.ntmps13
        go_wp2_with fail
        with_reducible refine (check_q HZ.out HS.out hr).mono ?_
        rintro e1 w1 ⟨rfl, g1⟩
        clear hr
        go_wp2_with fail
        go_loopw [9] (fun iv wr => ∃ (k : Nat) (q : Int), iv = .int .i64 q ∧ q = (k : Int) - 1 ∧ k ≤ m + 1 ∧ Hid (fromZ u L k = fromZ u L (m + 1)) ∧ Grew w wr) (fun iv _ => (intOf iv + 1).toNat)
        case atStart => exact ⟨m + 1, _, rfl, by omega, by omega, Lib.hid rfl, g1⟩
        case round =>
          obtain ⟨k, q, rfl, hq, hk, HF, G⟩ := hrel
          obtain ⟨wo, rfl⟩ : ∃ wo : World, wo = wr := ⟨_, rfl⟩
          by_cases hk0 : k = 0
          · subst hk0
            obtain rfl : q = -1 := by omega
            have HX := Lib.hid (HX3.out HF.out.symm)
            clear hq
            go_wp2
            refine bodyPost_ret (v := .tuple #[.slice a n c, .int .i64 0, .int .i64 3]) (by simp [results, Try.results13, go_sem]) rfl ⟨_, by rw [HX.out], by rw [HX.out]; exact (HZ.out.grew G).mono fun g h _ => pN_l h, G⟩
          · obtain ⟨j, rfl⟩ : ∃ j, k = j + 1 := ⟨k - 1, by omega⟩
            obtain rfl : q = (j : Int) := by omega
            clear hq
            have hjL : j < L.length := by rw [HN.out]; omega
            obtain ⟨g, a', c', rfl, -, hg, c0, c1, c2, c3, c4, c5, hri, hcp⟩ := (HZ.out.grew G).at_ hjL
            have hmn0 : 0 ≤ (L.getD j zoZ).mn := by obtain ⟨nx, b1, b2⟩ := ok_at HOK.out hjL; exact b2.2.2.2.1
            have HST : Hid (fromZ u L (j + 1) = if hasZ u (L.getD j zoZ) = true then some j else fromZ u L j) := Lib.hid (by conv => lhs; unfold fromZ; rw [getZ hjL])
            have hfr := HS.out.2 j hjL
            have HXI : Hid (fromZ u L (m + 1) = some j → X = (L.set j { L.getD j zoZ with fr := (L.getD j zoZ).fr.drop 1 }, (L.getD j zoZ).fr.getD 0 0, 0)) := Lib.hid fun h => HX0.out j h
            obtain ⟨⟨zf, zs, zm, zl, zh, fr⟩, hzd⟩ : ∃ z, L.getD j zoZ = z := ⟨_, rfl⟩
            rw [hzd] at c0 c1 c2 c3 c4 c5 hri hcp hmn0 HST HXI hfr
            simp only at c0 c1 c2 c3 c4 c5 hri hcp hmn0 HXI hfr
            have hi0 : (0 : Int) ≤ (j : Int) := by omega
            have hi1 : (j : Int) < (n : Int) := by omega
            have HG := Lib.hid (G.alloc (.cells (cZ zf zs zm zl zh a' fr.length c') 42))
            have HRI := Lib.hid hri
            have hq1 : (0 : Int) ≤ (fr.length : Int) := by omega
            clear hzd hri
            by_cases hh : hasZ u ⟨zf, zs, zm, zl, zh, fr⟩ = true
            · have HX := Lib.hid (HXI.out (by rw [← HF.out, HST.out, if_pos hh]))
              have hor : (zm < (fr.length : Int)) ∨ (¬zm < (fr.length : Int) ∧ u = true ∧ (0 : Int) < (fr.length : Int)) := by
                unfold hasZ at hh
                rw [Bool.or_eq_true, Bool.and_eq_true, decide_eq_true_iff, decide_eq_true_iff] at hh
                rcases hh with hh | ⟨h1, h2⟩
                · exact .inl hh
                · by_cases h3 : zm < (fr.length : Int)
                  · exact .inl h3
                  · exact .inr ⟨h3, h1, by have h4 : 0 < fr.length := h2; omega⟩
              have hpos : 0 < fr.length := by rcases hor with h | h <;> omega
              obtain ⟨x, xs, rfl⟩ : ∃ x xs, fr = x :: xs := by
                cases fr with
                | nil => exact absurd hpos (by simp)
                | cons x xs => exact ⟨x, xs, rfl⟩
              obtain ⟨gf, of, rfl, -, hgf, x0⟩ := HRI.out.at_ hpos
              rw [Nat.add_zero] at x0
              simp only [List.getD_cons_zero] at x0
              have hxl : xs.length < 1000000 := by simp only [List.length_cons] at hfr; omega
              have hlc : (0 : Int) < (xs.length : Int) + 1 := by omega
              simp only [List.length_cons] at *
              have hc1 : (1 : Int) ≤ (c' : Int) := by omega
              have HR0 := Lib.hid (HRI.out.drop1)
              have HRX := Lib.hid (HR0.out.keep (q := p) (w' := wo.alloc (.cells (cZ zf zs zm zl zh (some ⟨gf, of, none⟩) (xs.length + 1) c') 42)) (by simp) (fun _ a _ => a) fun g _ hg => Below.heap_alloc wo _ g hg)
              have HBX := Lib.hid (Own.new wo 42 (cZ zf zs zm zl zh (some ⟨gf, of, none⟩) (xs.length + 1) c'))
              have hsz : wo.heap.size + 1 ≤ (wo.alloc (.cells (cZ zf zs zm zl zh (some ⟨gf, of, none⟩) (xs.length + 1) c') 42)).heap.size := by simp
              have hws : w.heap.size ≤ wo.heap.size := G.size
              have HZ2 := Lib.hid (HZ.out.grew HG.out)
              have hcc : (∃ A, Hid (Lies enc1 (wo.alloc (.cells (cZ zf zs zm zl zh (some ⟨gf, of, none⟩) (xs.length + 1) c') 42)) A xs) ∧ Hid (c' = 1) ∧ A = some ⟨gf, of, none⟩) ∨ (∃ A, Hid (Lies enc1 (wo.alloc (.cells (cZ zf zs zm zl zh (some ⟨gf, of, none⟩) (xs.length + 1) c') 42)) A xs) ∧ Hid (¬c' = 1) ∧ A = some ⟨gf, of + 1, none⟩) := by
                by_cases e : c' = 1
                · exact .inl ⟨_, Lib.hid (.inl (List.length_eq_zero_iff.1 (by omega))), Lib.hid e, rfl⟩
                · exact .inr ⟨_, Lib.hid HRX.out.lies.2, Lib.hid e, rfl⟩
              rcases hor with hor | ⟨n1, rfl, n2⟩ <;> rcases hcc with ⟨A, HMX, hcA, rfl⟩ | ⟨A, HMX, hcA, rfl⟩
              all_goals
                go_upto_region 11 with fail
                generalize hsx : wo.heap.size = sx at *
                generalize World.alloc wo _ = wa at *
                obtain ⟨z0, z1, z2, z3, z4, z5⟩ := HBX.out.six
                clear HRI HR0 x0 c0 c1 c2 c3 c4 c5 hg hgf hsx
                replace hcA := hcA.out
                go_wp2_with (at_builtin; go_loud (
                  refine wpList_append_src _ rfl _ _ 22 rfl (sx + 1) info_int Try.underlying22 (by decide) (by decide) enc1_len (fun z => enc1_one) _ [] rfl (RowE.nil _ _) _ _ _ xs rfl rfl HMX.out (by simpa using hxl) (by decide) hsz ?_
                  intro v3 w3 R3 G3 o3
                  have HG3 := Lib.hid (below_of_grown G3 : Grew wa w3)
                  have HR3 := Lib.hid (show RowE _ _ _ _ _ _ xs from R3)
                  clear R3 G3 o3
                  obtain ⟨a3, c3, rfl, hr3, hc3⟩ := HR3.out.rdI
                  have HRI3 := Lib.hid hr3
                  clear hr3 z0 z1 z2 z3 z4 z5
                  obtain ⟨z0, z1, z2, z3, z4, z5⟩ := (HBX.out.grew HG3.out).six
                  have zf5 := (HBX.out.grew HG3.out).frozen 5))
                have G4 : Grew w (w3.setCell ⟨sx, 5, none⟩ (.slice a3 xs.length c3)) := (HG.out.trans HG3.out).set (p := ⟨sx, 5, none⟩) hws _
                have HR4 := Lib.hid (HRI3.out.keep (q := pN p w.heap.size) (w' := w3.setCell ⟨sx, 5, none⟩ (.slice a3 xs.length c3)) (by simp [World.setCell]) (fun g h _ => .inr (by omega)) fun g h _ => Below.heap_setCell w3 _ _ g (by show g ≠ sx; omega))
                have hL1 : L.length ≤ 1000 := by rw [HN.out]; exact hl
                have hw4 := G4.size
                with_reducible refine (with_q (i := j) (z := ⟨zf, zs, zm, zl, zh, xs⟩) (HZ.out.grew G4) hL1 hjL HR4.out hc3 hw4).mono ?_
                rintro e5 w5 ⟨v5, rfl, R5, G5⟩
                have HR5 := Lib.hid R5
                have HG5 := Lib.hid (G4.trans G5)
                clear R5 G4 G5 z0 z1 z2 z3 z4 z5
                go_wp2
                refine bodyPost_ret (v := .tuple #[v5, .int .i64 x, .int .i64 0]) (by simp [results, Try.results13, go_sem]) rfl ⟨v5, by rw [HX.out]; rfl, by rw [HX.out]; exact HR5.out, HG5.out⟩
            · have HF2 := Lib.hid (show fromZ u L j = fromZ u L (m + 1) by rw [← HF.out, HST.out, if_neg hh])
              have hno : ¬zm < (fr.length : Int) ∧ (u = true → ¬(0 : Int) < (fr.length : Int)) := by
                unfold hasZ at hh
                rw [Bool.or_eq_true, Bool.and_eq_true, decide_eq_true_iff, decide_eq_true_iff] at hh
                refine ⟨fun h => hh (.inl h), fun h1 h2 => hh (.inr ⟨h1, by show 0 < fr.length; omega⟩)⟩
              obtain ⟨n1, n2⟩ := hno
              cases u
              · go_wp2
                exact ⟨⟨j, (j : Int) - 1, by go_num, by omega, by omega, HF2, HG.out⟩, by simp [intOf] <;> omega⟩
              · have n3 := n2 rfl
                go_wp2
                exact ⟨⟨j, (j : Int) - 1, by go_num, by omega, by omega, HF2, HG.out⟩, by simp [intOf] <;> omega⟩
end Go.Proofs.Ytphccdfdknihdaa
