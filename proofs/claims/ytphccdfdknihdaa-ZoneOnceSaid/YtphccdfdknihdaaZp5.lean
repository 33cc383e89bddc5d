/- The program's zones (layer 10): Take. -/
import Derived.Test.YtphccdfdknihdaaZp4
namespace Go.Mine
open Go Go.RowKit
/-- The slice of free frames in a row of zones. -/
theorem ZsO.free_at {T : TypeId} {w : World} {B n c g k : Nat} {p : Nat → Prop} {L : List Zo} (h : ZsO T w B p (.slice (some ⟨g, 0, none⟩) n c) L) (hk : k < L.length) :
    ∃ a' c', w.cell? ⟨g, k * 6 + 5, none⟩ = some (.slice a' (L.getD k zoZ).fr.length c') ∧ RdI w p a' (L.getD k zoZ).fr.length (L.getD k zoZ).fr ∧ (L.getD k zoZ).fr.length ≤ c' := by
  obtain ⟨M, R, hM, hrd⟩ := h
  obtain ⟨h1, h2, h3⟩ := hrd k hk
  rcases R.shape encZ_len with ⟨e, -⟩ | ⟨g', c', e, -, -, -, -, hc, -⟩
  · cases e
  · injection e with e1 e2 e3
    injection e1 with e1
    injection e1 with e1
    subst e1
    have h := hc k (by omega) 5 (by omega)
    rw [getD_get (by omega)] at h2 h3
    have hn : M[k].2.2.1 = (L.getD k zoZ).fr.length := h2.1
    rw [hn] at h2 h3
    refine ⟨M[k].2.1, M[k].2.2.2, h.trans ?_, h2, h3⟩
    rw [← hn]
    rfl
theorem ZsO.put5 {T : TypeId} {w : World} {B n c g k : Nat} {p : Nat → Prop} {L : List Zo} (h : ZsO T w B p (.slice (some ⟨g, 0, none⟩) n c) L) (hk : k < L.length) (hg : ∀ x, p x → x ≠ g) {a' : Option Addr} {n' c' : Nat} {xs : List Int} (hr : RdI w p a' n' xs) (hc : n' ≤ c') :
    ZsO T (w.setCell ⟨g, k * 6 + 5, none⟩ (.slice a' n' c')) B p (.slice (some ⟨g, 0, none⟩) n c) (L.set k { L.getD k zoZ with fr := xs }) :=
  h.stored hk (by omega) hg fun zc hz => ⟨(zc.1, (a', n', c')), rfl, hz.1, hr, hc⟩
end Go.Mine
namespace Go.Proofs.Ytphccdfdknihdaa
open Go.RowKit Go.Mine

theorem pQ_pN {p : Nat → Prop} {B x : Nat} {v : Value} (h : pQ p B v x) : pN p B x := by
  rcases h with h | h
  · exact .inl h.1
  · exact .inr h.1
theorem zsO_out {p : Nat → Prop} {B : Nat} {v : Value} {L : List Zo} {w : World} (h : ZsO 42 w B (pQ p B v) v L) : ZsR w (pN p B) v L := h.read (fun g h _ => .inr h) fun g h _ => pQ_pN h
set_option maxRecDepth 100000 in
set_option maxHeartbeats 8000000 in
theorem take_p {p : Nat → Prop} {v : Value} {L : List Zo} {w : World} {u : Bool} {pr : Int} (h : ZsR w p v L) (hs : SmZ L) : Calls Try.prog 12 #[v, .int .i64 pr, .bool u] w (RetTk p (takX u L pr) w.heap.size w) := by
  obtain ⟨a, c, rfl⟩ := h.slice
  have HS := Lib.hid hs
  obtain ⟨n, hn⟩ : ∃ n, L.length = n := ⟨_, rfl⟩
  have HN := Lib.hid hn
  have hl : n ≤ 1000 := hn ▸ hs.1
  rw [hn] at h ⊢
  have HZ := Lib.hid h
  clear h hs
  cases hr : okB L
  · rw [takX_1 hr]
    go_enter Try.func12, Try.ntmps12
    go_wp2_with fail
    with_reducible refine (copied_p HZ.out HS.out).mono ?_
    rintro e1 w1 ⟨v1, rfl, Z1, G1⟩
    have HZ1 := Lib.hid Z1
    have HG1 := Lib.hid G1
    have HZA := Lib.hid (HZ.out.grew G1)
    clear Z1 G1
    go_wp2_with fail
    with_reducible refine (check_p HZA.out HS.out hr).mono ?_
    rintro e2 w2 ⟨rfl, g2⟩
    have HZ2 := Lib.hid (zsO_out (HZ1.out.kept g2))
    have HG2 := Lib.hid (HG1.out.trans g2)
    clear g2
    go_wp2
    refine bodyPost_ret (v := .tuple #[v1, .int .i64 0, .int .i64 1]) (by simp [results, Try.results12, go_sem]) rfl ⟨_, rfl, HZ2.out, HG2.out⟩
  · have HOK := Lib.hid hr
    by_cases h1 : pr < 0
    · rw [takX_2 hr (by omega)]
      go_enter Try.func12, Try.ntmps12
      go_wp2_with fail
      with_reducible refine (copied_p HZ.out HS.out).mono ?_
      rintro e1 w1 ⟨v1, rfl, Z1, G1⟩
      have HZ1 := Lib.hid Z1
      have HG1 := Lib.hid G1
      have HZA := Lib.hid (HZ.out.grew G1)
      clear Z1 G1
      go_wp2_with fail
      with_reducible refine (check_p HZA.out HS.out hr).mono ?_
      rintro e2 w2 ⟨rfl, g2⟩
      have HZ2 := Lib.hid (zsO_out (HZ1.out.kept g2))
      have HG2 := Lib.hid (HG1.out.trans g2)
      clear g2
      go_wp2
      refine bodyPost_ret (v := .tuple #[v1, .int .i64 0, .int .i64 2]) (by simp [results, Try.results12, go_sem]) rfl ⟨_, rfl, HZ2.out, HG2.out⟩
    · by_cases h2 : (n : Int) ≤ pr
      · rw [takX_2 hr (by omega)]
        go_enter Try.func12, Try.ntmps12
        go_wp2_with fail
        with_reducible refine (copied_p HZ.out HS.out).mono ?_
        rintro e1 w1 ⟨v1, rfl, Z1, G1⟩
        have HZ1 := Lib.hid Z1
        have HG1 := Lib.hid G1
        have HZA := Lib.hid (HZ.out.grew G1)
        clear Z1 G1
        go_wp2_with fail
        with_reducible refine (check_p HZA.out HS.out hr).mono ?_
        rintro e2 w2 ⟨rfl, g2⟩
        have HZ2 := Lib.hid (zsO_out (HZ1.out.kept g2))
        have HG2 := Lib.hid (HG1.out.trans g2)
        clear g2
        go_wp2
        refine bodyPost_ret (v := .tuple #[v1, .int .i64 0, .int .i64 2]) (by simp [results, Try.results12, go_sem]) rfl ⟨_, rfl, HZ2.out, HG2.out⟩
      · obtain ⟨m, rfl⟩ : ∃ m : Nat, pr = m := ⟨pr.toNat, by omega⟩
        have hmn : m < n := by omega
        have HX3 : Hid (fromZ u L (m + 1) = none → takX u L (m : Int) = (L, 0, 3)) := Lib.hid fun hf => takX_3 hr (by omega) (by simpa using hf)
        have HX0 : Hid (∀ i, fromZ u L (m + 1) = some i → takX u L (m : Int) = (setF L i ((frI L i).drop 1), (frI L i).getD 0 0, 0)) := Lib.hid fun i hf => takX_0 hr (by omega) (by simpa using hf)
        generalize takX u L (m : Int) = X at *
        have d1 : decide (n ≤ m) = false := decide_eq_false (by omega)
        have d2 : decide ((m : Int) < 0) = false := decide_eq_false (by omega)
        clear hn
        go_enter Try.func12, Try.ntmps12
        go_wp2_with fail
        with_reducible refine (copied_p HZ.out HS.out).mono ?_
        rintro e1 w1 ⟨v1, rfl, Z1, G1⟩
        have HZ1 := Lib.hid Z1
        have HG1 := Lib.hid G1
        have HZA := Lib.hid (HZ.out.grew G1)
        clear Z1 G1
        go_wp2_with fail
        with_reducible refine (check_p HZA.out HS.out hr).mono ?_
        rintro e2 w2 ⟨rfl, g2⟩
        have HG2 := Lib.hid (HG1.out.trans g2)
        have HZ2 := Lib.hid (HZ1.out.kept g2)
        have HZO := Lib.hid HZ.out.old
        clear g2 hr HZA HZ1
        go_wp2_with fail
        go_loopw [10] (fun iv wr => ∃ (k : Nat) (q : Int), iv = .int .i64 q ∧ q = (k : Int) - 1 ∧ k ≤ m + 1 ∧ Hid (fromZ u L k = fromZ u L (m + 1)) ∧ Grew w2 wr) (fun iv _ => (intOf iv + 1).toNat)
        case atStart => exact ⟨m + 1, _, rfl, by omega, by omega, Lib.hid rfl, Grew.refl _⟩
        case round =>
          obtain ⟨k, q, rfl, hq, hk, HF, G⟩ := hrel
          obtain ⟨wo, rfl⟩ : ∃ wo : World, wo = wr := ⟨_, rfl⟩
          have HG := Lib.hid G
          clear G
          by_cases hk0 : k = 0
          · subst hk0
            obtain rfl : q = -1 := by omega
            have HX := Lib.hid (HX3.out HF.out.symm)
            have HZ3 := Lib.hid (zsO_out (HZ2.out.kept HG.out))
            have HG3 := Lib.hid (HG2.out.trans HG.out)
            clear hq
            go_wp2
            refine bodyPost_ret (v := .tuple #[v1, .int .i64 0, .int .i64 3]) (by simp [results, Try.results12, go_sem]) rfl ⟨_, by rw [HX.out], by rw [HX.out]; exact HZ3.out, HG3.out⟩
          · obtain ⟨j, rfl⟩ : ∃ j, k = j + 1 := ⟨k - 1, by omega⟩
            obtain rfl : q = (j : Int) := by omega
            clear hq
            have hjL : j < L.length := by rw [HN.out]; omega
            obtain ⟨gl, a', c', rfl, hgl, hg, c0, c1, c2, c3, c4, c5, hri, hcp⟩ := (HZO.out.grew (HG2.out.trans HG.out)).at_ hjL
            have hmn0 : 0 ≤ (L.getD j zoZ).mn := by obtain ⟨nx, b1, b2⟩ := ok_at HOK.out hjL; exact b2.2.2.2.1
            have HST : Hid (fromZ u L (j + 1) = if hasZ u (L.getD j zoZ) = true then some j else fromZ u L j) := Lib.hid (by conv => lhs; unfold fromZ; rw [getZ hjL])
            have hfr := HS.out.2 j hjL
            have HXI : Hid (fromZ u L (m + 1) = some j → X = (L.set j { L.getD j zoZ with fr := (L.getD j zoZ).fr.drop 1 }, (L.getD j zoZ).fr.getD 0 0, 0)) := Lib.hid fun h => HX0.out j h
            obtain ⟨⟨zf, zs, zm, zl, zh, fr⟩, hzd⟩ : ∃ z, L.getD j zoZ = z := ⟨_, rfl⟩
            have HZD := Lib.hid hzd
            rw [hzd] at c0 c1 c2 c3 c4 c5 hri hcp hmn0 HST HXI hfr
            simp only at c0 c1 c2 c3 c4 c5 hri hcp hmn0 HXI hfr
            have hi0 : (0 : Int) ≤ (j : Int) := by omega
            have hi1 : (j : Int) < (n : Int) := by omega
            have HRI := Lib.hid hri
            clear hzd hri
            cases hh : hasZ u ⟨zf, zs, zm, zl, zh, fr⟩
            · have HF2 := Lib.hid (show fromZ u L j = fromZ u L (m + 1) by rw [← HF.out, HST.out, hh]; rfl)
              have HH := Lib.hid hh
              clear hh
              go_wp2_with fail
              with_reducible refine (gives_p (z := ⟨zf, zs, zm, zl, zh, fr⟩) rfl hmn0 hfr HH.out).mono ?_
              rintro e3 w3 ⟨rfl, g3⟩
              have HG3 := Lib.hid (HG.out.trans g3)
              clear g3
              go_wp2_with fail
              go_roundw
              case rel => exact ⟨j, (j : Int) - 1, by go_num, by omega, by omega, HF2, HG3.out⟩
              case measure => simp [intOf] <;> omega
            · have HX := Lib.hid (HXI.out (by rw [← HF.out, HST.out, hh]; rfl))
              have hpos : 0 < fr.length := by
                unfold hasZ at hh
                rw [Bool.or_eq_true, Bool.and_eq_true, decide_eq_true_iff, decide_eq_true_iff] at hh
                rcases hh with hh | ⟨-, hh⟩
                · have h1 : zm < (fr.length : Int) := hh; omega
                · exact hh
              have HH := Lib.hid hh
              clear hh
              obtain ⟨x, xs, rfl⟩ : ∃ x xs, fr = x :: xs := by
                cases fr with
                | nil => exact absurd hpos (by simp)
                | cons x xs => exact ⟨x, xs, rfl⟩
              obtain ⟨gf, of, rfl, hgf1, hgf, x0⟩ := HRI.out.at_ hpos
              have hlx : Hid (xs.length + 1 = (x :: xs).length) := Lib.hid rfl
              rw [Nat.add_zero] at x0
              simp only [List.getD_cons_zero] at x0
              go_wp2_with fail
              with_reducible refine (gives_p (n := xs.length + 1) (z := ⟨zf, zs, zm, zl, zh, x :: xs⟩) hlx.out hmn0 hfr HH.out).mono ?_
              rintro e3 w3 ⟨rfl, g3⟩
              have HG3 := Lib.hid (HG.out.trans g3)
              have d5 := (g3.cells.1 gl _ hg).trans c5
              have y0 := (g3.cells.1 gf _ hgf).trans x0
              have HZ3 := Lib.hid (HZ2.out.kept HG3.out)
              clear g3 c0 c1 c2 c3 c4 c5 x0 hg hgf HRI
              obtain ⟨a1, c1, rfl⟩ := HZ3.out.len_
              obtain ⟨hn1, gn, rfl, hBn, hgn, hfz⟩ := HZ3.out.block (by omega)
              obtain ⟨a2, c2, n5, hri, hcp2⟩ := HZ3.out.free_at hjL
              have HPT := Lib.hid (fun (a' : Option Addr) (n' c' : Nat) (hr : RdI w3 _ a' n' xs) (hc : n' ≤ c') => HZ3.out.put5 hjL (fun x hx => pQ_ne hBn hx) hr hc)
              rw [HZD.out] at n5 hri hcp2 HPT
              simp only [List.length_cons] at n5 hri hcp2
              obtain ⟨gf2, of2, rfl, -⟩ := hri.at_ (k := 0) (by simp)
              have HRI := Lib.hid hri
              have f5 := hfz (j * 6 + 5)
              have hgl2 : gl < w.heap.size := hgl
              have hgf2 : gf < w.heap.size := hgf1
              have hc1 : (1 : Int) ≤ (c2 : Int) := by omega
              clear hri hfz hcp hfr HST HXI HF hgl hgf1
              have hcc : (∃ A, Hid (RdI w3 (pQ p w.heap.size (.slice (some ⟨gn, 0, none⟩) L.length c1)) A xs.length xs) ∧ Hid (c2 = 1) ∧ A = some ⟨gf2, of2, none⟩) ∨ (∃ A, Hid (RdI w3 (pQ p w.heap.size (.slice (some ⟨gn, 0, none⟩) L.length c1)) A xs.length xs) ∧ Hid (¬c2 = 1) ∧ A = some ⟨gf2, of2 + 1, none⟩) := by
                by_cases e : c2 = 1
                · exact .inl ⟨_, Lib.hid ⟨rfl, .inl (List.length_eq_zero_iff.1 (by omega))⟩, Lib.hid e, rfl⟩
                · exact .inr ⟨_, Lib.hid HRI.out.drop1, Lib.hid e, rfl⟩
              have hx1 : xs.length ≤ c2 - 1 := by omega
              rcases hcc with ⟨A, HMX, hcA, hA⟩ | ⟨A, HMX, hcA, hA⟩
              all_goals
                replace hcA := hcA.out
                have HAA := Lib.hid hA
                clear hA
                go_upto_region 11 with fail
                rw [← HAA.out]
                generalize hw4 : World.setCell w3 _ _ = w4
                have HZ4 : Hid (ZsO 42 w4 w.heap.size (pQ p w.heap.size (.slice (some ⟨gn, 0, none⟩) L.length c1)) (.slice (some ⟨gn, 0, none⟩) L.length c1) (L.set j ⟨zf, zs, zm, zl, zh, xs⟩)) := Lib.hid (by rw [← hw4]; exact HPT.out _ _ _ HMX.out (by omega))
                have e5 := show w4.cell? ⟨gl, j * 6 + 5, none⟩ = some (.slice (some ⟨gf, of, none⟩) (xs.length + 1) c') from by rw [← hw4]; exact far_cell (show gn ≠ gl by omega) d5
                have e0 := show w4.cell? ⟨gf, of, none⟩ = some (.int .i64 x) from by rw [← hw4]; exact far_cell (show gn ≠ gf by omega) y0
                have HG4 := Lib.hid (show Grew w w4 from by rw [← hw4]; exact (HG2.out.trans HG3.out).set (p := ⟨gn, j * 6 + 5, none⟩) hBn _)
                clear d5 y0 n5 f5 HPT HMX HRI hw4
                go_quiet (fail)
                revert nq; intro nq1
                go_wp2
                refine bodyPost_ret (v := .tuple #[.slice (some ⟨gn, 0, none⟩) L.length c1, .int .i64 x, .int .i64 0]) (by simp [results, Try.results12, go_sem]) rfl ⟨_, by rw [HX.out]; rfl, by rw [HX.out]; exact zsO_out (HZ4.out.kept ((Grew.refl w4).drewN nq1)), HG4.out.drewN nq1⟩
end Go.Proofs.Ytphccdfdknihdaa
