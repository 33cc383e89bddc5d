/- The reference of layer 10: Check: walked. -/
import Derived.Test.YtphccdfdknihdaaZc1
import Derived.Test.YtphccdfdknihdaaZnF
namespace Go.Proofs.Ytphccdfdknihdaa
open Go.RowKit Go.Mine

def FldN (f s mn lo hi nx : Int) : Prop := f = nx ∧ 1 ≤ s ∧ s ≤ 65 - nx ∧ 0 ≤ mn ∧ mn ≤ lo ∧ lo ≤ hi ∧ hi ≤ s
theorem fld_of {f s mn lo hi nx : Int} {fr : List Int} (h : ZoOK ⟨f, s, mn, lo, hi, fr⟩ nx) : FldN f s mn lo hi nx := ⟨h.1, h.2.1, h.2.2.1, h.2.2.2.1, h.2.2.2.2.1, h.2.2.2.2.2.1, h.2.2.2.2.2.2.1⟩
theorem frK_step {z : Zo} {k : Nat} (h : FrK z k) (h1 : z.f ≤ z.fr.getD k 0 ∧ z.fr.getD k 0 < z.f + z.s) (h2 : k = 0 ∨ z.fr.getD (k - 1) 0 < z.fr.getD k 0) : FrK z (k + 1) := by
  refine ⟨fun j hj => ?_, fun j hj => ?_⟩
  · by_cases e : j = k
    · subst e; exact h1
    · exact h.1 j (by omega)
  · by_cases e : j + 1 = k
    · subst e
      rcases h2 with h2 | h2
      · omega
      · exact h2
    · exact h.2 j (by omega)
theorem okB_take {L : List Zo} {r : Bool} (hr : okB L = r) {i : Nat} (hi : i < L.length) {nx : Int} (hnx : nx = 1 + sizeZ (L.take i)) (hb : ¬ZoOK (L.getD i zoZ) nx) : r = false := by
  cases r
  · rfl
  · exact absurd (hnx ▸ rt_get (okB_iff.1 hr).2 hi) hb
set_option maxRecDepth 100000 in
set_option maxHeartbeats 16000000 in
theorem check_q {p : Nat → Prop} {r : Bool} {v : Value} {L : List Zo} {w : World} (h : ZsR w p v L) (hs : SmZ L) (hr : okB L = r) : Calls Try.prog 17 #[v] w (RetG (.bool r) w) := by
  obtain ⟨a, c, rfl⟩ := h.slice
  have HS := Lib.hid hs
  have HRR := Lib.hid hr
  obtain ⟨n, hn⟩ : ∃ n, L.length = n := ⟨_, rfl⟩
  have HN := Lib.hid hn
  have hl : n ≤ 1000 := hn ▸ hs.1
  rw [hn] at h ⊢
  have HZ := Lib.hid h
  clear h hs hr hn
  go_enter Try.func17, Try.ntmps17
  go_wp2_with fail
  go_loopw [3, 4] (fun nv iv wr => ∃ (i : Nat) (nx : Int), nv = .int .i64 nx ∧ iv = .int .i64 i ∧ i ≤ n ∧ 1 ≤ nx ∧ nx ≤ 65 ∧ Hid (RtZ 1 (L.take i)) ∧ Hid (nx = 1 + sizeZ (L.take i)) ∧ Grew w wr) (fun _ iv _ => n - (intOf iv).toNat)
  case atStart => exact ⟨0, 1, rfl, rfl, by omega, by omega, by omega, Lib.hid trivial, Lib.hid (by simp [sizeZ]), Grew.refl _⟩
  case round =>
    obtain ⟨i, nx, rfl, rfl, hi, hnx1, hnx6, HRT, HNX, G⟩ := hrel
    obtain ⟨wo, rfl⟩ : ∃ wo : World, wo = wr := ⟨_, rfl⟩
    by_cases hlt : i < n
    · have hiL : i < L.length := by rw [HN.out]; exact hlt
      obtain ⟨g, a', c', rfl, -, hg, c0, c1, c2, c3, c4, c5, hri⟩ := (HZ.out.grew G).at_ hiL
      have HTK := Lib.hid (takeZ hiL)
      have HBAD := Lib.hid (fun hb => okB_take HRR.out hiL HNX.out hb)
      have hfr := HS.out.2 i hiL
      obtain ⟨⟨zf, zs, zm, zl, zh, fr⟩, hzd⟩ : ∃ z, L.getD i zoZ = z := ⟨_, rfl⟩
      rw [hzd] at c0 c1 c2 c3 c4 c5 hri HTK HBAD hfr
      replace HBAD := Lib.hid (show ¬FldN zf zs zm zl zh nx → r = false from fun hb => HBAD.out fun h => hb (fld_of h))
      have HBAF := Lib.hid (fun hb => okB_take HRR.out hiL HNX.out (hzd ▸ hb))
      simp only at c0 c1 c2 c3 c4 c5 hri hfr
      have hi0 : (0 : Int) ≤ (i : Int) := by omega
      have hi1 : (i : Int) < (n : Int) := by omega
      have HG := Lib.hid (G.alloc (.cells (cZ zf zs zm zl zh a' fr.length c') 42))
      have HRI := Lib.hid hri
      clear hzd hri G
      by_cases t0 : ¬zf = nx
      · have q0 : (zf == nx) = false := by simp [t0]
        go_wp2
        go_ret
        exact ⟨ret_bool (HBAD.out (fun h => by obtain ⟨h0, h1, h2, h3, h4, h5, h6⟩ := h; omega)).symm, HG.out⟩
      · obtain rfl : zf = nx := by omega
        have q0 : (zf == zf) = true := by simp
        by_cases t1 : zs < 1
        · skip
          go_wp2
          go_ret
          exact ⟨ret_bool (HBAD.out (fun h => by obtain ⟨h0, h1, h2, h3, h4, h5, h6⟩ := h; omega)).symm, HG.out⟩
        · skip
          by_cases t2 : 65 - zf < zs
          · skip
            go_wp2
            go_ret
            exact ⟨ret_bool (HBAD.out (fun h => by obtain ⟨h0, h1, h2, h3, h4, h5, h6⟩ := h; omega)).symm, HG.out⟩
          · skip
            by_cases t3 : zm < 0
            · skip
              go_wp2
              go_ret
              exact ⟨ret_bool (HBAD.out (fun h => by obtain ⟨h0, h1, h2, h3, h4, h5, h6⟩ := h; omega)).symm, HG.out⟩
            · skip
              by_cases t4 : zl < zm
              · skip
                go_wp2
                go_ret
                exact ⟨ret_bool (HBAD.out (fun h => by obtain ⟨h0, h1, h2, h3, h4, h5, h6⟩ := h; omega)).symm, HG.out⟩
              · skip
                by_cases t5 : zh < zl
                · skip
                  go_wp2
                  go_ret
                  exact ⟨ret_bool (HBAD.out (fun h => by obtain ⟨h0, h1, h2, h3, h4, h5, h6⟩ := h; omega)).symm, HG.out⟩
                · skip
                  by_cases t6 : zs < zh
                  · skip
                    go_wp2
                    go_ret
                    exact ⟨ret_bool (HBAD.out (fun h => by obtain ⟨h0, h1, h2, h3, h4, h5, h6⟩ := h; omega)).symm, HG.out⟩
                  · skip
                    have hfld : FldN zf zs zm zl zh zf := ⟨by omega, by omega, by omega, by omega, by omega, by omega, by omega⟩
                    have HFLD := Lib.hid hfld
                    have HZ0 := Lib.hid (Own.new wo 42 (cZ zf zs zm zl zh a' fr.length c'))
                    have HRI2 := Lib.hid (HRI.out.1.keep (q := p) (w' := wo.alloc (.cells (cZ zf zs zm zl zh a' fr.length c') 42)) (by simp) (fun _ a _ => a) fun g _ hg => Below.heap_alloc wo _ g hg)
                    have hk0 : wo.heap.size < (wo.alloc (.cells (cZ zf zs zm zl zh a' fr.length c') 42)).heap.size := by simp
                    go_wp2_with fail
                    generalize hsx : wo.heap.size = sx at *
                    generalize hwa : World.alloc wo _ = wa at *
                    clear hwa
                    obtain ⟨m, hm⟩ : ∃ m, fr.length = m := ⟨_, rfl⟩
                    have HM := Lib.hid hm
                    rw [hm] at hfr HZ0 HRI2
                    go_loopw [6] (fun kv wi => ∃ k : Nat, kv = .int .i64 k ∧ k ≤ m ∧ Hid (FrK ⟨zf, zs, zm, zl, zh, fr⟩ k) ∧ Grew wa wi) (fun kv _ => m - (intOf kv).toNat)
                    case atStart => exact ⟨0, rfl, by omega, Lib.hid ⟨fun j hj => by omega, fun j hj => by omega⟩, Grew.refl _⟩
                    case round =>
                      obtain ⟨k, rfl, hk, HF, G2⟩ := hrel
                      obtain ⟨wi, rfl⟩ : ∃ wi : World, wi = wr := ⟨_, rfl⟩
                      obtain ⟨z0, z1, z2, z3, z4, z5⟩ := (HZ0.out.grew G2).six
                      by_cases hkm : k < m
                      · have hkL : k < fr.length := by rw [HM.out]; exact hkm
                        obtain ⟨gf, of, rfl, -, hgf, x0⟩ := HRI2.out.at_ hkL
                        have x1 : wi.cell? ⟨gf, of + k, none⟩ = some (.int .i64 (fr.getD k 0)) := (G2.cells.1 gf _ hgf).trans x0
                        have HB1 := Lib.hid (fun (h : ZoOK ⟨zf, zs, zm, zl, zh, fr⟩ zf) => (frK_of h (k := k + 1) (show k + 1 ≤ fr.length by omega)).1 k (Nat.lt_succ_self k))
                        have HST := Lib.hid (fun h1 h2 => frK_step HF.out h1 h2)
                        have j0 : (0 : Int) ≤ (k : Int) := by omega
                        have j1 : (k : Int) < (m : Int) := by omega
                        have HGG := Lib.hid (HG.out.trans G2)
                        have HG2 := Lib.hid G2
                        have e65 : zf + zs ≤ 65 := by omega
                        have e1 : 1 ≤ zs := by omega
                        by_cases hk0 : k = 0
                        · subst hk0
                          generalize fr.getD 0 0 = y at *
                          rw [show ((0 : Nat) : Int) = 0 from rfl] at *
                          rw [Nat.add_zero] at x1
                          clear x0 G2
                          by_cases h1 : y < zf
                          · have HB := Lib.hid (HBAF.out fun h => by have h2 := (HB1.out h).1; have h3 : zf ≤ y := h2; omega)
                            go_upto_region 11 with fail
                            go_quiet (fail)
                            revert nq; intro nq1
                            go_wp2
                            go_ret
                            exact ⟨ret_bool HB.out.symm, HGG.out.drewN nq1⟩
                          · by_cases h2 : zf + zs ≤ y
                            · have HB := Lib.hid (HBAF.out fun h => by have h2 := (HB1.out h).2; have h3 : y < zf + zs := h2; omega)
                              go_upto_region 11 with fail
                              go_quiet (fail)
                              revert nq; intro nq1
                              go_wp2
                              go_ret
                              exact ⟨ret_bool HB.out.symm, HGG.out.drewN nq1⟩
                            · have HN := Lib.hid (HST.out ⟨show zf ≤ y by omega, show y < zf + zs by omega⟩ (.inl rfl))
                              go_upto_region 11 with fail
                              go_quiet (fail)
                              revert nq; intro nq1
                              go_wp2
                              exact ⟨⟨1, by go_num, by omega, HN, HG2.out.drewN nq1⟩, by simp [intOf]; omega⟩
                        · obtain ⟨j, rfl⟩ : ∃ j, k = j + 1 := ⟨k - 1, by omega⟩
                          obtain ⟨gf', of', e', -, -, x2⟩ := HRI2.out.at_ (show j < fr.length by omega)
                          injection e' with e'
                          injection e' with e1' e2'
                          subst e1' e2'
                          have x3 : wi.cell? ⟨gf, of + j, none⟩ = some (.int .i64 (fr.getD j 0)) := (G2.cells.1 gf _ hgf).trans x2
                          have HB2 := Lib.hid (fun (h : ZoOK ⟨zf, zs, zm, zl, zh, fr⟩ zf) => (frK_of h (k := j + 1 + 1) (show j + 1 + 1 ≤ fr.length by omega)).2 j (by omega))
                          have e3 : j + 1 - 1 = j := by omega
                          rw [e3] at HST
                          simp only at HB1 HB2 HST
                          generalize fr.getD (j + 1) 0 = y at *
                          generalize fr.getD j 0 = yp at *
                          have j3 : (0 : Int) ≤ (j : Int) := by omega
                          have j4 : (j : Int) < (m : Int) := by omega
                          have j5 : (0 : Int) < (j : Int) + 1 := by omega
                          clear x0 x2 G2 e3 hk0
                          by_cases h1 : y < zf
                          · have HB := Lib.hid (HBAF.out fun h => by have h2 := (HB1.out h).1; have h3 : zf ≤ y := h2; omega)
                            go_upto_region 11 with fail
                            go_quiet (fail)
                            revert nq; intro nq1
                            go_wp2
                            go_ret
                            exact ⟨ret_bool HB.out.symm, HGG.out.drewN nq1⟩
                          · by_cases h2 : zf + zs ≤ y
                            · have HB := Lib.hid (HBAF.out fun h => by have h2 := (HB1.out h).2; have h3 : y < zf + zs := h2; omega)
                              go_upto_region 11 with fail
                              go_quiet (fail)
                              revert nq; intro nq1
                              go_wp2
                              go_ret
                              exact ⟨ret_bool HB.out.symm, HGG.out.drewN nq1⟩
                            · by_cases h3 : y ≤ yp
                              · have HB := Lib.hid (HBAF.out fun h => by have h2 := HB2.out h; omega)
                                go_upto_region 11 with fail
                                go_quiet (fail)
                                revert nq; intro nq1
                                go_wp2
                                go_ret
                                exact ⟨ret_bool HB.out.symm, HGG.out.drewN nq1⟩
                              · have HN := Lib.hid (HST.out ⟨show zf ≤ y by omega, show y < zf + zs by omega⟩ (.inr (by omega)))
                                go_upto_region 11 with fail
                                go_quiet (fail)
                                revert nq; intro nq1
                                go_wp2
                                exact ⟨⟨j + 1 + 1, by go_num, by omega, HN, HG2.out.drewN nq1⟩, by simp [intOf]; omega⟩
                      · obtain rfl : k = m := by omega
                        have hz : ZoOK ⟨zf, zs, zm, zl, zh, fr⟩ zf := frK_all HFLD.out (show FrK _ fr.length by rw [HM.out]; exact HF.out)
                        have HRT2 : Hid (RtZ 1 (L.take (i + 1))) := Lib.hid (by rw [HTK.out]; exact rt_snoc HRT.out (by rw [← HNX.out]; exact hz))
                        have HNX2 : Hid (zf + zs = 1 + sizeZ (L.take (i + 1))) := Lib.hid (by have := HNX.out; rw [HTK.out, sizeZ_snoc]; show zf + zs = 1 + (sizeZ (L.take i) + zs); omega)
                        have HG3 := Lib.hid (HG.out.trans G2)
                        clear hz G2
                        go_wp2
                        exact ⟨⟨i + 1, zf + zs, by go_num, by go_num, by omega, by omega, by omega, HRT2, HNX2, HG3.out⟩, by simp [intOf]; omega⟩
    · obtain rfl : i = n := by omega
      have HB : Hid (r = decide (0 < i)) := Lib.hid (by
        have h1 : RtZ 1 L := by have h := HRT.out; rwa [← HN.out, List.take_length] at h
        rw [← HRR.out, okB, rtB_iff.2 h1, Bool.and_true, HN.out])
      have HG := Lib.hid G
      clear G
      by_cases h0 : i = 0
      · subst h0
        go_wp2
        go_ret
        exact ⟨ret_bool (by rw [HB.out]; rfl), HG.out⟩
      · have h1 : (0 : Int) < (i : Int) := by omega
        go_wp2
        go_ret
        exact ⟨ret_bool (by rw [HB.out]), HG.out⟩
end Go.Proofs.Ytphccdfdknihdaa
