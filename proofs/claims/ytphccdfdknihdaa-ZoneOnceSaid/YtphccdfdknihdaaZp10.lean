/- The program's zones (layer 10): Give. -/
import Derived.Test.YtphccdfdknihdaaZp9
import Derived.Deep.RegionWith
namespace Go.Proofs.Ytphccdfdknihdaa
open Go.RowKit Go.Mine

theorem pN_le {p : Nat → Prop} {A B g : Nat} (hB : A ≤ B) (h : pN p B g) : pN p A g := h.elim .inl fun h => .inr (Nat.le_trans hB h)
theorem inserted_v {p : Nat → Prop} {a : Option Addr} {n c k : Nat} {f : Int} {xs ys : List Int} {w : World} (h : RdI w p a n xs) (hl : xs.length ≤ 1000) (hk : k ≤ n) (hc : n ≤ c) (hy : xs.take k ++ f :: xs.drop k = ys) :
    Calls Try.prog 37 #[.slice a n c, .int .i64 k, .int .i64 f] w (RetRw2 ys w) := hy ▸ inserted_p h hl hk hc
set_option maxRecDepth 100000 in
set_option maxHeartbeats 8000000 in
theorem give_p {p : Nat → Prop} {v : Value} {L : List Zo} {w : World} {f : Int} (h : ZsR w p v L) (hs : SmZ L) : Calls Try.prog 14 #[v, .int .i64 f] w (RetE2 p (givX L f) w.heap.size w) := by
  obtain ⟨a, c, rfl⟩ := h.slice
  have HS := Lib.hid hs
  obtain ⟨n, hn⟩ : ∃ n, L.length = n := ⟨_, rfl⟩
  have HN := Lib.hid hn
  have hl : n ≤ 1000 := hn ▸ hs.1
  rw [hn] at h ⊢
  have HG0 := Lib.hid ((Grew.refl w).alloc (.cells #[.int .i64 f] 3))
  have HZ := Lib.hid ((h.old.grew HG0.out))
  have HZP := Lib.hid (h.grew HG0.out)
  have HBX := Lib.hid (Own.new w 3 #[.int .i64 f])
  have hsz : w.heap.size ≤ (w.alloc (.cells #[.int .i64 f] 3)).heap.size := by simp
  clear h hs hn
  cases hr : okB L
  · have HX := Lib.hid (givX_1 (f := f) hr)
    go_enter Try.func14, Try.ntmps14
    go_wp2_with fail
    generalize World.alloc w _ = wa at *
    with_reducible refine (copied_p HZP.out HS.out).mono ?_
    rintro e1 w1 ⟨v1, rfl, Z1, G1⟩
    have HZ1 := Lib.hid Z1
    have HG1 := Lib.hid (HG0.out.trans G1)
    have HZA := Lib.hid (HZ.out.grew G1)
    clear Z1 G1
    go_wp2_with fail
    with_reducible refine (check_p HZA.out HS.out hr).mono ?_
    rintro e2 w2 ⟨rfl, g2⟩
    have HZ2 := Lib.hid (zsO_out (HZ1.out.kept g2))
    have HG2 := Lib.hid (HG1.out.trans g2)
    clear g2
    go_wp2
    refine bodyPost_ret (v := .tuple #[v1, .int .i64 1]) (by simp [results, Try.results14, go_sem]) rfl ⟨_, by rw [HX.out], by rw [HX.out]; exact HZ2.out.mono fun g h _ => pN_le hsz h, HG2.out⟩
  · have HOK := Lib.hid hr
    have HX2 : Hid (whZ f L = none → givX L f = (L, 2)) := Lib.hid fun h => givX_2 hr h
    have HX5 : Hid (∀ i, whZ f L = some i → f ∈ frI L i → givX L f = (L, 5)) := Lib.hid fun i h h2 => givX_5 hr h h2
    have HX0 : Hid (∀ i, whZ f L = some i → ¬f ∈ frI L i → givX L f = (setF L i (insI f (frI L i)), 0)) := Lib.hid fun i h h2 => givX_0 hr h h2
    generalize givX L f = X at *
    go_enter Try.func14, Try.ntmps14
    go_wp2_with fail
    obtain ⟨sx, hsx⟩ : ∃ sx, w.heap.size = sx := ⟨_, rfl⟩
    have HSX := Lib.hid hsx
    rw [hsx] at HBX ⊢
    clear hsx
    generalize World.alloc w _ = wa at *
    with_reducible refine (copied_p HZP.out HS.out).mono ?_
    rintro e1 w1 ⟨v1, rfl, Z1, G1⟩
    have HZ1 := Lib.hid Z1
    have HG1 := Lib.hid (HG0.out.trans G1)
    have HZA := Lib.hid (HZ.out.grew G1)
    have HB1 := Lib.hid (HBX.out.grew G1)
    clear Z1 G1
    go_wp2_with fail
    with_reducible refine (check_p HZA.out HS.out hr).mono ?_
    rintro e2 w2 ⟨rfl, g2⟩
    have HG2 := Lib.hid (HG1.out.trans g2)
    have HZ2 := Lib.hid (HZ1.out.kept g2)
    have HZB := Lib.hid (HZA.out.grew g2)
    have HB2 := Lib.hid (HB1.out.grew g2)
    have hcf := HB2.out.one.1
    clear g2 hr HZA HZ1 HB1
    go_wp2_with fail
    with_reducible refine (indexG_p HZB.out HS.out HOK.out hcf).mono ?_
    rintro e3 w3 ⟨j, rfl, g3, ⟨rfl, h3⟩ | ⟨m, rfl, hm, hb, hi⟩⟩
    · have HX := Lib.hid (HX2.out (whZ_none h3))
      have HZ3 := Lib.hid (zsO_out (HZ2.out.kept g3))
      have HG3 := Lib.hid (HG2.out.trans g3)
      clear h3 g3
      go_wp2
      refine bodyPost_ret (v := .tuple #[v1, .int .i64 2]) (by simp [results, Try.results14, go_sem]) rfl ⟨_, by rw [HX.out], by rw [HX.out]; exact HZ3.out.mono fun g h _ => pN_le hsz h, HG3.out⟩
    · have HW := whZ_some hm hi hb
      have HZ3 := Lib.hid (HZ2.out.kept g3)
      have HG3 := Lib.hid (HG2.out.trans g3)
      have HZC := Lib.hid (HZB.out.grew g3)
      have HB3 := Lib.hid (HB2.out.grew g3)
      have hcf3 := HB3.out.one.1
      clear hb hi g3 hcf HZ2 HZB HB2
      obtain ⟨gl, a', c', rfl, hgl, hg, c0, c1, c2, c3, c4, c5, hri, hcp⟩ := HZC.out.at_ hm
      have hfr := HS.out.2 m hm
      have hasc : ascI (L.getD m zoZ).fr := by obtain ⟨nx, b1, b2⟩ := ok_at HOK.out hm; exact b2.2.2.2.2.2.2.2.2
      replace HX5 : Hid (f ∈ (L.getD m zoZ).fr → X = (L, 5)) := Lib.hid fun h => HX5.out m HW h
      replace HX0 : Hid (¬f ∈ (L.getD m zoZ).fr → X = (L.set m { L.getD m zoZ with fr := insI f (L.getD m zoZ).fr }, 0)) := Lib.hid fun h => HX0.out m HW h
      clear HX2 HW c0 c1 c2 c3 c4
      obtain ⟨z, hzd⟩ : ∃ z, L.getD m zoZ = z := ⟨_, rfl⟩
      have HZD := Lib.hid hzd
      rw [hzd] at c5 hri hcp hfr hasc HX5 HX0
      clear hzd
      have HRI := Lib.hid hri
      have HASC := Lib.hid hasc
      have hm0 : (0 : Int) ≤ (m : Int) := by omega
      have hm1 : (m : Int) < (n : Int) := by have := HN.out; omega
      obtain ⟨at', hat⟩ : ∃ at', z.fr.countP (· < f) = at' := ⟨_, rfl⟩
      have hle : at' ≤ z.fr.length := by rw [← hat]; exact List.countP_le_length
      have HAT := Lib.hid hat
      clear hat hri hasc
      cases hfm : decide (f ∈ z.fr)
      · have HF := Lib.hid hfm
        have hnf := of_decide_eq_false hfm
        have HX := Lib.hid (HX0.out hnf)
        obtain ⟨ys, hys⟩ : ∃ ys, z.fr.take at' ++ f :: z.fr.drop at' = ys := ⟨_, rfl⟩
        have HYS := Lib.hid hys
        have HX9 : Hid (X = (L.set m { z with fr := ys }, 0)) := Lib.hid (by rw [HX.out, insI_bin HASC.out hnf, HAT.out, hys])
        clear hys
        clear hfm hnf
        go_upto_region 7 with fail
        go_quiet ((go_at_call 36; exact Calls.quiet_of (bin_p (HRI.out.keep (q := fun _ => True) (Nat.le_refl _) (fun _ _ _ => trivial) fun _ _ _ => rfl) hfr HASC.out HAT.out HF.out)))
        revert nq; intro nq1
        have HZ4 := Lib.hid (HZ3.out.kept ((Grew.refl w3).drewN nq1))
        have HG4 := Lib.hid (HG3.out.drewN nq1)
        have HR4 : Hid (RdI (w3.drewN nq1) (fun b => b < w.heap.size) a' z.fr.length z.fr) := Lib.hid (HRI.out.keep (Nat.le_refl _) (fun _ h _ => h) fun _ _ _ => rfl)
        have d5 : (w3.drewN nq1).cell? ⟨gl, m * 6 + 5, none⟩ = some (.slice a' z.fr.length c') := c5
        have dcf : (w3.drewN nq1).cell? ⟨sx, 0, none⟩ = some (.int .i64 f) := hcf3
        have hgd : gl < (w3.drewN nq1).heap.size := hg
        clear HZ3 HG3 HRI c5 hcf3 hg HZC HB3
        go_wp2_with fail
        generalize World.drewN w3 nq1 = wd at *
        obtain ⟨a1, c1', rfl⟩ := HZ4.out.len_
        obtain ⟨hn1, gn, rfl, hBn, hgn, hfz⟩ := HZ4.out.block (by omega)
        obtain ⟨a2, c2, n5, -, -⟩ := HZ4.out.free_at hm
        have f5 := hfz (m * 6 + 5)
        have hm2 : (m : Int) < (L.length : Int) := by omega
        have ha0 : (0 : Int) ≤ (at' : Int) := by omega
        clear hfz
        have HRd : Hid (RdI wd.drew (fun b => b < w.heap.size) a' z.fr.length z.fr) := Lib.hid HR4.out
        have HZd := Lib.hid (HZ4.out.kept (Grew.refl wd).drew)
        have HGd := Lib.hid HG4.out.drew
        have e5 : wd.drew.cell? ⟨gl, m * 6 + 5, none⟩ = some (.slice a' z.fr.length c') := d5
        have ecf : wd.drew.cell? ⟨sx, 0, none⟩ = some (.int .i64 f) := dcf
        have en5 := (show wd.drew.cell? ⟨gn, m * 6 + 5, none⟩ = _ from n5)
        have ef5 : wd.drew.frozen? ⟨gn, m * 6 + 5, none⟩ = false := f5
        have hgnd : gn < wd.drew.heap.size := hgn
        clear HR4 HZ4 HG4 d5 dcf n5 f5
        go_upto_region 10 with fail
        go_region_with (go_at_call 37; (with_reducible refine (inserted_v HRd.out hfr hle hcp HYS.out).mono ?_); rintro e5_ w5 ⟨v5, rfl, R5, G5⟩; obtain ⟨a5, k5, rfl, r5, h5⟩ := R5.rdI; have en6 := (G5.cells.1 gn (m * 6 + 5) hgnd).trans en5; have ef6 := (G5.cells.2 gn (m * 6 + 5) hgnd).trans ef5)
        all_goals
          have HZ5 := (HZd.out.kept G5).put5 hm (fun x hx => pQ_ne hBn hx) (r5.keep (q := pQ p wa.heap.size (.slice (some ⟨gn, 0, none⟩) L.length c1')) (Nat.le_refl _) (fun g h _ => .inr ⟨by have h1 : wd.drew.heap.size ≤ g := h; omega, fun e => (show gn ≠ g by have h1 : wd.drew.heap.size ≤ g := h; omega) (by injection e)⟩) fun _ _ _ => rfl) h5
          rw [HZD.out] at HZ5
          have HL5 := Lib.hid (zsO_out HZ5)
          have HG5 := Lib.hid ((HGd.out.trans G5).set (p := ⟨gn, m * 6 + 5, none⟩) (show w.heap.size ≤ gn by omega) (.slice a5 ys.length k5))
          clear HZ5 R5 G5 r5 h5
          generalize World.setCell w5 _ _ = w6 at *
          go_wp2
          refine bodyPost_ret (v := .tuple #[.slice (some ⟨gn, 0, none⟩) L.length c1', .int .i64 0]) (by simp [results, Try.results14, go_sem]) rfl ⟨_, by rw [HX9.out], by rw [HX9.out]; exact HL5.out.mono fun g h _ => pN_le hsz h, HG5.out⟩
      · have HF := Lib.hid hfm
        have HX := Lib.hid (HX5.out (of_decide_eq_true hfm))
        clear hfm
        go_upto_region 7 with fail
        go_quiet ((go_at_call 36; exact Calls.quiet_of (bin_p (HRI.out.keep (q := fun _ => True) (Nat.le_refl _) (fun _ _ _ => trivial) fun _ _ _ => rfl) hfr HASC.out HAT.out HF.out)))
        revert nq; intro nq1
        go_wp2
        refine bodyPost_ret (v := .tuple #[v1, .int .i64 5]) (by simp [results, Try.results14, go_sem]) rfl ⟨_, by rw [HX.out], by rw [HX.out]; exact (zsO_out (HZ3.out.kept ((Grew.refl w3).drewN nq1))).mono fun g h _ => pN_le hsz h, HG3.out.drewN nq1⟩
end Go.Proofs.Ytphccdfdknihdaa
