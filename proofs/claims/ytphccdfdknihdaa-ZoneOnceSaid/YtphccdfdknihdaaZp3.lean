/- The program's zones (layer 10): isRight, Check. -/
import Derived.Test.YtphccdfdknihdaaZp2
namespace Go.Proofs.Ytphccdfdknihdaa
open Go.RowKit Go.Mine

theorem okz_3 {z : Zo} : okz z z.f = true ↔ fitB z.f z.s = true ∧ (0 ≤ z.mn ∧ z.mn ≤ z.lo ∧ z.lo ≤ z.hi ∧ z.hi ≤ z.s) ∧ FrK z z.fr.length := by
  rw [okz_iff, frK_iff]
  unfold ZoOK fitB ascI
  rw [decide_eq_true_iff]
  constructor
  · rintro ⟨-, a, b, c, d, e, f, g, h⟩; exact ⟨⟨a, b⟩, ⟨c, d, e, f⟩, g, h⟩
  · rintro ⟨⟨a, b⟩, ⟨c, d, e, f⟩, g, h⟩; exact ⟨rfl, a, b, c, d, e, f, g, h⟩
theorem srt5 {a b c d e : Int} : SrtK [a, b, c, d, e] 0 ↔ a ≤ b ∧ b ≤ c ∧ c ≤ d ∧ d ≤ e := by
  constructor
  · intro h
    exact ⟨h 0 (by omega) (by simp), h 1 (by omega) (by simp), h 2 (by omega) (by simp), h 3 (by omega) (by simp)⟩
  · rintro ⟨h1, h2, h3, h4⟩ j - hj
    have hj : j + 1 < 5 := hj
    rcases (show j = 0 ∨ j = 1 ∨ j = 2 ∨ j = 3 by omega) with rfl | rfl | rfl | rfl
    · exact h1
    · exact h2
    · exact h3
    · exact h4
set_option maxHeartbeats 2000000 in
theorem isRight_p {p : Nat → Prop} {z : Zo} {a : Option Addr} {c : Nat} {b : Bool} {w : World} (h1 : 1 ≤ z.f) (h2 : z.f ≤ 65) (hl : z.fr.length ≤ 1000) (hr : RdI w p a z.fr.length z.fr) (hb : okz z z.f = b) :
    Calls Try.prog 38 #[zoV z a c] w (RetG (.bool b) w) := by
  have HB : Hid (b = true ↔ fitB z.f z.s = true ∧ (0 ≤ z.mn ∧ z.mn ≤ z.lo ∧ z.lo ≤ z.hi ∧ z.hi ≤ z.s) ∧ FrK z z.fr.length) := Lib.hid (by rw [← hb]; exact okz_3)
  obtain ⟨zf, zs, zm, zl, zh, fr⟩ := z
  simp only at h1 h2 hl hr HB
  have HRI := Lib.hid hr
  have HG := Lib.hid ((Grew.refl w).alloc (.cells (cZ zf zs zm zl zh a fr.length c) 42))
  have HBX := Lib.hid (Own.new w 42 (cZ zf zs zm zl zh a fr.length c))
  clear hb hr
  cases hf : fitB zf zs
  · have HE : Hid (b = false) := Lib.hid (by
      cases b
      · rfl
      · have := (HB.out.1 rfl).1
        rw [hf] at this
        exact absurd this (by decide))
    go_enter Try.func38, Try.ntmps38
    go_wp2_with fail
    with_reducible refine (fits_p h1 h2 hf).mono ?_
    rintro e1 w1 ⟨rfl, rfl⟩
    go_wp2
    go_ret
    exact ⟨ret_bool HE.out.symm, HG.out⟩
  · have hfit := of_decide_eq_true hf
    have HL5 := Lib.hid (Own.new2 w (.cells (cZ zf zs zm zl zh a fr.length c) 42) 3 #[.int .i64 0, .int .i64 zm, .int .i64 zl, .int .i64 zh, .int .i64 zs])
    have HCE : Hid (∀ k, k < [0, zm, zl, zh, zs].length → ((w.alloc (.cells (cZ zf zs zm zl zh a fr.length c) 42)).alloc (.cells #[.int .i64 0, .int .i64 zm, .int .i64 zl, .int .i64 zh, .int .i64 zs] 3)).cell? ⟨w.heap.size + 1, k, none⟩ = some (.int .i64 ([0, zm, zl, zh, zs].getD k 0))) := Lib.hid fun k hk => by
      have hk : k < 5 := hk
      rw [HL5.out.cell k]
      rcases (show k = 0 ∨ k = 1 ∨ k = 2 ∨ k = 3 ∨ k = 4 by omega) with rfl | rfl | rfl | rfl | rfl <;> rfl
    have HG2 := Lib.hid (HG.out.alloc (.cells #[.int .i64 0, .int .i64 zm, .int .i64 zl, .int .i64 zh, .int .i64 zs] 3))
    have HBX2 := Lib.hid (HBX.out.alloc (.cells #[.int .i64 0, .int .i64 zm, .int .i64 zl, .int .i64 zh, .int .i64 zs] 3))
    have hn5 : [0, zm, zl, zh, zs].length = 5 := rfl
    have hl5 : [0, zm, zl, zh, zs].length ≤ 1000 := by rw [hn5]; omega
    have h05 : 0 < [0, zm, zl, zh, zs].length := by rw [hn5]; omega
    have HF := Lib.hid hf
    clear hf
    by_cases hsr : 0 ≤ zm ∧ zm ≤ zl ∧ zl ≤ zh ∧ zh ≤ zs
    · have HS : Hid (SrtK [0, zm, zl, zh, zs] 0) := Lib.hid (srt5.2 hsr)
      have HB2 : Hid (b = true ↔ FrK ⟨zf, zs, zm, zl, zh, fr⟩ fr.length) := Lib.hid ⟨fun h => (HB.out.1 h).2.2, fun h => HB.out.2 ⟨HF.out, hsr, h⟩⟩
      clear hsr
      go_enter Try.func38, Try.ntmps38
      go_wp2_with fail
      with_reducible refine (fits_p h1 h2 HF.out).mono ?_
      rintro e1 w1 ⟨rfl, rfl⟩
      go_wp2_with fail
      with_reducible refine (sorted_p (b := true) (xs := [0, zm, zl, zh, zs]) hn5 hl5 h05 HCE.out ⟨fun _ => HS.out, fun _ => rfl⟩).mono ?_
      rintro e2 w2 ⟨rfl, g2⟩
      have HG3 := Lib.hid (HG2.out.trans g2)
      obtain ⟨z0, z1, z2, z3, z4, z5⟩ := (HBX2.out.grew g2).six
      clear g2
      go_wp2_with fail
      have HRI3 := Lib.hid (HRI.out.keep (q := p) HG3.out.size (fun _ a _ => a) fun g _ hg => Below.block HG3.out g hg)
      have hf1 : 1 ≤ zs := hfit.1
      have hf2 : zf + zs ≤ 65 := by have := hfit.2; omega
      with_reducible refine (hasFree_p (z := ⟨zf, zs, zm, zl, zh, fr⟩) h1 hf1 hf2 hl HRI3.out HB2.out).mono ?_
      rintro e4 w4 ⟨rfl, g4⟩
      have HG4 := Lib.hid (HG3.out.trans g4)
      clear g4
      go_wp2
      go_ret
      exact ⟨rfl, HG4.out⟩
    · have HS : Hid (¬SrtK [0, zm, zl, zh, zs] 0) := Lib.hid fun h => hsr (srt5.1 h)
      have HE : Hid (b = false) := Lib.hid (by
        cases b
        · rfl
        · exact absurd (HB.out.1 rfl).2.1 hsr)
      clear hsr
      go_enter Try.func38, Try.ntmps38
      go_wp2_with fail
      with_reducible refine (fits_p h1 h2 HF.out).mono ?_
      rintro e1 w1 ⟨rfl, rfl⟩
      go_wp2_with fail
      with_reducible refine (sorted_p (b := false) (xs := [0, zm, zl, zh, zs]) hn5 hl5 h05 HCE.out ⟨fun h => absurd h (by decide), fun h => absurd h HS.out⟩).mono ?_
      rintro e2 w2 ⟨rfl, g2⟩
      have HG3 := Lib.hid (HG2.out.trans g2)
      clear g2
      go_wp2
      go_ret
      exact ⟨ret_bool HE.out.symm, HG3.out⟩
set_option maxRecDepth 100000 in
set_option maxHeartbeats 4000000 in
theorem check_p {p : Nat → Prop} {r : Bool} {v : Value} {L : List Zo} {w : World} (h : ZsR w p v L) (hs : SmZ L) (hr : okB L = r) : Calls Try.prog 16 #[v] w (RetG (.bool r) w) := by
  obtain ⟨a, c, rfl⟩ := h.slice
  have HS := Lib.hid hs
  have HRR := Lib.hid hr
  obtain ⟨n, hn⟩ : ∃ n, L.length = n := ⟨_, rfl⟩
  have HN := Lib.hid hn
  have hl : n ≤ 1000 := hn ▸ hs.1
  rw [hn] at h ⊢
  have HZ := Lib.hid h
  clear h hs hr hn
  go_enter Try.func16, Try.ntmps16
  go_wp2_with fail
  go_loopw [3, 8] (fun nv iv wr => ∃ (i : Nat) (nx : Int), nv = .int .i64 nx ∧ iv = .int .i64 i ∧ i ≤ n ∧ 1 ≤ nx ∧ nx ≤ 65 ∧ Hid (RtZ 1 (L.take i)) ∧ Hid (nx = 1 + sizeZ (L.take i)) ∧ Grew w wr) (fun _ iv _ => n - (intOf iv).toNat)
  case atStart => exact ⟨0, 1, rfl, rfl, by omega, by omega, by omega, Lib.hid trivial, Lib.hid (by simp [sizeZ]), Grew.refl _⟩
  case round =>
    obtain ⟨i, nx, rfl, rfl, hi, hnx1, hnx6, HRT, HNX, G⟩ := hrel
    obtain ⟨wo, rfl⟩ : ∃ wo : World, wo = wr := ⟨_, rfl⟩
    by_cases hlt : i < n
    · have hiL : i < L.length := by rw [HN.out]; exact hlt
      obtain ⟨g, a', c', rfl, -, hg, c0, c1, c2, c3, c4, c5, hri, hcp⟩ := (HZ.out.grew G).at_ hiL
      have HTK := Lib.hid (takeZ hiL)
      have HBAD := Lib.hid (fun hb => okB_take HRR.out hiL HNX.out hb)
      have hfr := HS.out.2 i hiL
      obtain ⟨⟨zf, zs, zm, zl, zh, fr⟩, hzd⟩ : ∃ z, L.getD i zoZ = z := ⟨_, rfl⟩
      rw [hzd] at c0 c1 c2 c3 c4 c5 hri HTK HBAD hfr
      simp only at c0 c1 c2 c3 c4 c5 hri hfr
      have hi0 : (0 : Int) ≤ (i : Int) := by omega
      have hi1 : (i : Int) < (n : Int) := by omega
      have HG := Lib.hid (G.alloc (.cells (cZ zf zs zm zl zh a' fr.length c') 42))
      have HBX := Lib.hid (Own.new wo 42 (cZ zf zs zm zl zh a' fr.length c'))
      have HRI := Lib.hid (hri.keep (q := p) (w' := wo.alloc (.cells (cZ zf zs zm zl zh a' fr.length c') 42)) (by simp) (fun _ a _ => a) fun g _ hg => Below.heap_alloc wo _ g hg)
      clear hzd hri G
      by_cases t0 : ¬zf = nx
      · have q0 : (zf == nx) = false := by simp [t0]
        have HE : Hid (r = false) := Lib.hid (HBAD.out fun h => t0 h.1)
        go_wp2
        go_ret
        exact ⟨ret_bool HE.out.symm, HG.out⟩
      · obtain rfl : zf = nx := by omega
        have q0 : (zf == zf) = true := by simp
        cases hk : okz ⟨zf, zs, zm, zl, zh, fr⟩ zf
        · have HE : Hid (r = false) := Lib.hid (HBAD.out fun h => by rw [okz_iff.2 h] at hk; exact absurd hk (by decide))
          have HK := Lib.hid hk
          clear hk
          go_wp2_with fail
          with_reducible refine (isRight_p (z := ⟨zf, zs, zm, zl, zh, fr⟩) hnx1 hnx6 hfr HRI.out HK.out).mono ?_
          rintro e2 w2 ⟨rfl, g2⟩
          have HG3 := Lib.hid (HG.out.trans g2)
          clear g2
          go_wp2
          go_ret
          exact ⟨ret_bool HE.out.symm, HG3.out⟩
        · have hz := okz_iff.1 hk
          have HK := Lib.hid hk
          have e1 : 1 ≤ zs := hz.2.1
          have e2 : zs ≤ 65 - zf := hz.2.2.1
          have HRT2 : Hid (RtZ 1 (L.take (i + 1))) := Lib.hid (by rw [HTK.out]; exact rt_snoc HRT.out (by rw [← HNX.out]; exact hz))
          have HNX2 : Hid (zf + zs = 1 + sizeZ (L.take (i + 1))) := Lib.hid (by have := HNX.out; rw [HTK.out, sizeZ_snoc]; show zf + zs = 1 + (sizeZ (L.take i) + zs); omega)
          clear hk hz
          go_wp2_with fail
          with_reducible refine (isRight_p (z := ⟨zf, zs, zm, zl, zh, fr⟩) hnx1 hnx6 hfr HRI.out HK.out).mono ?_
          rintro e3 w2 ⟨rfl, g2⟩
          have HG3 := Lib.hid (HG.out.trans g2)
          obtain ⟨z0, z1, z2, z3, z4, z5⟩ := (HBX.out.grew g2).six
          clear g2
          go_wp2
          exact ⟨⟨i + 1, zf + zs, by go_num, by go_num, by omega, by omega, by omega, HRT2, HNX2, HG3.out⟩, by simp [intOf] <;> omega⟩
    · obtain rfl : i = n := by omega
      have HB : Hid (r = decide (0 < i)) := Lib.hid (by
        have h1 : RtZ 1 L := by have h := HRT.out; rwa [← HN.out, List.take_length] at h
        rw [← HRR.out, okB, rtB_iff.2 h1, Bool.and_true, HN.out])
      have HG := Lib.hid G
      clear G
      by_cases h0 : i = 0
      · subst h0
        go_wp2
        go_ret
        exact ⟨ret_bool (by rw [HB.out]; rfl), HG.out⟩
      · have h1 : (0 : Int) < (i : Int) := by omega
        go_wp2
        go_ret
        exact ⟨ret_bool (by rw [HB.out]), HG.out⟩
end Go.Proofs.Ytphccdfdknihdaa
