/- The reference of layer 10: Same, at two lists of the same zones. -/
import Derived.Test.YtphccdfdknihdaaZr2
import Derived.Deep.RegionWith
namespace Go.Proofs.Ytphccdfdknihdaa
open Go.RowKit Go.Mine

/-- What stands behind the two variables of a round. -/
def SamCut (wo : World) (A B : Array Value) (v6 v7 : Value) (wx : World) : Prop := ∃ b1 b2, v6 = .pointer (some ⟨b1, 0, none⟩) ∧ v7 = .pointer (some ⟨b2, 0, none⟩) ∧ Own wx b1 42 A ∧ Own wx b2 42 B ∧ Grew wo wx
set_option maxRecDepth 100000 in
set_option maxHeartbeats 4000000 in
theorem same_q {p q : Nat → Prop} {v1 v2 : Value} {L : List Zo} {w : World} (h1 : ZsR w p v1 L) (h2 : ZsR w q v2 L) (hs : SmZ L) : Calls Try.prog 18 #[v1, v2] w (RetG (.bool true) w) := by
  obtain ⟨a, c, rfl⟩ := h1.slice
  obtain ⟨b, d, rfl⟩ := h2.slice
  have HS := Lib.hid hs
  obtain ⟨n, hn⟩ : ∃ n, L.length = n := ⟨_, rfl⟩
  have HN := Lib.hid hn
  have hl : n ≤ 1000 := hn ▸ hs.1
  rw [hn] at h1 h2 ⊢
  have HZ := Lib.hid h1
  have HY := Lib.hid h2
  clear h1 h2 hs hn
  go_enter Try.func18, Try.ntmps18
  go_wp2_with fail
  go_loopw [5] (fun iv wr => ∃ i : Nat, iv = .int .i64 i ∧ i ≤ n ∧ Grew w wr) (fun iv _ => n - (intOf iv).toNat)
  case atStart => exact ⟨0, rfl, by omega, Grew.refl _⟩
  case round =>
    obtain ⟨i, rfl, hi, G⟩ := hrel
    obtain ⟨wo, rfl⟩ : ∃ wo : World, wo = wr := ⟨_, rfl⟩
    by_cases hlt : i < n
    · have hiL : i < L.length := by rw [HN.out]; exact hlt
      obtain ⟨g, a', c', rfl, -, hg, c0, c1, c2, c3, c4, c5, hri, -⟩ := (HZ.out.grew G).at_ hiL
      obtain ⟨g2, b', d', rfl, -, hg2, d0, d1, d2, d3, d4, d5, hrj, -⟩ := (HY.out.grew G).at_ hiL
      have hfr := HS.out.2 i hiL
      generalize L.getD i zoZ = z at *
      obtain ⟨zf, zs, zm, zl, zh, fr⟩ := z
      simp only at c0 c1 c2 c3 c4 c5 hri hfr d0 d1 d2 d3 d4 d5 hrj
      have hi0 : (0 : Int) ≤ (i : Int) := by omega
      have hi1 : (i : Int) < (n : Int) := by omega
      have HRI := Lib.hid hri
      have HRJ := Lib.hid hrj
      clear hri hrj
      go_upto_region 6 with fail
      go_cut [6, 7] (SamCut wo (cZ zf zs zm zl zh a' fr.length c') (cZ zf zs zm zl zh b' fr.length d'))
      case first =>
        go_region
        all_goals
          go_wp2
          go_meet
          first
          | exact ⟨_, _, rfl, rfl, ((Own.new wo _ _).alloc _).drew, (Own.new2 wo _ _ _).drew, (((Grew.refl wo).alloc _).alloc _).drew⟩
          | exact ⟨_, _, rfl, rfl, (Own.new2 wo _ _ _).drew, ((Own.new wo _ _).alloc _).drew, (((Grew.refl wo).alloc _).alloc _).drew⟩
      case rest =>
        obtain ⟨b1, b2, rfl, rfl, O1, O2, G1⟩ := hcut
        obtain ⟨wo2, rfl⟩ : ∃ wo2 : World, wo2 = wc := ⟨_, rfl⟩
        have HG := Lib.hid (G.trans G1)
        have HRI2 := Lib.hid (HRI.out.keep (q := p) (w' := wo2) G1.size (fun _ a _ => a) fun g _ hg => Below.block G1 g hg)
        have HRJ2 := Lib.hid (HRJ.out.keep (q := q) (w' := wo2) G1.size (fun _ a _ => a) fun g _ hg => Below.block G1 g hg)
        have HO1 := Lib.hid O1
        have HO2 := Lib.hid O2
        clear HRI HRJ c0 c1 c2 c3 c4 c5 d0 d1 d2 d3 d4 d5 hg hg2 G G1
        obtain ⟨x0, x1, x2, x3, x4, x5⟩ := HO1.out.six
        obtain ⟨y0, y1, y2, y3, y4, y5⟩ := HO2.out.six
        go_wp2_with fail
        clear x0 x1 x2 x3 x4 x5 y0 y1 y2 y3 y4 y5 O1 O2
        obtain ⟨m, hm⟩ : ∃ m, fr.length = m := ⟨_, rfl⟩
        have HM := Lib.hid hm
        rw [hm] at hfr HRI2 HRJ2 HO1 HO2
        go_loopw [8] (fun kv wi => ∃ k : Nat, kv = .int .i64 k ∧ k ≤ m ∧ Grew wo2 wi) (fun kv _ => m - (intOf kv).toNat)
        case atStart => exact ⟨0, rfl, by omega, Grew.refl _⟩
        case round =>
          obtain ⟨k, rfl, hk, G2⟩ := hrel
          obtain ⟨x0, x1, x2, x3, x4, x5⟩ := (HO1.out.grew G2).six
          obtain ⟨y0, y1, y2, y3, y4, y5⟩ := (HO2.out.grew G2).six
          by_cases hkm : k < m
          · have hkL : k < fr.length := by rw [HM.out]; exact hkm
            obtain ⟨gf, of, rfl, -, hgf, r0⟩ := HRI2.out.at_ hkL
            obtain ⟨gh, oh, rfl, -, hgh, s0⟩ := HRJ2.out.at_ hkL
            have r1 := (G2.cells.1 gf _ hgf).trans r0
            have s1 := (G2.cells.1 gh _ hgh).trans s0
            generalize fr.getD k 0 = y at *
            have j0 : (0 : Int) ≤ (k : Int) := by omega
            have j1 : (k : Int) < (m : Int) := by omega
            have HG2 := Lib.hid G2
            clear r0 s0 G2
            go_upto_region 12 with fail
            go_quiet (fail)
            revert nq; intro nq1
            go_wp2
            exact ⟨⟨k + 1, by go_num, by omega, HG2.out.drewN nq1⟩, by simp [intOf] <;> omega⟩
          · obtain rfl : k = m := by omega
            have HG2 := Lib.hid (HG.out.trans G2)
            clear G2
            go_wp2
            exact ⟨⟨i + 1, by go_num, by omega, HG2.out⟩, by simp [intOf] <;> omega⟩
    · obtain rfl : i = n := by omega
      go_wp2
      go_ret
      exact ⟨rfl, G⟩
end Go.Proofs.Ytphccdfdknihdaa
