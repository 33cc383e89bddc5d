/- Areas (layer 16): drawn lists. -/
import Derived.Test.YtnlhdbengppnpaaAs1
namespace Go.Proofs.Ytnlhdbengppnpaa
open Go.RowKit Go.Mine

set_option maxRecDepth 100000 in
set_option maxHeartbeats 8000000 in
theorem drawn_x (B b : Nat) (w : World) (ht : Tp B w b) (hbw : B ≤ w.heap.size) : Calls Try.prog 7 #[.pointer (some ⟨b, 0, none⟩)] w (RetDw B b w) := by
  have hb := ht.ltB
  go_enter Try.func7, Try.ntmps7
  go_upto_region 2 with (first
    | (go_at_call 24
       with_reducible refine (areas_x _ _ _ ht hbw).mono ?_
       rintro e w1 ⟨v, L, rfl, hok, R1, T1, g1⟩
       obtain ⟨a, c, rfl, -, -⟩ := R1.slice
       obtain ⟨-, hs, hlies⟩ := R1.lies enc5_len
       have HL2 := Lib.hid hlies
       have hl8 := (okR_iff.1 hok).1
       have HSM := Lib.hid (okR_sm hok)
       have hx6 : ([] : List Ar).length + L.length < 1000000 := by simp; omega
       have hz2 := g1.size
       have HG1 := Lib.hid g1
       clear R1 hlies g1)
    | (at_builtin; go_loud (
       refine wpList_append_src _ rfl _ _ 26 rfl w.heap.size info_ar Try.underlying26 (by decide) (by decide) enc5_len (fun z => enc5_one) (.slice none 0 0) [] rfl (RowE.nil _ _) _ _ _ L rfl rfl HL2.out hx6 (by decide) hz2 ?_
       intro v3 w3 R3 G3 o3
       rw [List.nil_append] at R3
       have HR3 := Lib.hid R3
       have g3 : w1.grownBy w3 none := G3
       have HG3 := Lib.hid (grown_above HG1.out g3 (fun x e => by cases e))
       have T3 : Tp B w3 b := Tp.keptA T1 g3 (B := w.heap.size) (fun x e => by cases e) hbw
       clear o3 R3 G3 g3))
    | fail)
  obtain ⟨a3, c3, rfl⟩ := HR3.out.len
  have hs3 := HG3.out.size
  clear hx6 hz2 hs HL2 hok HG1 T1
  cases L with
  | nil =>
    rw [List.length_nil] at *
    go_wp2
    go_ret
    exact ⟨_, [], rfl, sm_nil, Nat.zero_le _, RowE.rdS enc5_len HR3.out, T3, HG3.out⟩
  | cons x L =>
    obtain ⟨p, hln⟩ : ∃ p, (x :: L).length = p := ⟨_, rfl⟩
    have HLN := Lib.hid hln
    have hp1 : 0 < p := by rw [← hln]; simp
    rw [hln] at hl8 HR3 ⊢
    have hp0 : (0 : Int) < (p : Int) := by omega
    clear hln
    go_wp2_with fail
    with_reducible refine (next_x _ _ _ _ (by omega) (by omega) T3).mono ?_
    rintro e w4 ⟨q, a0, a1, rfl, T4, g4⟩
    have HR4 := Lib.hid (HR3.out.past g4 (by omega))
    have HG4 := Lib.hid (grown_trans HG3.out g4)
    have hs4 := HG4.out.size
    clear T3 g4 HR3 HG3 hs3
    by_cases hq : q = 0
    · subst hq
      have hpi0 : (1 : Int) ≤ (p : Int) := by omega
      have hpi1 : (p : Int) ≤ 1000000 := by omega
      go_wp2_with fail
      with_reducible refine (next_x _ _ _ _ hpi0 hpi1 T4).mono ?_
      rintro e w5 ⟨q5, b0, b1, rfl, T5, g5⟩
      obtain ⟨k, rfl⟩ := Int.eq_ofNat_of_zero_le b0
      go_wp2_with fail
      with_reducible refine (next_x _ _ _ _ (by omega) (by omega) T5).mono ?_
      rintro e w6 ⟨q6, c0, c1, rfl, T6, g6⟩
      have g46 := grown_trans g5 g6
      have HR6 := Lib.hid (HR4.out.past g46 (by omega))
      have HG6 := Lib.hid (grown_trans HG4.out g46)
      have hs6 := HG6.out.size
      clear T4 T5 g5 g6 g46 HR4 HG4 hs4
      have hkl : k < (x :: L).length := by rw [HLN.out]; omega
      have hk0 : (0 : Int) ≤ (k : Int) := by omega
      have hk1 : (k : Int) < (p : Int) := by omega
      rcases (show q6 = 0 ∨ q6 = 1 ∨ q6 = 2 ∨ q6 = 3 by omega) with rfl | rfl | rfl | rfl
      · go_wp2_with fail
        with_reducible refine (odd_x _ _ _ T6 (by omega)).mono ?_
        rintro e w7 ⟨z, rfl, T7, g7⟩
        have HR7 := Lib.hid (HR6.out.past g7 (by omega))
        have HG7 := Lib.hid (grown_trans HG6.out g7)
        rcases HR7.out.shape enc5_len with ⟨e9, -⟩ | ⟨gr, cap, e9, hBg, hg, -, -, -, hfr⟩
        · injection e9 with e8 e9 e10; omega
        · injection e9 with e8 e9 e10
          subst e8
          have f0 := hfr (k * 5)
          have hxe : (x :: L).getD k zR = (x :: L)[k] := rD hkl
          have HPUT := Lib.hid (HR7.out.put5 hkl 0 (by decide) (.int .i64 z) ⟨z, ((x :: L).getD k zR).n, ((x :: L).getD k zR).f, ((x :: L).getD k zR).p, ((x :: L).getD k zR).w⟩ (by rw [← hxe]; rfl))
          have HTP := Lib.hid (T7.set (p := ⟨gr, k * 5, none⟩) (show B ≤ gr by omega) (.int .i64 z))
          have HGP := Lib.hid (grown_set HG7.out (p := ⟨gr, k * 5, none⟩) (.inr hBg) (.int .i64 z))
          obtain ⟨gq, oq, e7, -, -, y0, y1, y2, y3, y4⟩ := (RowE.rdS enc5_len HR7.out).at5 hkl
          injection e7 with e7
          injection e7 with e7 e6
          subst e7 e6
          rw [Nat.zero_add] at y0 y1 y2 y3 y4
          clear g7 T6 T7 hfr HR6 HG6 e9 e10
          go_wp2
          go_ret
          exact ⟨_, (x :: L).set k ⟨z, ((x :: L).getD k zR).n, ((x :: L).getD k zR).f, ((x :: L).getD k zR).p, ((x :: L).getD k zR).w⟩, rfl, (sm_set HSM.out (HSM.out.2 k hkl)), by rw [List.length_set, HLN.out]; exact hl8, RowE.rdS enc5_len HPUT.out, HTP.out, HGP.out⟩
      · go_wp2_with fail
        with_reducible refine (odd_w _ _ _ T6 (by omega)).mono ?_
        rintro e w7 ⟨z, hz9, rfl, T7, g7⟩
        have HR7 := Lib.hid (HR6.out.past g7 (by omega))
        have HG7 := Lib.hid (grown_trans HG6.out g7)
        rcases HR7.out.shape enc5_len with ⟨e9, -⟩ | ⟨gr, cap, e9, hBg, hg, -, -, -, hfr⟩
        · injection e9 with e8 e9 e10; omega
        · injection e9 with e8 e9 e10
          subst e8
          have f0 := hfr (k * 5 + 1)
          have hxe : (x :: L).getD k zR = (x :: L)[k] := rD hkl
          have HPUT := Lib.hid (HR7.out.put5 hkl 1 (by decide) (.int .i64 z) ⟨((x :: L).getD k zR).s, z, ((x :: L).getD k zR).f, ((x :: L).getD k zR).p, ((x :: L).getD k zR).w⟩ (by rw [← hxe]; rfl))
          have HTP := Lib.hid (T7.set (p := ⟨gr, k * 5 + 1, none⟩) (show B ≤ gr by omega) (.int .i64 z))
          have HGP := Lib.hid (grown_set HG7.out (p := ⟨gr, k * 5 + 1, none⟩) (.inr hBg) (.int .i64 z))
          obtain ⟨gq, oq, e7, -, -, y0, y1, y2, y3, y4⟩ := (RowE.rdS enc5_len HR7.out).at5 hkl
          injection e7 with e7
          injection e7 with e7 e6
          subst e7 e6
          rw [Nat.zero_add] at y0 y1 y2 y3 y4
          clear g7 T6 T7 hfr HR6 HG6 e9 e10
          go_wp2
          go_ret
          exact ⟨_, (x :: L).set k ⟨((x :: L).getD k zR).s, z, ((x :: L).getD k zR).f, ((x :: L).getD k zR).p, ((x :: L).getD k zR).w⟩, rfl, (sm_set HSM.out (by have := (wf_le hz9).2; omega)), by rw [List.length_set, HLN.out]; exact hl8, RowE.rdS enc5_len HPUT.out, HTP.out, HGP.out⟩
      · go_wp2_with fail
        with_reducible refine (odd_x _ _ _ T6 (by omega)).mono ?_
        rintro e w7 ⟨z, rfl, T7, g7⟩
        have HR7 := Lib.hid (HR6.out.past g7 (by omega))
        have HG7 := Lib.hid (grown_trans HG6.out g7)
        rcases HR7.out.shape enc5_len with ⟨e9, -⟩ | ⟨gr, cap, e9, hBg, hg, -, -, -, hfr⟩
        · injection e9 with e8 e9 e10; omega
        · injection e9 with e8 e9 e10
          subst e8
          have f0 := hfr (k * 5 + 3)
          have hxe : (x :: L).getD k zR = (x :: L)[k] := rD hkl
          have HPUT := Lib.hid (HR7.out.put5 hkl 3 (by decide) (.int .i64 z) ⟨((x :: L).getD k zR).s, ((x :: L).getD k zR).n, ((x :: L).getD k zR).f, z, ((x :: L).getD k zR).w⟩ (by rw [← hxe]; rfl))
          have HTP := Lib.hid (T7.set (p := ⟨gr, k * 5 + 3, none⟩) (show B ≤ gr by omega) (.int .i64 z))
          have HGP := Lib.hid (grown_set HG7.out (p := ⟨gr, k * 5 + 3, none⟩) (.inr hBg) (.int .i64 z))
          obtain ⟨gq, oq, e7, -, -, y0, y1, y2, y3, y4⟩ := (RowE.rdS enc5_len HR7.out).at5 hkl
          injection e7 with e7
          injection e7 with e7 e6
          subst e7 e6
          rw [Nat.zero_add] at y0 y1 y2 y3 y4
          clear g7 T6 T7 hfr HR6 HG6 e9 e10
          go_wp2
          go_ret
          exact ⟨_, (x :: L).set k ⟨((x :: L).getD k zR).s, ((x :: L).getD k zR).n, ((x :: L).getD k zR).f, z, ((x :: L).getD k zR).w⟩, rfl, (sm_set HSM.out (HSM.out.2 k hkl)), by rw [List.length_set, HLN.out]; exact hl8, RowE.rdS enc5_len HPUT.out, HTP.out, HGP.out⟩
      · go_wp2_with fail
        with_reducible refine (odd_x _ _ _ T6 (by omega)).mono ?_
        rintro e w7 ⟨z, rfl, T7, g7⟩
        have HR7 := Lib.hid (HR6.out.past g7 (by omega))
        have HG7 := Lib.hid (grown_trans HG6.out g7)
        rcases HR7.out.shape enc5_len with ⟨e9, -⟩ | ⟨gr, cap, e9, hBg, hg, -, -, -, hfr⟩
        · injection e9 with e8 e9 e10; omega
        · injection e9 with e8 e9 e10
          subst e8
          have f0 := hfr (k * 5 + 2)
          have hxe : (x :: L).getD k zR = (x :: L)[k] := rD hkl
          have HPUT := Lib.hid (HR7.out.put5 hkl 2 (by decide) (.int .i64 z) ⟨((x :: L).getD k zR).s, ((x :: L).getD k zR).n, z, ((x :: L).getD k zR).p, ((x :: L).getD k zR).w⟩ (by rw [← hxe]; rfl))
          have HTP := Lib.hid (T7.set (p := ⟨gr, k * 5 + 2, none⟩) (show B ≤ gr by omega) (.int .i64 z))
          have HGP := Lib.hid (grown_set HG7.out (p := ⟨gr, k * 5 + 2, none⟩) (.inr hBg) (.int .i64 z))
          obtain ⟨gq, oq, e7, -, -, y0, y1, y2, y3, y4⟩ := (RowE.rdS enc5_len HR7.out).at5 hkl
          injection e7 with e7
          injection e7 with e7 e6
          subst e7 e6
          rw [Nat.zero_add] at y0 y1 y2 y3 y4
          clear g7 T6 T7 hfr HR6 HG6 e9 e10
          go_wp2
          go_ret
          exact ⟨_, (x :: L).set k ⟨((x :: L).getD k zR).s, ((x :: L).getD k zR).n, z, ((x :: L).getD k zR).p, ((x :: L).getD k zR).w⟩, rfl, (sm_set HSM.out (HSM.out.2 k hkl)), by rw [List.length_set, HLN.out]; exact hl8, RowE.rdS enc5_len HPUT.out, HTP.out, HGP.out⟩
    · have hq0 : (q == 0) = false := by simp [hq]
      go_wp2
      go_ret
      exact ⟨_, x :: L, rfl, HSM.out, by rw [HLN.out]; exact hl8, RowE.rdS enc5_len HR4.out, T4, HG4.out⟩
end Go.Proofs.Ytnlhdbengppnpaa
