/- AgingAgain holds: a file that is put at the end again is due later than all others, they keep their order, and removing and adding it does the same. -/
import Derived.Test.YtmdechoajmbhoaaAg7
namespace Go.Mine
open Go Go.RowKit
/-- What stands in the list behind it. -/
theorem out_len {L : List Du} (h : okA L = true) {i : Nat} (hi : i < L.length) (d : Du) : (outA L (L.getD i zD).1 ++ [d]).length = L.length := by
  rw [outA_cut h hi rfl]
  simp
  omega
theorem out_lo {L : List Du} (h : okA L = true) {i : Nat} (hi : i < L.length) (d : Du) {j : Nat} (hj : j < i) : (outA L (L.getD i zD).1 ++ [d]).getD j zD = L.getD j zD := by
  rw [outA_cut h hi rfl, List.append_assoc]
  have h1 : j < (L.take i).length := by rw [List.length_take]; omega
  rw [List.getD_eq_getElem?_getD, List.getElem?_append_left h1, ← List.getD_eq_getElem?_getD, take_getD2 hj]
theorem out_hi {L : List Du} (h : okA L = true) {i : Nat} (hi : i < L.length) (d : Du) {j : Nat} (hj : i ≤ j) (hl : j + 1 < L.length) : (outA L (L.getD i zD).1 ++ [d]).getD j zD = L.getD (j + 1) zD := by
  rw [outA_cut h hi rfl, List.append_assoc]
  have h1 : (L.take i).length = i := by rw [List.length_take]; omega
  rw [List.getD_eq_getElem?_getD, List.getElem?_append_right (by omega), h1, List.getElem?_append_left (by rw [List.length_drop]; omega), ← List.getD_eq_getElem?_getD, drop_getD2]
  congr 1
  omega
theorem out_end {L : List Du} (h : okA L = true) {i : Nat} (hi : i < L.length) (d : Du) : (outA L (L.getD i zD).1 ++ [d]).getD (L.length - 1) zD = d := by
  have h1 := out_len h hi d
  rw [List.length_append, List.length_singleton] at h1
  rw [List.getD_eq_getElem?_getD, List.getElem?_append_right (by omega)]
  rw [show L.length - 1 - (outA L (L.getD i zD).1).length = 0 by omega]
  rfl
theorem out_no {L : List Du} (f : Int) : hasA (outA L f) f = false := by
  refine hasA_iff'.2 fun k hk e => ?_
  rw [dD hk] at e
  have := List.getElem_mem hk
  have := (List.mem_filter.1 this).2
  simp [e] at this
end Go.Mine
namespace Go.Proofs.Ytmdechoajmbhoaa
open Go.ChangeShapes Go.WideShapes Go.ChangeAt Go.RowKit Go.Mine

set_option maxRecDepth 100000 in
set_option maxHeartbeats 16000000 in
theorem again_core (A : Option Addr) (c : Nat) (xs : List Int) (w : World) (hr : IntRow w A xs) (hm : xs.length ≤ maxLen) :
    Calls Try.prog 5 #[.slice A xs.length c] w (RetG (.bool true) w) := by
  have tp := Tp.made hr hm c 25
  have gA := (Grew.refl w).alloc (.cells #[.slice A xs.length c, .int .i64 0] 25)
  have hbw : w.heap.size + 1 ≤ (w.alloc (.cells #[.slice A xs.length c, .int .i64 0] 25)).heap.size := by simp
  have hB0 : w.heap.size < w.heap.size + 1 := Nat.lt_succ_self _
  clear hr hm
  generalize hX : xs.length = X at *
  clear hX
  go_enter Try.func5, Try.ntmps5
  go_wp2_with fail
  with_reducible refine (drawn_x _ _ _ tp hbw).mono ?_
  rintro e w1 ⟨v, L, rfl, hl5, R1, T1, g1⟩
  have HG1 := Lib.hid (gA.past g1 (Nat.le_refl _))
  have HR1 := Lib.hid (R1.wider hbw)
  have hl1 : L.length ≤ 1000 := by omega
  have hl2 : L.length ≤ 500 := by omega
  have hb1 := Nat.le_trans hbw g1.size
  clear gA tp g1 R1 hbw
  obtain ⟨N, hn⟩ : ∃ N, L.length = N := ⟨_, rfl⟩
  cases hok : okA L
  · go_wp2_with fail
    with_reducible refine (check_p HR1.out hl1 hok).mono ?_
    rintro e w2 ⟨rfl, g2⟩
    have HG2 := Lib.hid (HG1.out.trans g2)
    clear g2
    go_wp2_with fail
    with_reducible refine (awake_any _).mono ?_
    rintro e w3 ⟨rfl, g3⟩
    have HG3 := Lib.hid (HG2.out.trans g3)
    go_wp2
    go_ret
    exact ⟨rfl, HG3.out⟩
  · by_cases hN0 : N = 0
    · subst hN0
      obtain ⟨a, cc, rfl, -, -⟩ := HR1.out.slice
      have HC := Lib.hid (check_p HR1.out hl1 hok)
      rw [hn] at HC ⊢
      go_wp2_with fail
      with_reducible refine HC.out.mono ?_
      rintro e w2 ⟨rfl, g2⟩
      have HG2 := Lib.hid (HG1.out.trans g2)
      clear g2
      go_wp2_with fail
      with_reducible refine (awake_any _).mono ?_
      rintro e w3 ⟨rfl, g3⟩
      have HG3 := Lib.hid (HG2.out.trans g3)
      go_wp2
      go_ret
      exact ⟨rfl, HG3.out⟩
    · obtain ⟨n, hNn⟩ : ∃ n, N = n + 1 := ⟨N - 1, by omega⟩
      have HNn := Lib.hid hNn
      have hnN : (n : Int) < (N : Int) := by omega
      have hn0 : (0 : Int) ≤ (n : Int) := by omega
      have hw0 : IntKind.i64.wrap ((N : Int) - 1) = (n : Int) := by rw [IntWalk.i64_in _ (by omega)]; omega
      have hz0 : ((N : Int) == 0) = false := beq_false_of_ne (by omega)
      have HOK := Lib.hid hok
      have HN := Lib.hid hn
      have HC := Lib.hid (check_p HR1.out hl1 hok)
      obtain ⟨a, cc, rfl, -, -⟩ := HR1.out.slice
      rw [hn] at HC HR1 hl1 hl2 hl5 ⊢
      have hpi0 := Lib.hid (show (1 : Int) ≤ (N : Int) by omega)
      have hpi1 := Lib.hid (show (N : Int) ≤ 1000000 by omega)
      clear hok hn hNn hN0
      go_wp2_with fail
      with_reducible refine HC.out.mono ?_
      rintro e w2 ⟨rfl, g2⟩
      have HG2 := Lib.hid (HG1.out.trans g2)
      have HR2 := Lib.hid (HR1.out.grew g2)
      have T2 := T1.grew g2
      have hb2 := Nat.le_trans hb1 g2.size
      clear g2 HC HG1 HR1 T1 hb1
      go_wp2_with fail
      with_reducible refine (next_x _ _ _ _ hpi0.out hpi1.out T2).mono ?_
      rintro e w3 ⟨q3, b0, b1, rfl, T3, g3⟩
      have HG3 := Lib.hid (HG2.out.past g3 (Nat.le_refl _))
      have HR3 := Lib.hid (HR2.out.past g3 hB0)
      have hb3 := Nat.le_trans hb2 g3.size
      obtain ⟨i, rfl⟩ := Int.eq_ofNat_of_zero_le b0
      have hi : i < N := by omega
      clear g3 T2 HG2 HR2 hb2
      have HIL : Hid (i < L.length) := Lib.hid (by rw [HN.out]; exact hi)
      obtain ⟨g, o, rfl, hBg, hg, -, c1⟩ := HR3.out.at2 (k := n) (by have := HN.out; have := HNn.out; omega)
      have hlst := okA_lst HOK.out
      have hlast : lstA L = (L.getD n zD).2 := by rw [lstA_eq (by have := HN.out; have := HNn.out; omega), HN.out, HNn.out, Nat.add_sub_cancel]
      have HLA := Lib.hid hlast
      rw [hlast] at hlst
      rw [show (L.getD n ((0 : Int), (0 : Int))) = L.getD n zD from rfl] at c1
      generalize (L.getD n zD).2 = y at *
      obtain ⟨y0, y1⟩ := hlst
      have HR3D := Lib.hid HR3.out.drew
      have HG3D := Lib.hid HG3.out.drew
      have T3D := T3.drew
      clear hlast hz0
      go_upto_region 6 with fail
      go_region_held3 (fun w' => w'.cell? ⟨g, o + n * 2 + 1, none⟩ = some (.int .i64 y))
        (repeat (first | (with_reducible assumption) | (with_reducible refine far_drew ?_)))
        (first | (go_at_call 7; (with_reducible refine (next_x _ _ _ _ (by omega) (by omega) T3D).mono ?_); rintro e w4 ⟨q, q0, q1, rfl, T4, g4⟩; have HR4 := Lib.hid (HR3D.out.past g4 hB0); have HG4 := Lib.hid (HG3D.out.past g4 (Nat.le_refl _)); have hb4 := Nat.le_trans hb3 g4.size; have z4 : w3.heap.size ≤ w4.heap.size := g4.size; have c4 : w4.cell? ⟨g, o + n * 2 + 1, none⟩ = some (.int .i64 y) := (World.cell?_of_block (a := ⟨g, o + n * 2 + 1, none⟩) (g4.block g hg (by intro e9; injection e9 with e9; omega))).trans c1; clear g4))
      have nt : IntKind.i64.wrap (y + q) = y + q := IntWalk.i64_in _ (by omega)
      obtain ⟨m, hm⟩ : ∃ m, min (y + q) 1000000 = m := ⟨_, rfl⟩
      rw [show (if 1000000 < IntKind.i64.wrap (y + q) then 1000000 else IntKind.i64.wrap (y + q)) = m from by rw [nt, ← hm]; split <;> omega]
      have hm0 : y ≤ m := by omega
      have hm1 : m ≤ 1000000 := by omega
      obtain ⟨f, hf⟩ : ∃ f, (L.getD i zD).1 = f := ⟨_, rfl⟩
      have hfb := okA_at HOK.out HIL.out
      rw [hf] at hfb
      have hhas : hasA L f = true := hasA_iff.2 ⟨i, HIL.out, hf⟩
      have hea : eA L f m = 0 := eA_4 HOK.out (fileB_t hfb.1 hfb.2.1) (tickB_t (by omega) hm1) (by rw [HLA.out]; exact hm0)
      have hef : eF L f = 0 := eF_2 HOK.out (fileB_t hfb.1 hfb.2.1)
      have hout := okA_out HOK.out f
      have hea2 : eA (outA L f) f m = 0 := eA_4 hout.1 (fileB_t hfb.1 hfb.2.1) (tickB_t (by omega) hm1) (by have := hout.2; rw [HLA.out] at this; omega)
      have HAG := Lib.hid (agaX_h hea hhas)
      have HRM := Lib.hid (remX_h hef hhas)
      have HAD := Lib.hid (addX_n hea2 (out_no (L := L) f))
      have hMl := out_len HOK.out HIL.out (f, m)
      have hMlo := fun j => out_lo HOK.out HIL.out (f, m) (j := j)
      have hMhi := fun j => out_hi HOK.out HIL.out (f, m) (j := j)
      have hMe := out_end HOK.out HIL.out (f, m)
      rw [hf] at hMl hMlo hMhi hMe
      rw [HN.out] at hMl hMe
      have hPl : (outA L f).length ≤ 500 := by have := outA_len L f; have := HN.out; omega
      generalize outA L f ++ [(f, m)] = M at *
      generalize outA L f = P at *
      rw [show N - 1 = n by have := HNn.out; omega] at hMe
      have HMl := Lib.hid hMl
      have HMlo := Lib.hid hMlo
      have HMhi := Lib.hid hMhi
      have HMe := Lib.hid hMe
      obtain ⟨g', o', e9, -, -, c0, -⟩ := HR4.out.at2 (k := i) HIL.out
      injection e9 with e9
      injection e9 with e9 e8
      subst e9 e8
      rw [show (L.getD i ((0 : Int), (0 : Int))).1 = f from hf] at c0
      have HF := Lib.hid hf
      have hg4 := Nat.lt_of_lt_of_le hg (show w3.heap.size ≤ w4.heap.size from z4)
      have hi0 : (0 : Int) ≤ (i : Int) := by omega
      clear hm nt hf hfb hhas hea hef hout hea2 hMl hMlo hMhi hMe HR3D HG3D T3D HG3 HR3 T3 y0 y1 q0 q1
      have HC0 := Lib.hid c0
      have HL2 := Lib.hid hl2
      rw [← HN.out] at HL2
      go_wp2_with fail
      with_reducible refine (again_p HR4.out hb4 HL2.out).mono ?_
      rw [HAG.out]
      rintro e w5 ⟨v5, rfl, R5, g5⟩
      have HR5 := Lib.hid (HR4.out.grew g5)
      have HY5 := Lib.hid R5
      have HG5 := Lib.hid (HG4.out.trans g5)
      have hb5 := Nat.le_trans hb4 g5.size
      have hg5 := Nat.lt_of_lt_of_le hg4 g5.size
      have d0 := (g5.cells.1 g _ hg4).trans HC0.out
      clear c0 c4 R5 g5 HG4 HR4 HC0
      have HC0 := Lib.hid d0
      go_wp2_with fail
      with_reducible refine (remove_p HR5.out hb5 HL2.out).mono ?_
      rw [HRM.out]
      rintro e w6 ⟨v6, rfl, R6, g6⟩
      have HR6 := Lib.hid (HR5.out.grew g6)
      have HY6 := Lib.hid (HY5.out.grew g6)
      have HZ6 := Lib.hid R6
      have HG6 := Lib.hid (HG5.out.trans g6)
      have hb6 := Nat.le_trans hb5 g6.size
      have hg6 := Nat.lt_of_lt_of_le hg5 g6.size
      clear d0
      have d0 := (g6.cells.1 g _ hg5).trans HC0.out
      clear R6 g6 HG5 HR5 HY5 HC0
      have HC0 := Lib.hid d0
      go_wp2_with fail
      with_reducible refine (add_p HZ6.out hb6 hPl).mono ?_
      rw [HAD.out]
      rintro e w7 ⟨v7, rfl, R7, g7⟩
      have HR7 := Lib.hid (HR6.out.grew g7)
      have HY7 := Lib.hid (HY6.out.grew g7)
      have HZ7 := Lib.hid R7
      have HG7 := Lib.hid (HG6.out.trans g7)
      have hg7 := Nat.lt_of_lt_of_le hg6 g7.size
      clear d0
      have d0 := (g7.cells.1 g _ hg6).trans HC0.out
      clear R7 g7 HG6 HR6 HY6 HC0 HZ6
      obtain ⟨a5, c5, rfl, -, -⟩ := HY7.out.slice
      obtain ⟨a7, c7, rfl, -, -⟩ := HZ7.out.slice
      simp only [HMl.out] at HY7 HZ7 ⊢
      obtain ⟨p, r, rfl, -, hp, x0, x1⟩ := HY7.out.at2 (k := n) (by have := HMl.out; have := HNn.out; omega)
      rw [show M.getD n ((0 : Int), (0 : Int)) = (f, m) from HMe.out] at x0 x1
      simp only at x0 x1
      go_wp2
      go_quiet (fail)
      revert nq; intro nq1
      clear x0 x1 d0
      go_wp2_with fail
      go_loopw [12, 13] (fun kv jv wr => ∃ k j : Nat, kv = .int .i64 k ∧ jv = .int .i64 j ∧ j ≤ N ∧ (j ≤ i ∧ k = j ∨ i < j ∧ k + 1 = j) ∧ Grew (w7.drewN nq1) wr) (fun _ jv _ => N - (intOf jv).toNat)
      case atStart => exact ⟨0, 0, rfl, rfl, by omega, .inl ⟨by omega, rfl⟩, Grew.refl _⟩
      case round =>
        obtain ⟨k, j, rfl, rfl, hj, hkj, G⟩ := hrel
        obtain ⟨wo, rfl⟩ : ∃ wo : World, wo = wr := ⟨_, rfl⟩
        have HG := Lib.hid ((HG7.out.drewN nq1).trans G)
        by_cases hlt : j < N
        · obtain ⟨p1, r1, e9, -, hp1, x0, x1⟩ := ((HY7.out.drewN nq1).grew G).at2 (k := j) (by rw [HMl.out]; exact hlt)
          injection e9 with e9
          injection e9 with e9 e8
          subst e9 e8
          obtain ⟨p2, r2, rfl, -, hp2, y0, y1⟩ := ((HZ7.out.drewN nq1).grew G).at2 (k := j) (by rw [HMl.out]; exact hlt)
          have hj0 : (0 : Int) ≤ (j : Int) := by omega
          have hj1 : (j : Int) < (N : Int) := by omega
          have hjL : j < L.length := by rw [HN.out]; exact hlt
          obtain ⟨p3, r3, e9, -, hp3, z0, z1⟩ := ((HR7.out.drewN nq1).grew G).at2 (k := j) hjL
          injection e9 with e9
          injection e9 with e9 e8
          subst e9 e8
          have HG2 := Lib.hid G
          rcases hkj with ⟨hji, rfl⟩ | ⟨hij, rfl⟩
          · by_cases hji2 : k = i
            · have t1 : ((k : Int) != (i : Int)) = false := by simp; omega
              have HI := Lib.hid hji2
              generalize M.getD k ((0 : Int), (0 : Int)) = d at *
              obtain ⟨df, ds⟩ := d
              simp only at x0 x1 y0 y1
              clear z0 z1 G hji hji2
              go_wp2
              go_quiet (fail)
              revert nq; intro nq2
              go_wp2
              exact ⟨⟨k, k + 1, rfl, by go_num, by omega, .inr ⟨by have := HI.out; omega, rfl⟩, HG2.out.drewN _⟩, by simp [intOf] <;> omega⟩
            · have t1 : ((k : Int) != (i : Int)) = true := by simp; omega
              have hki : k < i := by omega
              rw [show L.getD k ((0 : Int), (0 : Int)) = M.getD k ((0 : Int), (0 : Int)) from (HMlo.out k hki).symm] at z0 z1
              have HI := Lib.hid hki
              generalize M.getD k ((0 : Int), (0 : Int)) = d at *
              obtain ⟨df, ds⟩ := d
              simp only at x0 x1 y0 y1 z0 z1
              clear G hji hji2 hki
              go_wp2
              go_quiet (fail)
              revert nq; intro nq2
              go_wp2
              go_quiet (fail)
              revert nq; intro nq3
              go_wp2
              exact ⟨⟨k + 1, k + 1, by go_num, by go_num, by omega, .inl ⟨by have := HI.out; omega, rfl⟩, HG2.out.drewN _⟩, by simp [intOf] <;> omega⟩
          · obtain ⟨J, hJ⟩ : ∃ J, k + 1 = J := ⟨_, rfl⟩
            obtain ⟨p4, r4, e9, -, hp4, u0, u1⟩ := ((HY7.out.drewN nq1).grew G).at2 (k := k) (by rw [HMl.out]; omega)
            injection e9 with e9
            injection e9 with e9 e8
            subst e9 e8
            rw [show L.getD (k + 1) ((0 : Int), (0 : Int)) = M.getD k ((0 : Int), (0 : Int)) from (HMhi.out k (by omega) (by rw [HN.out]; exact hlt)).symm] at z0 z1
            have hk0 : (0 : Int) ≤ (k : Int) := by omega
            have hk1 : (k : Int) < (N : Int) := by omega
            have HI := Lib.hid hij
            have HJ := Lib.hid hJ
            rw [hJ] at x0 x1 y0 y1 z0 z1 hj hlt hj0 hj1 hij ⊢
            have t1 : ((J : Int) != (i : Int)) = true := by simp; omega
            generalize M.getD k ((0 : Int), (0 : Int)) = d at *
            obtain ⟨df, ds⟩ := d
            generalize M.getD J ((0 : Int), (0 : Int)) = d2 at *
            obtain ⟨df2, ds2⟩ := d2
            simp only at x0 x1 y0 y1 z0 z1 u0 u1
            clear G hij hJ hjL
            go_wp2
            go_quiet (fail)
            revert nq; intro nq2
            go_wp2
            go_quiet (fail)
            revert nq; intro nq3
            go_wp2
            exact ⟨⟨k + 1, J + 1, by go_num, by go_num, by omega, .inr ⟨by have := HI.out; have := HJ.out; omega, by have := HJ.out; omega⟩, HG2.out.drewN _⟩, by simp [intOf] <;> omega⟩
        · obtain rfl : j = N := by omega
          go_wp2_with fail
          with_reducible refine (awake_any _).mono ?_
          rintro e w9 ⟨rfl, g9⟩
          have HG9 := Lib.hid (HG.out.trans g9)
          go_wp2
          go_ret
          exact ⟨rfl, HG9.out⟩

theorem Try.own : ownKnob Try.prog.godebug = none := by kernel_rfl
theorem Try.laidOut : laidOutB Try.prog = true := by kernel_rfl

theorem agingAgain_contract (W : World) (base : Nat) (args : Array Value) (H : Type) (enc : TypeId × Value → H) (ds : List (DataW H)) (p : List MemPlace)
    (hval : ∀ (j : Nat) t v, Try.f5.params[j]? = some t → args[j]? = some v → Value.okWide Try.prog W .any base t v)
    (hA : DataW.TrodAll enc Try.prog W 0 (fun _ => true) true Try.f5.params.toList args.toList ds p) :
    (∃ d0, ds = [d0]) ∧ Calls Try.prog 5 args W fun e W' => e = .returned (.bool true) ∧ Below W.heap.size W W' := by
  rw [Try.params5] at hval hA
  obtain ⟨v0, d0, p0, ha, hd, hp, h0⟩ := args_1 hA
  subst ha hd
  obtain ⟨A0, c0, xs0, rfl, hr0, hm0⟩ := open_introw Try.underlying22 Try.underlying3 (by kernel_rfl) (hval 0 _ _ rfl rfl) h0
  exact ⟨⟨_, rfl⟩, (again_core A0 c0 xs0 W hr0 hm0).mono fun _ _ h => h⟩

set_option maxRecDepth 100000 in
theorem agingAgain_lifted (os : Os) (started : os.Started) (H : Type) (enc : TypeId × Value → H) :
    ReturnsInHanded {} Try.checked os 5 .any (Rows.agingAgainSpec.pre6 enc Try.prog Try.f5 Rows.agingAgainRow.domain false) (Rows.agingAgainSpec.post enc Try.prog Try.f5 false true false false) := by
  refine returnsInHanded_of_change (C := Try.checked) Try.own started (by kernel_rfl) Try.func5
    (ChangeSpec.witness6 (enc := enc) (C := Try.checked) false ⟨#[], #[.slice none 0 0], []⟩ 8 (by kernel_rfl) (by kernel_rfl) (by kernel_rfl) (by kernel_rfl)) ?_
  intro W base args ds gs before hval hW _ _
  obtain ⟨p, q, hA, hV, hrest⟩ := id hW
  obtain ⟨⟨d0, rfl⟩, hc⟩ := agingAgain_contract W base args H enc ds p hval hA
  obtain ⟨rfl, -⟩ := trodVars_none hV
  refine hc.mono fun e W' ⟨he, hb⟩ => ⟨_, he, ?_⟩
  exact law_close (tb := 4) Try.laidOut (by rw [Try.params5]; decide +kernel) Try.underlying4 rfl rfl hW rfl rfl rfl hb

theorem agingAgain_holds : Rows.AgingAgainSaid :=
  OpenClaim.holds_of_wide 5 Try.f5 rfl rfl rfl rfl rfl rfl rfl ⟨rfl, rfl, rfl, rfl, rfl⟩ rfl rfl rfl rfl rfl (by kernel_rfl) Try.func5 (by kernel_rfl)
    (of_decide_eq_true (by kernel_rfl)) (by unfold Func.isWrapper; first | (rw [if_pos (by decide +kernel)]; kernel_rfl) | (rw [if_neg (by decide +kernel)]; exact ⟨rfl, rfl⟩))
    (fun os started H enc _ => agingAgain_lifted os started H enc)
end Go.Proofs.Ytmdechoajmbhoaa
