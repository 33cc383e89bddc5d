/- AreaShown holds: the pages that show a page of a file are just those whose area says so, in ascending order. -/
import Derived.Test.YtnlhdbengppnpaaAs1
namespace Go.Mine
open Go Go.RowKit
theorem RdS.at1 {w : World} {B : Nat} {L : List Int} {a : Option Addr} {n c : Nat} (h : RdS 1 enc1 w B (.slice a n c) L) {k : Nat} (hk : k < L.length) : ∃ g o, a = some ⟨g, o, none⟩ ∧ B ≤ g ∧ g < w.heap.size ∧ w.cell? ⟨g, o + k, none⟩ = some (.int .i64 (L.getD k 0)) := by
  obtain ⟨g, o, e, hB, hg, hc⟩ := h.at_ hk
  refine ⟨g, o, e, hB, hg, ?_⟩
  have := hc 0 (by omega)
  rw [getD_get hk]
  rw [Nat.mul_one, Nat.add_zero] at this
  exact this
theorem shI_step (L : List Ar) (f p : Int) (j : Nat) : ∃ t, shI L f p ((j + 1 : Nat) : Int) = shI L f p (j : Int) ++ t := by
  cases hf : fndR L (j : Int) with
  | none => exact ⟨[], by rw [List.append_nil]; exact shI_none hf⟩
  | some d =>
    by_cases h : d.f = f ∧ d.p + (j : Int) - d.s = p
    · exact ⟨[(j : Int)], shI_some hf h.1 h.2⟩
    · exact ⟨[], by rw [List.append_nil]; exact shI_other hf h⟩
theorem shI_pre (L : List Ar) (f p : Int) : ∀ (k i : Nat), ∃ t, shI L f p ((i + k : Nat) : Int) = shI L f p (i : Int) ++ t
  | 0, i => ⟨[], by rw [List.append_nil]; rfl⟩
  | k + 1, i => by
    obtain ⟨t, ht⟩ := shI_pre L f p k i
    obtain ⟨u, hu⟩ := shI_step L f p (i + k)
    exact ⟨t ++ u, by rw [show i + (k + 1) = i + k + 1 by omega, hu, ht, List.append_assoc]⟩
theorem shI_here {L : List Ar} {f p : Int} {i : Nat} {d : Ar} (hi : i < 64) (hf : fndR L (i : Int) = some d) (h1 : d.f = f) (h2 : d.p + (i : Int) - d.s = p) :
    (shI L f p (i : Int)).length < (shwR L f p).length ∧ (shwR L f p).getD (shI L f p (i : Int)).length 0 = (i : Int) := by
  obtain ⟨t, ht⟩ := shI_pre L f p (64 - (i + 1)) (i + 1)
  rw [show i + 1 + (64 - (i + 1)) = 64 by omega] at ht
  have he : shI L f p ((64 : Nat) : Int) = shwR L f p := shI_end L f p
  have hs : shI L f p ((i + 1 : Nat) : Int) = shI L f p (i : Int) ++ [(i : Int)] := shI_some hf h1 h2
  rw [← he, ht, hs]
  generalize shI L f p (i : Int) = M
  refine ⟨by simp, ?_⟩
  simp
end Go.Mine
namespace Go.Proofs.Ytnlhdbengppnpaa
open Go.ChangeShapes Go.WideShapes Go.ChangeAt Go.RowKit Go.Mine

set_option maxRecDepth 100000 in
set_option maxHeartbeats 16000000 in
theorem shown_core (A : Option Addr) (c : Nat) (xs : List Int) (n1 n2 : Int) (w : World) (hr : IntRow w A xs) (hm : xs.length ≤ maxLen) (hw1 : (Lit.int .i64 n1).wf = true) (hw2 : (Lit.int .i64 n2).wf = true) :
    Calls Try.prog 5 #[.slice A xs.length c, .int .i64 n1, .int .i64 n2] w (RetG (.bool true) w) := by
  have tp := Tp.made hr hm c 25
  have gA := (Grew.refl w).alloc (.cells #[.slice A xs.length c, .int .i64 0] 25)
  have hbw : w.heap.size + 1 ≤ (w.alloc (.cells #[.slice A xs.length c, .int .i64 0] 25)).heap.size := by simp
  clear hr hm hw1 hw2
  generalize hX : xs.length = X at *
  clear hX
  go_enter Try.func5, Try.ntmps5
  go_wp2_with fail
  with_reducible refine (areas_x _ _ _ tp hbw).mono ?_
  rintro e w1 ⟨v, L, rfl, hok, R1, T1, g1⟩
  have HG1 := Lib.hid (gA.past g1 (Nat.le_refl _))
  have HR1 := Lib.hid R1
  have HOK := Lib.hid hok
  have HS := Lib.hid (okR_sm hok)
  clear gA tp g1 R1 T1 hbw hok
  go_wp2_with fail
  with_reducible refine (cut_any n1 4 _ (by omega) (by omega)).mono ?_
  rintro e w2 ⟨rfl, rfl⟩
  go_wp2_with fail
  with_reducible refine (cut_any n2 8 _ (by omega) (by omega)).mono ?_
  rintro e w2 ⟨rfl, rfl⟩
  generalize cut n1 4 = f
  generalize cut n2 8 = p
  go_wp2_with fail
  with_reducible refine (shown_p HR1.out HS.out).mono ?_
  rintro e w2 ⟨vp, rfl, R2, g2⟩
  have HR2 := Lib.hid (HR1.out.grew g2)
  have HP2 := Lib.hid R2
  have HG2 := Lib.hid (HG1.out.trans g2)
  clear R2 g2 HR1 HG1
  obtain ⟨ap, cp, rfl, -, -⟩ := HP2.out.slice
  have hPl : (shwR L f p).length ≤ 8 := by have := shwR_len L f p; have := (okR_iff.1 HOK.out).1; omega
  obtain ⟨N, hN⟩ : ∃ N, (shwR L f p).length = N := ⟨_, rfl⟩
  have HN := Lib.hid hN
  rw [hN] at HP2 hPl ⊢
  clear hN
  go_wp2_with fail
  go_loopw [11, 12] (fun kv iv wr => ∃ (i k : Nat), kv = .int .i64 k ∧ iv = .int .i64 i ∧ i ≤ 64 ∧ Hid (k = (shI L f p (i : Int)).length) ∧ k ≤ 64 ∧ Grew w2 wr) (fun _ iv _ => 64 - (intOf iv).toNat)
  case atStart => exact ⟨0, 0, rfl, rfl, by omega, Lib.hid (by rw [show ((0 : Nat) : Int) = 0 from rfl, shI_0]; rfl), by omega, Grew.refl _⟩
  case round =>
    obtain ⟨i, k, rfl, rfl, hi, HK, hk64, G⟩ := hrel
    obtain ⟨wo, rfl⟩ : ∃ wo : World, wo = wr := ⟨_, rfl⟩
    have HG := Lib.hid G
    have HR := Lib.hid (HR2.out.grew G)
    have HP := Lib.hid (HP2.out.grew G)
    clear G
    by_cases hlt : i < 64
    · have hil : (i : Int) < 64 := by omega
      cases hf : fndR L (i : Int) with
      | none =>
        have hy : swX L (i : Int) = (0, 0 + (i : Int) - 0, false, false) := by unfold swX; rw [fdX_n hf]
        have HY := Lib.hid hy
        have HK2 : Hid (k = (shI L f p ((i + 1 : Nat) : Int)).length) := Lib.hid (by rw [HK.out]; exact congrArg List.length (shI_none hf).symm)
        clear hy hf HK
        go_wp2_with fail
        with_reducible refine (shows_p HR.out HS.out (by omega) (by omega) HY.out).mono ?_
        rintro e w3 ⟨rfl, g3⟩
        have HG3 := Lib.hid (HG.out.trans g3)
        clear g3
        go_wp2
        exact ⟨⟨i + 1, k, by go_num, by go_num, by omega, HK2, hk64, HG3.out⟩, by simp [intOf] <;> omega⟩
      | some d =>
        have hy : swX L (i : Int) = (d.f, d.p + (i : Int) - d.s, d.w, true) := by unfold swX; rw [fdX_s hf]
        have HY := Lib.hid hy
        obtain ⟨df, hdf⟩ : ∃ z, d.f = z := ⟨_, rfl⟩
        obtain ⟨dp, hdp⟩ : ∃ z, d.p + (i : Int) - d.s = z := ⟨_, rfl⟩
        rw [hdf, hdp] at HY
        by_cases q1 : df = f
        · have e1 : (df == f) = true := by simp [q1]
          by_cases q2 : dp = p
          · have e2 : (dp == p) = true := by simp [q2]
            obtain ⟨hh1, hh2⟩ := shI_here hlt hf (hdf.trans q1) (hdp.trans q2)
            have HK2 : Hid (k + 1 = (shI L f p ((i + 1 : Nat) : Int)).length) := Lib.hid (by
              have hs : shI L f p ((i + 1 : Nat) : Int) = shI L f p (i : Int) ++ [(i : Int)] := shI_some hf (hdf.trans q1) (hdp.trans q2)
              rw [hs, List.length_append, ← HK.out]; rfl)
            rw [← HK.out] at hh1 hh2
            obtain ⟨g, o, e9, -, hg, x0⟩ := HP.out.at1 hh1
            rw [hh2] at x0
            rw [HN.out] at hh1
            have HX0 := Lib.hid x0
            subst e9
            have hk0 : (0 : Int) ≤ (k : Int) := by omega
            have hk1 : (k : Int) < (N : Int) := by omega
            have e3 : decide ((N : Int) ≤ (k : Int)) = false := decide_eq_false (by omega)
            clear hy hf HK q1 q2 hh1 hh2 x0 hdf hdp
            go_wp2_with fail
            with_reducible refine (shows_p HR.out HS.out (by omega) (by omega) HY.out).mono ?_
            rintro e w3 ⟨rfl, g3⟩
            have HG3 := Lib.hid (HG.out.trans g3)
            have y0 := (g3.cells.1 g _ hg).trans HX0.out
            have hg3 := Nat.lt_of_lt_of_le hg g3.size
            clear g3
            go_wp2
            exact ⟨⟨i + 1, k + 1, by go_num, by go_num, by omega, HK2, by omega, HG3.out⟩, by simp [intOf] <;> omega⟩
          · have e2 : (dp == p) = false := by simp [q2]
            have HK2 : Hid (k = (shI L f p ((i + 1 : Nat) : Int)).length) := Lib.hid (by rw [HK.out]; exact congrArg List.length (shI_other hf (fun h => q2 (hdp.symm.trans h.2))).symm)
            clear hy hf HK q1 q2 hdf hdp
            go_wp2_with fail
            with_reducible refine (shows_p HR.out HS.out (by omega) (by omega) HY.out).mono ?_
            rintro e w3 ⟨rfl, g3⟩
            have HG3 := Lib.hid (HG.out.trans g3)
            clear g3
            go_wp2
            exact ⟨⟨i + 1, k, by go_num, by go_num, by omega, HK2, hk64, HG3.out⟩, by simp [intOf] <;> omega⟩
        · have e1 : (df == f) = false := by simp [q1]
          have HK2 : Hid (k = (shI L f p ((i + 1 : Nat) : Int)).length) := Lib.hid (by rw [HK.out]; exact congrArg List.length (shI_other hf (fun h => q1 (hdf.symm.trans h.1))).symm)
          clear hy hf HK q1 hdf hdp
          go_wp2_with fail
          with_reducible refine (shows_p HR.out HS.out (by omega) (by omega) HY.out).mono ?_
          rintro e w3 ⟨rfl, g3⟩
          have HG3 := Lib.hid (HG.out.trans g3)
          clear g3
          go_wp2
          exact ⟨⟨i + 1, k, by go_num, by go_num, by omega, HK2, hk64, HG3.out⟩, by simp [intOf] <;> omega⟩
    · obtain rfl : i = 64 := by omega
      have hkN : k = N := by rw [HK.out, ← HN.out]; exact congrArg List.length (shI_end L f p)
      subst hkN
      rw [show ((64 : Nat) : Int) = 64 from rfl]
      clear HK
      go_wp2_with fail
      with_reducible refine (awake_any _).mono ?_
      rintro e w3 ⟨rfl, g3⟩
      have HG3 := Lib.hid (HG2.out.trans (HG.out.trans g3))
      go_wp2
      go_ret
      exact ⟨rfl, HG3.out⟩

theorem Try.own : ownKnob Try.prog.godebug = none := by kernel_rfl
theorem Try.laidOut : laidOutB Try.prog = true := by kernel_rfl

theorem areaShown_contract (W : World) (base : Nat) (args : Array Value) (H : Type) (enc : TypeId × Value → H) (ds : List (DataW H)) (p : List MemPlace)
    (hval : ∀ (j : Nat) t v, Try.f5.params[j]? = some t → args[j]? = some v → Value.okWide Try.prog W .any base t v)
    (hA : DataW.TrodAll enc Try.prog W 0 (fun _ => true) true Try.f5.params.toList args.toList ds p) :
    (∃ d0 d1 d2, ds = [d0, d1, d2]) ∧ Calls Try.prog 5 args W fun e W' => e = .returned (.bool true) ∧ Below W.heap.size W W' := by
  rw [Try.params5] at hval hA
  obtain ⟨v0, v1, v2, d0, d1, d2, p0, p1, p2, ha, hd, hp, h0, h1, h2⟩ := args_3 hA
  subst ha hd
  obtain ⟨A0, c0, xs0, rfl, hr0, hm0⟩ := open_introw Try.underlying22 Try.underlying3 (by kernel_rfl) (hval 0 _ _ rfl rfl) h0
  obtain ⟨n1, rfl, -, -, hw1⟩ := open_int Try.underlying3 (hval 1 _ _ rfl rfl) h1
  obtain ⟨n2, rfl, -, -, hw2⟩ := open_int Try.underlying3 (hval 2 _ _ rfl rfl) h2
  exact ⟨⟨_, _, _, rfl⟩, (shown_core A0 c0 xs0 n1 n2 W hr0 hm0 hw1 hw2).mono fun _ _ h => h⟩

set_option maxRecDepth 100000 in
theorem areaShown_lifted (os : Os) (started : os.Started) (H : Type) (enc : TypeId × Value → H) :
    ReturnsInHanded {} Try.checked os 5 .any (Rows.areaShownSpec.pre6 enc Try.prog Try.f5 Rows.areaShownRow.domain false) (Rows.areaShownSpec.post enc Try.prog Try.f5 false true false false) := by
  refine returnsInHanded_of_change (C := Try.checked) Try.own started (by kernel_rfl) Try.func5
    (ChangeSpec.witness6 (enc := enc) (C := Try.checked) false ⟨#[], #[.slice none 0 0, .int .i64 0, .int .i64 0], []⟩ 8 (by kernel_rfl) (by kernel_rfl) (by kernel_rfl) (by kernel_rfl)) ?_
  intro W base args ds gs before hval hW _ _
  obtain ⟨p, q, hA, hV, hrest⟩ := id hW
  obtain ⟨⟨d0, d1, d2, rfl⟩, hc⟩ := areaShown_contract W base args H enc ds p hval hA
  obtain ⟨rfl, -⟩ := trodVars_none hV
  refine hc.mono fun e W' ⟨he, hb⟩ => ⟨_, he, ?_⟩
  exact law_close (tb := 4) Try.laidOut (by rw [Try.params5]; decide +kernel) Try.underlying4 rfl rfl hW rfl rfl rfl hb

theorem areaShown_holds : Rows.AreaShownSaid :=
  OpenClaim.holds_of_wide 5 Try.f5 rfl rfl rfl rfl rfl rfl rfl ⟨rfl, rfl, rfl, rfl, rfl⟩ rfl rfl rfl rfl rfl (by kernel_rfl) Try.func5 (by kernel_rfl)
    (of_decide_eq_true (by kernel_rfl)) (by unfold Func.isWrapper; first | (rw [if_pos (by decide +kernel)]; kernel_rfl) | (rw [if_neg (by decide +kernel)]; exact ⟨rfl, rfl⟩))
    (fun os started H enc _ => areaShown_lifted os started H enc)
end Go.Proofs.Ytnlhdbengppnpaa
