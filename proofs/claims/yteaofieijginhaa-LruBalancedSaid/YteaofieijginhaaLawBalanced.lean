/- LruBalanced holds: balanced lists have an active list that is not longer than the inactive one, if enough frames were not referenced; otherwise it has the referenced ones only. -/
import Derived.Test.YteaofieijginhaaLp11
import Derived.Test.YteaofieijginhaaLf8
import Derived.Test.YteaofieijginhaaLrM
import Derived.Deep.DeepCutAuto
namespace Go.Proofs.Yteaofieijginhaa
open Go.ChangeShapes Go.WideShapes Go.ChangeAt Go.RowKit Go.Mine

theorem fre_step {r L : List Int} {i : Nat} (h : i < L.length) : freN r (L.take (i + 1)) = freN r (L.take i) + if L.getD i 0 ∈ r then 0 else 1 := by rw [take_one h, freN_snoc]
theorem fre_le (r L : List Int) : freN r L ≤ L.length := List.length_filter_le ..
set_option maxRecDepth 100000 in
set_option maxHeartbeats 4000000 in
theorem balanced_core (A : Option Addr) (c : Nat) (xs : List Int) (w : World) (hr : IntRow w A xs) (hm : xs.length ≤ maxLen) :
    Calls Try.prog 8 #[.slice A xs.length c] w (RetG (.bool true) w) := by
  have tp := Tp.made hr hm c 25
  clear hr
  generalize hX : xs.length = X at *
  clear hX
  go_enter Try.func8, Try.ntmps8
  go_wp2_with fail
  have G0 : w.grownBy (w.alloc (.cells #[.slice A X c, .int .i64 0] 25)) (some w.heap.size) := grown_alloc (grown_refl _ _) _
  generalize World.alloc w _ = w0 at *
  have hsz0 : w.heap.size + 1 ≤ w0.heap.size := tp.lt
  with_reducible refine (lru_x _ _ _ tp hsz0).mono ?_
  rintro e w1 ⟨va, vi, vr, x, rfl, hok, hln, R, T1, g1⟩
  obtain ⟨aa, ca, rfl⟩ := R.a.len
  obtain ⟨ai, ci, rfl⟩ := R.i.len
  obtain ⟨ar, cr, rfl⟩ := R.r.len
  have G1 := (Grew.refl w).past (grown_trans G0 g1) (Nat.le_refl _)
  have kb : Grew w1 (w1.alloc (.cells #[.slice aa x.a.length ca, .slice ai x.i.length ci, .slice ar x.r.length cr] 27)) := (Grew.refl _).alloc _
  have O := Own.new w1 27 #[.slice aa x.a.length ca, .slice ai x.i.length ci, .slice ar x.r.length cr]
  obtain ⟨sb, hsb⟩ : ∃ sb, w1.heap.size = sb := ⟨_, rfl⟩
  rw [hsb] at O
  have R2 := (R.grew kb).wider hsz0
  have hs2 : w.heap.size + 1 ≤ (w1.alloc (.cells #[.slice aa x.a.length ca, .slice ai x.i.length ci, .slice ar x.r.length cr] 27)).heap.size := Nat.le_trans hsz0 (Nat.le_trans g1.size kb.size)
  have G2 := G1.trans kb
  have hsm := hln.sm (show 12 ≤ 1000 by omega)
  have ha := hsm.a
  have HOK := Lib.hid hok
  have HLN := Lib.hid hln
  have HSM := Lib.hid hsm
  have HBAL := Lib.hid (balanced hok)
  clear R tp G0 g1 T1 G1 hok hln hsz0 w0 kb hsm
  have n0 : (0 : Int) ≤ (x.a.length : Int) := by omega
  have n1 : (x.a.length : Int) ≤ 1000 := by omega
  go_wp2_with fail
  try rw [hsb]
  clear hsb
  generalize World.alloc w1 _ = w2 at *
  have HR := Lib.hid R2
  have HO := Lib.hid O
  have HG := Lib.hid G2
  clear R2 O G2
  go_loopw [4, 5] (fun fv iv wr => ∃ i : Nat, fv = .int .i64 (freN x.r (x.a.take i) : Nat) ∧ iv = .int .i64 i ∧ i ≤ x.a.length ∧ Grew w2 wr) (fun _ iv _ => x.a.length - (intOf iv).toNat)
  case atStart => exact ⟨0, rfl, rfl, by omega, Grew.refl _⟩
  case round =>
    obtain ⟨i, rfl, rfl, hi, G⟩ := hrel
    obtain ⟨wo, rfl⟩ : ∃ wo : World, wo = wr := ⟨_, rfl⟩
    have O2 := HO.out.grew G
    obtain ⟨o0, o1, o2, o3, o4, o5⟩ := O2.three
    by_cases hlt : i < x.a.length
    · obtain ⟨g, rfl, hg, x0⟩ := rowI_at HR.out.a hlt
      have x1 : wo.cell? ⟨g, i, none⟩ = some (.int .i64 (x.a.getD i 0)) := (G.cells.1 g _ hg).trans x0
      have hfs := fre_step (r := x.r) hlt
      have hfl := fre_le x.r (x.a.take i)
      rw [List.length_take] at hfl
      obtain ⟨z, hz⟩ : ∃ z, atI x.r (x.a.getD i 0) = z := ⟨_, rfl⟩
      have hzi : 0 ≤ z ↔ x.a.getD i 0 ∈ x.r := by rw [← hz]; exact atI_in
      have HZ := Lib.hid hz
      have HRR := Lib.hid (HR.out.grew G)
      have HRL := Lib.hid (show x.r.length ≤ 100000 by have := HSM.out.r; omega)
      generalize x.a.getD i 0 = y at *
      obtain ⟨fr, hfr⟩ : ∃ fr, freN x.r (x.a.take i) = fr := ⟨_, rfl⟩
      rw [hfr] at hfs hfl ⊢
      have i0 : (0 : Int) ≤ (i : Int) := by omega
      have i1 : (i : Int) < (x.a.length : Int) := by omega
      have f0 : (0 : Int) ≤ (fr : Int) := by omega
      have f1 : (fr : Int) ≤ 1000 := by omega
      have HGG := Lib.hid G
      by_cases hm : z < 0
      · have hfs2 := Lib.hid (hfs.trans (by rw [if_neg (fun h => by have := hzi.2 h; omega)]))
        clear hzi hz x0 G hfs hfl hfr
        go_upto_region 6 with fail
        go_quiet ((go_at_call 30; exact Calls.quiet_of_same (at_qv _ y z _ (RowE.drewN HRR.out.r _) HRL.out HZ.out)))
        revert nq; intro nq1
        go_wp2
        exact ⟨⟨i + 1, by rw [hfs2.out]; go_num, by go_num, by omega, HGG.out.drewN nq1⟩, by simp [intOf]; omega⟩
      · have hfs2 := Lib.hid (hfs.trans (by rw [if_pos (hzi.1 (by omega))]))
        clear hzi hz x0 G hfs hfl hfr
        go_upto_region 6 with fail
        go_quiet ((go_at_call 30; exact Calls.quiet_of_same (at_qv _ y z _ (RowE.drewN HRR.out.r _) HRL.out HZ.out)))
        revert nq; intro nq1
        go_wp2
        exact ⟨⟨i + 1, by rw [hfs2.out]; rfl, by go_num, by omega, HGG.out.drewN nq1⟩, by simp [intOf]; omega⟩
    · have hin : i = x.a.length := by omega
      subst hin
      rw [take_full (Nat.le_refl _)]
      have hfl := fre_le x.r x.a
      have HR3 := Lib.hid (HR.out.grew G)
      have HG3 := Lib.hid (HG.out.trans G)
      have hB : w.heap.size + 1 ≤ wo.heap.size := Nat.le_trans hs2 G.size
      have hl1 : x.a.length + x.i.length ≤ 1000 := Nat.le_trans (show x.a.length + x.i.length ≤ 12 ∧ x.r.length ≤ 12 from HLN.out).1 (by omega)
      have hl2 : x.r.length ≤ 1000 := Nat.le_trans (show x.a.length + x.i.length ≤ 12 ∧ x.r.length ≤ 12 from HLN.out).2 (by omega)
      go_wp2_with fail
      with_reducible refine (pbal_any _ _ _ x _ HR3.out hl1 hl2 (wf_ok HOK.out) hB).mono ?_
      rintro e w5 ⟨ua, ui, ur, rfl, Q, g5⟩
      obtain ⟨ba, da, rfl⟩ := Q.a.len
      obtain ⟨bi, di, rfl⟩ := Q.i.len
      obtain ⟨br, dr, rfl⟩ := Q.r.len
      have kb : Grew w5 (w5.alloc (.cells #[.slice ba (balX x).a.length da, .slice bi (balX x).i.length di, .slice br (balX x).r.length dr] 27)) := (Grew.refl _).alloc _
      have O6 := Own.new w5 27 #[.slice ba (balX x).a.length da, .slice bi (balX x).i.length di, .slice br (balX x).r.length dr]
      have O7 := O2.grew (g5.trans kb)
      have HR6 := Lib.hid (HR3.out.grew (g5.trans kb))
      have HQ6 := Lib.hid (Q.grew kb)
      have HG6 := Lib.hid (HG3.out.trans (g5.trans kb))
      clear Q g5 kb O2 o0 o1 o2 o3 o4 o5 HR3 HG3 HR HO HG G hB hs2
      obtain ⟨o0, o1, o2, o3, o4, o5⟩ := O7.three
      obtain ⟨p0, p1, p2, p3, p4, p5⟩ := O6.three
      have hB := HBAL.out
      obtain ⟨fr, hfr⟩ : ∃ fr, freN x.r x.a = fr := ⟨_, rfl⟩
      rw [hfr] at hfl hB ⊢
      by_cases hle : x.a.length ≤ x.i.length
      · have hle2 : (x.a.length : Int) ≤ (x.i.length : Int) := by omega
        have he := hB.1 hle
        clear hB HBAL hfr
        rw [he] at HQ6 O6 p0 p1 p2 p3 p4 p5 o0 o1 o2 o3 o4 o5 O7 HR6 HG6 ⊢
        clear he
        go_wp2_with fail
        with_reducible refine (same_lru _ _ _ _ _ _ x _ HR6.out HQ6.out HSM.out).mono ?_
        rintro e w7 ⟨rfl, g7⟩
        go_wp2_with fail
        with_reducible refine (awake_any _).mono ?_
        rintro e w8 ⟨rfl, g8⟩
        go_wp2
        go_ret
        exact ⟨rfl, HG6.out.trans (g7.trans g8)⟩
      · have hle2 : ¬(x.a.length : Int) ≤ (x.i.length : Int) := by omega
        have hB2 := hB.2.1 (by omega)
        have hB3 := hB.2.2 (by omega)
        have hln1 := (show x.a.length + x.i.length ≤ 12 ∧ x.r.length ≤ 12 from HLN.out).1
        obtain ⟨ya, hya⟩ : ∃ ya, (balX x).a.length = ya := ⟨_, rfl⟩
        obtain ⟨yi, hyi⟩ : ∃ yi, (balX x).i.length = yi := ⟨_, rfl⟩
        rw [hya, hyi] at hB2
        rw [hya] at hB3
        simp only [hya, hyi] at *
        clear hB HBAL
        obtain ⟨nd, hnd⟩ : ∃ nd, Int.tdiv ((x.a.length : Int) - (x.i.length : Int) + 1) 2 = nd := ⟨_, rfl⟩
        have hnd2 : 2 * nd ≤ (x.a.length : Int) - (x.i.length : Int) + 1 ∧ (x.a.length : Int) - (x.i.length : Int) + 1 < 2 * nd + 2 := by rw [← hnd, Int.tdiv_eq_ediv_of_nonneg (by omega)]; omega
        by_cases hge : nd ≤ (fr : Int)
        · have hc1 : ¬(fr : Int) < nd := by omega
          have hc2 : ¬(yi : Int) < (ya : Int) := by have := hB2 (by omega); omega
          clear hB2 hB3
          go_wp2_with fail
          with_reducible refine (awake_any _).mono ?_
          rintro e w8 ⟨rfl, g8⟩
          go_wp2
          go_ret
          exact ⟨rfl, HG6.out.trans g8⟩
        · have hc1 : (fr : Int) < nd := by omega
          have hc2 : (ya : Int) = (x.a.length : Int) - (fr : Int) := by have := hB3 (by omega); omega
          have hc3 : IntKind.i64.wrap ((x.a.length : Int) - (fr : Int)) = (x.a.length : Int) - (fr : Int) := IntWalk.i64_in _ (by omega)
          have hc4 : ((ya : Int) != (x.a.length : Int) - (fr : Int)) = false := by rw [hc2]; simp
          clear hB2 hB3
          go_wp2_with fail
          with_reducible refine (awake_any _).mono ?_
          rintro e w8 ⟨rfl, g8⟩
          go_wp2
          go_ret
          exact ⟨rfl, HG6.out.trans g8⟩

theorem Try.own : ownKnob Try.prog.godebug = none := by kernel_rfl
theorem Try.laidOut : laidOutB Try.prog = true := by kernel_rfl

theorem lruBalanced_contract (W : World) (base : Nat) (args : Array Value) (H : Type) (enc : TypeId × Value → H) (ds : List (DataW H)) (p : List MemPlace)
    (hval : ∀ (j : Nat) t v, Try.f8.params[j]? = some t → args[j]? = some v → Value.okWide Try.prog W .any base t v)
    (hA : DataW.TrodAll enc Try.prog W 0 (fun _ => true) true Try.f8.params.toList args.toList ds p) :
    (∃ d0, ds = [d0]) ∧ Calls Try.prog 8 args W fun e W' => e = .returned (.bool true) ∧ Below W.heap.size W W' := by
  rw [Try.params8] at hval hA
  obtain ⟨v0, d0, p0, ha, hd, hp, h0⟩ := args_1 hA
  subst ha hd
  obtain ⟨A0, c0, xs0, rfl, hr0, hm0⟩ := open_introw Try.underlying22 Try.underlying3 (by kernel_rfl) (hval 0 _ _ rfl rfl) h0
  exact ⟨⟨_, rfl⟩, (balanced_core A0 c0 xs0 W hr0 hm0).mono fun _ _ h => h⟩

set_option maxRecDepth 100000 in
theorem lruBalanced_lifted (os : Os) (started : os.Started) (H : Type) (enc : TypeId × Value → H) :
    ReturnsInHanded {} Try.checked os 8 .any (Rows.lruBalancedSpec.pre6 enc Try.prog Try.f8 Rows.lruBalancedRow.domain false) (Rows.lruBalancedSpec.post enc Try.prog Try.f8 false true false false) := by
  refine returnsInHanded_of_change (C := Try.checked) Try.own started (by kernel_rfl) Try.func8
    (ChangeSpec.witness6 (enc := enc) (C := Try.checked) false ⟨#[], #[.slice none 0 0], []⟩ 8 (by kernel_rfl) (by kernel_rfl) (by kernel_rfl) (by kernel_rfl)) ?_
  intro W base args ds gs before hval hW _ _
  obtain ⟨p, q, hA, hV, hrest⟩ := id hW
  obtain ⟨⟨d0, rfl⟩, hc⟩ := lruBalanced_contract W base args H enc ds p hval hA
  obtain ⟨rfl, -⟩ := trodVars_none hV
  refine hc.mono fun e W' ⟨he, hb⟩ => ⟨_, he, ?_⟩
  exact law_close (tb := 4) Try.laidOut (by rw [Try.params8]; decide +kernel) Try.underlying4 rfl rfl hW rfl rfl rfl hb

theorem lruBalanced_holds : Rows.LruBalancedSaid :=
  OpenClaim.holds_of_wide 8 Try.f8 rfl rfl rfl rfl rfl rfl rfl ⟨rfl, rfl, rfl, rfl, rfl⟩ rfl rfl rfl rfl rfl (by kernel_rfl) Try.func8 (by kernel_rfl)
    (of_decide_eq_true (by kernel_rfl)) (by unfold Func.isWrapper; first | (rw [if_pos (by decide +kernel)]; kernel_rfl) | (rw [if_neg (by decide +kernel)]; exact ⟨rfl, rfl⟩))
    (fun os started H enc _ => lruBalanced_lifted os started H enc)
end Go.Proofs.Yteaofieijginhaa
