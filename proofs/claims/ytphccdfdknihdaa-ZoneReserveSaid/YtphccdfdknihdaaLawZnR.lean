/- ZoneReserve holds: without urgency each zone keeps the frames of its lowest watermark. -/
import Derived.Test.YtphccdfdknihdaaZl0
import Derived.StillTailTactics
namespace Go.Mine
open Go Go.RowKit
/-- Zones of s and t frames from which n were taken calmly. -/
def ResI (s t : Int) (L : List Zo) (n : Int) : Prop := okB L = true ∧ SpZ L ∧ abvZ L + n = (s - s / 8) + (t - t / 8) ∧ ∃ a b fa fb, L = [⟨a, s, s / 8, s / 4, s / 2, fa⟩, ⟨b, t, t / 8, t / 4, t / 2, fb⟩]
theorem new2_is {s t : Int} (h1 : 1 ≤ s) (h2 : 1 ≤ t) (h3 : s + t ≤ 64) : newX [s, t] = ([mkZ 1 s, mkZ (1 + s) t], 0) := by
  have e : newG 1 [s, t] = some [mkZ 1 s, mkZ (1 + s) t] := by
    unfold newG newG newG
    rw [if_pos ⟨h1, by omega⟩, if_pos ⟨h2, by omega⟩]
    rfl
  unfold newX
  rw [e]
theorem ok_new2 {s t : Int} (h1 : 1 ≤ s) (h2 : 1 ≤ t) (h3 : s + t ≤ 64) : okB [mkZ 1 s, mkZ (1 + s) t] = true := by
  rcases newX_cases [s, t] with ⟨h, -⟩ | ⟨h, -⟩
  · rw [new2_is h1 h2 h3] at h; cases h
  · rw [new2_is h1 h2 h3] at h; exact h
theorem ResI.start {s t : Int} (h1 : 1 ≤ s) (h2 : 1 ≤ t) (h3 : s + t ≤ 64) : ResI s t [mkZ 1 s, mkZ (1 + s) t] 0 := by
  have l1 : ((frmI 1 s.toNat).length : Int) = s := by rw [frmI_len]; omega
  have l2 : ((frmI (1 + s) t.toNat).length : Int) = t := by rw [frmI_len]; omega
  refine ⟨ok_new2 h1 h2 h3, fun z hz => ?_, ?_, 1, 1 + s, _, _, rfl⟩
  · rcases List.mem_cons.1 hz with rfl | hz
    · show s / 8 ≤ ((frmI 1 s.toNat).length : Int); omega
    · rcases List.mem_cons.1 hz with rfl | hz
      · show t / 8 ≤ ((frmI (1 + s) t.toNat).length : Int); omega
      · exact absurd hz (by simp)
  · show ((frmI 1 s.toNat).length : Int) - s / 8 + (((frmI (1 + s) t.toNat).length : Int) - t / 8 + 0) + 0 = _
    omega
theorem abv_pos : ∀ {L : List Zo}, SpZ L → 0 ≤ abvZ L
  | [], _ => Int.le_refl _
  | z :: L, h => by
    have h1 := h z List.mem_cons_self
    have h2 := abv_pos (L := L) fun y hy => h y (List.mem_cons_of_mem _ hy)
    show 0 ≤ (z.fr.length : Int) - z.mn + abvZ L
    omega
theorem has_calm {z : Zo} (h : hasZ false z = true) : z.mn < (z.fr.length : Int) := by
  unfold hasZ at h
  simpa using h
theorem ResI.take {s t : Int} {L : List Zo} {n : Int} (h : ResI s t L n) {i : Nat} (hf : fromZ false L 2 = some i) : ResI s t (setF L i ((frI L i).drop 1)) (n + 1) := by
  obtain ⟨h1, h2, h3, a, b, fa, fb, rfl⟩ := h
  obtain ⟨hi2, z, hz, hh, -⟩ := fromZ_some hf
  have hm := has_calm hh
  have hgz : ([⟨a, s, s / 8, s / 4, s / 2, fa⟩, ⟨b, t, t / 8, t / 4, t / 2, fb⟩] : List Zo).getD i zoZ = z := by rw [List.getD, hz]; rfl
  obtain ⟨nx, b1, b2⟩ := ok_at h1 (fromZ_lt hf)
  rw [hgz] at b2
  have h0 : 0 ≤ z.mn := b2.2.2.2.1
  obtain ⟨x, r, hr⟩ : ∃ x r, z.fr = x :: r := by
    cases hzf : z.fr with
    | nil => rw [hzf] at hm; simp at hm; omega
    | cons x r => exact ⟨x, r, rfl⟩
  have hok : okB (setF [⟨a, s, s / 8, s / 4, s / 2, fa⟩, ⟨b, t, t / 8, t / 4, t / 2, fb⟩] i ((frI [⟨a, s, s / 8, s / 4, s / 2, fa⟩, ⟨b, t, t / 8, t / 4, t / 2, fb⟩] i).drop 1)) = true := by
    have := ok_take (u := false) (p := 1) h1
    rwa [takX_0 h1 (by simp) hf] at this
  have hs : setF [⟨a, s, s / 8, s / 4, s / 2, fa⟩, ⟨b, t, t / 8, t / 4, t / 2, fb⟩] i ((frI [⟨a, s, s / 8, s / 4, s / 2, fa⟩, ⟨b, t, t / 8, t / 4, t / 2, fb⟩] i).drop 1) = ([⟨a, s, s / 8, s / 4, s / 2, fa⟩, ⟨b, t, t / 8, t / 4, t / 2, fb⟩] : List Zo).set i { z with fr := r } := by
    unfold setF frI
    rw [hgz, hr]
    rfl
  rw [hs] at hok ⊢
  refine ⟨hok, h2.drop hr hm, ?_, ?_⟩
  · rw [abv_drop hz hr]; omega
  · rcases (show i = 0 ∨ i = 1 by omega) with rfl | rfl
    · have : z = ⟨a, s, s / 8, s / 4, s / 2, fa⟩ := by simpa using hz.symm
      subst this
      exact ⟨a, b, r, fb, rfl⟩
    · have : z = ⟨b, t, t / 8, t / 4, t / 2, fb⟩ := by simpa using hz.symm
      subst this
      exact ⟨a, b, fa, r, rfl⟩
theorem ResI.last {s t : Int} {L : List Zo} {n : Int} (h : ResI s t L n) (hf : fromZ false L 2 = none) : n = (s - s / 8) + (t - t / 8) ∧ ∀ z ∈ L, (z.fr.length : Int) = z.mn := by
  obtain ⟨h1, h2, h3, a, b, fa, fb, rfl⟩ := h
  obtain ⟨h4, h5⟩ := calm_none h2 (Nat.le_refl _) hf
  exact ⟨by omega, h4⟩
end Go.Mine
namespace Go.Proofs.Ytphccdfdknihdaa
open Go.ChangeShapes Go.WideShapes Go.ChangeAt Go.RowKit Go.Mine

set_option maxRecDepth 100000 in
set_option maxHeartbeats 8000000 in
theorem zres_core (A : Option Addr) (c : Nat) (xs : List Int) (w : World) (hr : IntRow w A xs) (hm : xs.length ≤ maxLen) :
    Calls Try.prog 6 #[.slice A xs.length c] w (RetG (.bool true) w) := by
  have tp := Tp.made hr hm c 25
  have gA := (Grew.refl w).alloc (.cells #[.slice A xs.length c, .int .i64 0] 25)
  clear hr hm
  generalize hX : xs.length = X at *
  clear hX
  go_enter Try.func6, Try.ntmps6
  go_wp2_with fail
  with_reducible refine (next_x _ _ _ _ (by omega) (by omega) tp).mono ?_
  rintro e w1 ⟨s, s0, s1, rfl, tp1, g1⟩
  have gA1 := gA.past g1 (Nat.le_refl _)
  clear tp gA g1
  go_wp2_with fail
  with_reducible refine (next_x _ _ _ _ (by omega) (by omega) tp1).mono ?_
  rintro e w2 ⟨t, t0, t1, rfl, tp2, g2⟩
  have gA2 := gA1.past g2 (Nat.le_refl _)
  clear tp1 gA1 g2 tp2
  have R0 : RowE 3 1 enc1 (w2.alloc (.cells #[.int .i64 (8 + s), .int .i64 (8 + t)] 3)) w2.heap.size (.slice (some ⟨w2.heap.size, 0, none⟩) 2 2) [8 + s, 8 + t] := RowE.lit w2 _ rfl rfl (show 2 ≤ maxLen by decide) (Nat.le_refl _)
  obtain ⟨a1, c1, e, hr, -⟩ := R0.rdI
  injection e with e1 e2 e3
  subst e1 e3
  have HR0 : Hid (RdI (w2.alloc (.cells #[.int .i64 (8 + s), .int .i64 (8 + t)] 3)) (fun g => w2.heap.size ≤ g) (some ⟨w2.heap.size, 0, none⟩) 2 [8 + s, 8 + t]) := Lib.hid hr
  have HGA := Lib.hid (gA2.alloc (.cells #[.int .i64 (8 + s), .int .i64 (8 + t)] 3))
  have hs8 : ([8 + s, 8 + t] : List Int).length ≤ 1000 := by simp
  have HNW := Lib.hid (new2_is (s := 8 + s) (t := 8 + t) (by omega) (by omega) (by omega))
  have HST := Lib.hid (ResI.start (s := 8 + s) (t := 8 + t) (by omega) (by omega) (by omega))
  clear R0 hr e2 gA2
  go_wp2_with fail
  with_reducible refine (new_p HR0.out hs8).mono ?_
  intro e w3 h
  obtain ⟨v3, rfl, Z3, G3⟩ := h.split HNW.out
  have HZ3 := Lib.hid (Z3.mono (q := fun _ => True) fun _ _ _ => trivial)
  have HG3 := Lib.hid (HGA.out.trans G3)
  have HL3 : Hid ([mkZ 1 (8 + s), mkZ (1 + (8 + s)) (8 + t)].length = 2) := Lib.hid rfl
  clear h Z3 G3 HNW HR0
  obtain ⟨q1, hq1⟩ : ∃ q, 8 + s = q := ⟨_, rfl⟩
  obtain ⟨q2, hq2⟩ : ∃ q, 8 + t = q := ⟨_, rfl⟩
  rw [hq1, hq2] at HST
  rw [hq1] at HZ3 HL3
  rw [hq2] at HZ3 HL3
  have hb1 : 8 ≤ q1 ∧ q1 ≤ 17 := by omega
  have hb2 : 8 ≤ q2 ∧ q2 ≤ 17 := by omega
  generalize [mkZ 1 q1, mkZ (1 + q1) q2] = L0 at *
  obtain ⟨a3, c3, rfl⟩ := HZ3.out.slice
  rw [HL3.out] at HZ3 ⊢
  clear hq1 hq2 s0 s1 t0 t1 HL3
  go_wp2_with fail
  go_loopw [4, 6] (fun xv nv wr => ∃ (n : Nat) (L : List Zo) (a : Option Addr) (c : Nat), xv = .slice a 2 c ∧ nv = .int .i64 n ∧ n ≤ 40 ∧ Hid (ResI q1 q2 L n) ∧ ZsR wr (fun _ => True) (.slice a 2 c) L ∧ Grew w wr) (fun _ nv _ => 64 - (intOf nv).toNat)
  case atStart => exact ⟨0, L0, _, _, rfl, rfl, by omega, HST, HZ3.out, HG3.out⟩
  case round =>
    obtain ⟨n, L, a, c4, rfl, rfl, hn, HI, Z, G⟩ := hrel
    obtain ⟨wo, rfl⟩ : ∃ wo : World, wo = wr := ⟨_, rfl⟩
    have HZ := Lib.hid Z
    have HG := Lib.hid G
    have HOK := Lib.hid HI.out.1
    have HSM := Lib.hid (ok_small HOK.out)
    have hL2 : L.length = 2 := by obtain ⟨-, -, -, b1, b2, b3, b4, e⟩ := HI.out; rw [e]; rfl
    have HL2 := Lib.hid hL2
    have hn34 : n ≤ 34 := by
      have h1 := abv_pos HI.out.2.1
      have h2 := HI.out.2.2.1
      omega
    clear Z G hL2
    have hn64 : (n : Int) < 64 := by omega
    cases hf : fromZ false L 2 with
    | none =>
      have HX := Lib.hid (takX_3 (u := false) (p := 1) HOK.out (by rw [HL2.out]; decide) hf)
      obtain ⟨hnt, hall⟩ := HI.out.last hf
      go_wp2_with fail
      with_reducible refine (take_p HZ.out HSM.out).mono ?_
      intro e w5 h
      obtain ⟨v5, rfl, -, G5⟩ := h.split HX.out
      have HG5 := Lib.hid (HG.out.trans G5)
      obtain ⟨g, a0, d0, rfl, -, hg, -, x1, x2, -, -, x5, -, -⟩ := (HZ.out.grew G5).at_ (k := 0) (by rw [HL2.out]; omega)
      obtain ⟨g', a1, d1, e', -, -, -, y1, y2, -, -, y5, -, -⟩ := (HZ.out.grew G5).at_ (k := 1) (by rw [HL2.out]; omega)
      injection e' with e'
      injection e' with e'
      subst e'
      obtain ⟨-, -, -, b1, b2, fa, fb, rfl⟩ := HI.out
      have l1 : (fa.length : Int) = q1 / 8 := hall ⟨b1, q1, q1 / 8, q1 / 4, q1 / 2, fa⟩ (by simp)
      have l2 : (fb.length : Int) = q2 / 8 := hall ⟨b2, q2, q2 / 8, q2 / 4, q2 / 2, fb⟩ (by simp)
      simp only [List.getD_cons_zero, List.getD_cons_succ, Nat.zero_mul, Nat.zero_add, Nat.one_mul] at x1 x2 x5 y1 y2 y5
      simp only [Nat.reduceAdd] at y1 y2 y5
      have hq8 : (0 : Int) < q1 / 8 := by omega
      clear h G5 hall HI HX HZ HOK HSM HL2 hf
      obtain ⟨d1', hd1⟩ : ∃ d, q1 / 8 = d := ⟨_, rfl⟩
      obtain ⟨d2', hd2⟩ : ∃ d, q2 / 8 = d := ⟨_, rfl⟩
      obtain ⟨m1, hm1⟩ : ∃ m, fa.length = m := ⟨_, rfl⟩
      obtain ⟨m2, hm2⟩ : ∃ m, fb.length = m := ⟨_, rfl⟩
      rw [hd1] at x2 hnt l1 hq8
      rw [hd2] at y2 hnt l2
      rw [hm1] at x5 l1
      rw [hm2] at y5 l2
      have hb3 : 0 ≤ d1' ∧ d1' ≤ 2 := by omega
      have hb4 : 0 ≤ d2' ∧ d2' ≤ 2 := by omega
      have hN : (n : Int) = q1 - d1' + q2 - d2' := by omega
      obtain rfl : d1' = (m1 : Int) := l1.symm
      obtain rfl : d2' = (m2 : Int) := l2.symm
      have hq9 : (0 : Int) < (m1 : Int) := hq8
      clear hd1 hd2 hm1 hm2 hnt l1 l2
      go_upto_region 11 with fail
      clear hN
      have hgd : g < w5.drew.heap.size := hg
      have n1 : IntKind.i64.wrap (q1 - (m1 : Int)) = q1 - (m1 : Int) := by rw [IntKind.wrap_i64]; omega
      have n2 : IntKind.i64.wrap (q1 - (m1 : Int) + q2) = q1 - (m1 : Int) + q2 := by rw [IntKind.wrap_i64]; omega
      have n3 : IntKind.i64.wrap (q1 - (m1 : Int) + q2 - (m2 : Int)) = q1 - (m1 : Int) + q2 - (m2 : Int) := by rw [IntKind.wrap_i64]; omega
      clear hb1 hb2 hb3 hb4 hq8
      go_still_tail 53, (by kernel_rfl)
      change wpList _ _ _ _ _ w5.drew
      have HG5d := Lib.hid HG5.out.drew
      go_wp2_with fail
      with_reducible refine (awake_any _).mono ?_
      rintro e w6 ⟨rfl, g6⟩
      have HG6 := Lib.hid (HG5d.out.trans g6)
      clear g6
      go_wp2
      go_ret
      exact ⟨by simp, HG6.out⟩
    | some i =>
      have HX := Lib.hid (takX_0 (u := false) (p := 1) HOK.out (by rw [HL2.out]; decide) hf)
      have HI2 := Lib.hid (HI.out.take hf)
      have HL3 : Hid ((setF L i ((frI L i).drop 1)).length = 2) := Lib.hid (by rw [setF_len, HL2.out])
      clear hf
      go_wp2_with fail
      with_reducible refine (take_p HZ.out HSM.out).mono ?_
      intro e w5 h
      obtain ⟨v5, rfl, Z5, G5⟩ := h.split HX.out
      have HG5 := Lib.hid (HG.out.trans G5)
      have HZ5 := Lib.hid (Z5.mono (q := fun _ => True) fun _ _ _ => trivial)
      obtain ⟨a5, c5, rfl⟩ := Z5.slice
      rw [HL3.out] at HZ5 ⊢
      clear h Z5 G5
      go_wp2_with fail
      go_roundw
      case rel => exact ⟨n + 1, _, a5, c5, rfl, by go_num, by omega, Lib.hid (by have h := HI2.out; rwa [show ((n + 1 : Nat) : Int) = (n : Int) + 1 by omega]), HZ5.out, HG5.out⟩
      case measure => simp [intOf]; omega

theorem Try.own : ownKnob Try.prog.godebug = none := by kernel_rfl
theorem Try.laidOut : laidOutB Try.prog = true := by kernel_rfl

theorem zoneReserve_contract (W : World) (base : Nat) (args : Array Value) (H : Type) (enc : TypeId × Value → H) (ds : List (DataW H)) (p : List MemPlace)
    (hval : ∀ (j : Nat) t v, Try.f6.params[j]? = some t → args[j]? = some v → Value.okWide Try.prog W .any base t v)
    (hA : DataW.TrodAll enc Try.prog W 0 (fun _ => true) true Try.f6.params.toList args.toList ds p) :
    (∃ d0, ds = [d0]) ∧ Calls Try.prog 6 args W fun e W' => e = .returned (.bool true) ∧ Below W.heap.size W W' := by
  rw [Try.params6] at hval hA
  obtain ⟨v0, d0, p0, ha, hd, hp, h0⟩ := args_1 hA
  subst ha hd
  obtain ⟨A0, c0, xs0, rfl, hr0, hm0⟩ := open_introw Try.underlying22 Try.underlying3 (by kernel_rfl) (hval 0 _ _ rfl rfl) h0
  exact ⟨⟨_, rfl⟩, (zres_core A0 c0 xs0 W hr0 hm0).mono fun _ _ h => h⟩

set_option maxRecDepth 100000 in
theorem zoneReserve_lifted (os : Os) (started : os.Started) (H : Type) (enc : TypeId × Value → H) :
    ReturnsInHanded {} Try.checked os 6 .any (Rows.zoneReserveSpec.pre6 enc Try.prog Try.f6 Rows.zoneReserveRow.domain false) (Rows.zoneReserveSpec.post enc Try.prog Try.f6 false true false false) := by
  refine returnsInHanded_of_change (C := Try.checked) Try.own started (by kernel_rfl) Try.func6
    (ChangeSpec.witness6 (enc := enc) (C := Try.checked) false ⟨#[], #[.slice none 0 0], []⟩ 8 (by kernel_rfl) (by kernel_rfl) (by kernel_rfl) (by kernel_rfl)) ?_
  intro W base args ds gs before hval hW _ _
  obtain ⟨p, q, hA, hV, hrest⟩ := id hW
  obtain ⟨⟨d0, rfl⟩, hc⟩ := zoneReserve_contract W base args H enc ds p hval hA
  obtain ⟨rfl, -⟩ := trodVars_none hV
  refine hc.mono fun e W' ⟨he, hb⟩ => ⟨_, he, ?_⟩
  exact law_close (tb := 4) Try.laidOut (by rw [Try.params6]; decide +kernel) Try.underlying4 rfl rfl hW rfl rfl rfl hb

theorem zoneReserve_holds : Rows.ZoneReserveSaid :=
  OpenClaim.holds_of_wide 6 Try.f6 rfl rfl rfl rfl rfl rfl rfl ⟨rfl, rfl, rfl, rfl, rfl⟩ rfl rfl rfl rfl rfl (by kernel_rfl) Try.func6 (by kernel_rfl)
    (of_decide_eq_true (by kernel_rfl)) (by unfold Func.isWrapper; first | (rw [if_pos (by decide +kernel)]; kernel_rfl) | (rw [if_neg (by decide +kernel)]; exact ⟨rfl, rfl⟩))
    (fun os started H enc _ => zoneReserve_lifted os started H enc)
end Go.Proofs.Ytphccdfdknihdaa
