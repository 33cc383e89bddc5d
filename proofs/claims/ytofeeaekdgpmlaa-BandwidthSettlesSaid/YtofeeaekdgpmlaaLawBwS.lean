/- BandwidthSettles holds: a device that completes the same number of pages in each period is measured nearer and nearer to this, up to rounding. -/
import Derived.Test.YtofeeaekdgpmlaaBw4
import Derived.Deep.RegionHeld3
import Derived.Deep.DeepCutAuto
import Derived.Deep.CutBlock
namespace Go.Mine
open Go Go.RowKit
theorem settle_nt {a i k A : Int} (a0 : 0 ≤ a) (a1 : a ≤ 4000) (i0 : 1 ≤ i) (i1 : i ≤ 60) (k0 : 0 ≤ k) (k1 : k ≤ 64) (hA : (3 * a + 16 * k) / 4 = A) : NtR ⟨a, 16 * (i - 1), 0⟩ (16 * i) k ⟨A, 16 * i, 0⟩ 0 := by
  have e1 : dnM ⟨a, 16 * (i - 1), 0⟩ k = k := by unfold dnM; simp only; omega
  have e2 : avM ⟨a, 16 * (i - 1), 0⟩ (16 * i) k = A := by
    unfold avM
    rw [e1]
    simp only
    rw [show 16 * i - 16 * (i - 1) = 16 by omega, show k * 256 / 16 = 16 * k by omega, hA]
    omega
  refine .inr (.inr (.inr ⟨okM_iff.2 ?_, ?_, ?_, by rw [e2], rfl⟩))
  · simp only; omega
  · unfold rgM
    rw [Bool.and_eq_true, frB_iff, frB_iff]
    simp only
    omega
  · simp only; omega
end Go.Mine
namespace Go.Proofs.Ytofeeaekdgpmlaa
open Go.ChangeShapes Go.WideShapes Go.ChangeAt Go.RowKit Go.Mine

set_option maxRecDepth 100000 in
set_option maxHeartbeats 4000000 in
theorem settles_core (u v z : Int) (w : World) (hu : (Lit.int .i64 u).wf = true) (hv : (Lit.int .i64 v).wf = true) (hz : (Lit.int .i64 z).wf = true) :
    Calls Try.prog 4 #[.int .i64 u, .int .i64 v, .int .i64 z] w (RetG (.bool true) w) := by
  clear hu hv hz
  obtain ⟨k0, k1⟩ := cut_lt u 65 (by omega)
  obtain ⟨r0, r1⟩ := cut_lt v 40 (by omega)
  obtain ⟨f0, f1⟩ := cut_lt z 4000 (by omega)
  obtain ⟨k, hk⟩ : ∃ x, cut u 65 = x := ⟨_, rfl⟩
  obtain ⟨r, hr⟩ : ∃ x, cut v 40 = x := ⟨_, rfl⟩
  obtain ⟨f, hf⟩ : ∃ x, cut z 4000 = x := ⟨_, rfl⟩
  rw [hk] at k0 k1
  rw [hr] at r0 r1
  rw [hf] at f0 f1
  have HK := Lib.hid hk
  have HR := Lib.hid hr
  have HF := Lib.hid hf
  obtain ⟨g, hg⟩ : ∃ x, k * 16 = x := ⟨_, rfl⟩
  have ng : IntKind.i64.wrap (k * 16) = g := (IntWalk.i64_in _ (by omega)).trans hg
  have HGG := Lib.hid hg
  clear hk hr hf hg
  go_enter Try.func4, Try.ntmps4
  go_wp2_with fail
  with_reducible refine (cut_any _ _ _ (by omega) (by omega)).mono ?_
  rintro e w1 ⟨rfl, rfl⟩
  rw [HK.out]
  go_wp2_with fail
  with_reducible refine (cut_any _ _ _ (by omega) (by omega)).mono ?_
  rintro e w1 ⟨rfl, rfl⟩
  rw [HF.out]
  have HO0 := Lib.hid (Own.new w 28 #[.int .i64 f, .int .i64 0, .int .i64 0])
  have HG0 := Lib.hid ((Grew.refl w).alloc (.cells #[.int .i64 f, .int .i64 0, .int .i64 0] 28))
  go_wp2_with fail
  generalize World.alloc w _ = w0 at *
  go_loopw [10] (fun iv wr => ∃ i a : Int, iv = .int .i64 i ∧ 1 ≤ i ∧ i ≤ r + 2 ∧ 0 ≤ a ∧ a ≤ 4000 ∧ Own wr w.heap.size 28 #[.int .i64 a, .int .i64 (16 * (i - 1)), .int .i64 0] ∧ Grew w wr) (fun iv _ => 60 - (intOf iv).toNat)
  case atStart => exact ⟨1, f, rfl, by omega, by omega, f0, by omega, HO0.out, HG0.out⟩
  case round =>
    obtain ⟨i, a, rfl, i0, i1, a0, a1, O, G⟩ := hrel
    obtain ⟨wo, rfl⟩ : ∃ wo : World, wo = wr := ⟨_, rfl⟩
    obtain ⟨S, hS⟩ : ∃ S, 16 * (i - 1) = S := ⟨_, rfl⟩
    rw [hS] at O
    have HO := Lib.hid O
    have HG := Lib.hid G
    obtain ⟨m0, m1, m2, m3, m4, m5⟩ := O.three
    have hl := O.lt
    have HS := Lib.hid hS
    clear O G hS
    by_cases hlt : i ≤ 1 + r
    · obtain ⟨A, hA⟩ : ∃ A, (3 * a + 16 * k) / 4 = A := ⟨_, rfl⟩
      obtain ⟨N, hN⟩ : ∃ N, 16 * i = N := ⟨_, rfl⟩
      have hnt := settle_nt a0 a1 i0 (by omega) k0 (by omega) hA
      rw [HS.out, hN] at hnt
      have HNT := Lib.hid hnt
      have n1 : IntKind.i64.wrap (16 * i) = N := (IntWalk.i64_in _ (by omega)).trans hN
      have HA := Lib.hid hA
      have HN := Lib.hid hN
      clear hA hN hnt
      go_wp2_with fail
      with_reducible refine (cut_any _ _ _ (by omega) (by omega)).mono ?_
      rintro e w1 ⟨rfl, rfl⟩
      rw [HR.out]
      go_wp2_with fail
      with_reducible refine (note_p HNT.out).mono ?_
      rintro e w1 ⟨rfl, g1⟩
      have HO1 := Lib.hid (HO.out.grew g1)
      have HG1 := Lib.hid (HG.out.trans g1)
      have hl1 := HO1.out.lt
      clear m0 m1 m2 m3 m4 m5 g1
      have O2 := HO1.out.alloc (.cells #[.int .i64 A, .int .i64 N, .int .i64 0] 28)
      have P2 := Own.new w1 28 #[.int .i64 A, .int .i64 N, .int .i64 0]
      have HG2 := Lib.hid (HG1.out.alloc (.cells #[.int .i64 A, .int .i64 N, .int .i64 0] 28))
      have HO2 := Lib.hid O2
      obtain ⟨m0, m1, m2, m3, m4, m5⟩ := HO1.out.three
      obtain ⟨b, hb⟩ : ∃ b, a - g = b := ⟨_, rfl⟩
      obtain ⟨c, hc⟩ : ∃ c, A - g = c := ⟨_, rfl⟩
      have n2 : IntKind.i64.wrap (a - g) = b := (IntWalk.i64_in _ (by have := HGG.out; omega)).trans hb
      have n3 : IntKind.i64.wrap (A - g) = c := (IntWalk.i64_in _ (by have := HGG.out; have := HA.out; omega)).trans hc
      have HBC : Hid ((0 ≤ b → 0 ≤ c ∧ c ≤ b) ∧ (b < 0 → b ≤ c ∧ c ≤ 0)) := Lib.hid (by have := HGG.out; have := HA.out; omega)
      clear hb hc
      by_cases hb : 0 ≤ b
      · obtain ⟨c0, c1⟩ := HBC.out.1 hb
        have c2 : ¬c < -1 := by omega
        have hl2 := HO2.out.lt
        obtain ⟨q0, q1, q2, q3, q4, q5⟩ := P2.three
        go_wp2
        go_quiet (fail)
        go_wp2_with fail
        generalize hw : World.setCell (World.setCell (World.setCell _ _ _) _ _) _ _ = E
        have HE := Lib.hid ((HO2.out.drewN nq).store3 hw)
        have HGE := Lib.hid ((HG2.out.drewN nq).far3 hw (Nat.le_refl _))
        go_roundw
        case rel => exact ⟨i + 1, A, by go_num, by omega, by omega, by have := HA.out; omega, by have := HA.out; omega, by rw [show 16 * (i + 1 - 1) = N from by rw [← HN.out]; omega]; exact HE.out, HGE.out⟩
        case measure => simp [intOf]; omega
      · obtain ⟨c0, c1⟩ := HBC.out.2 (by omega)
        have hl2 := HO2.out.lt
        obtain ⟨q0, q1, q2, q3, q4, q5⟩ := P2.three
        go_wp2
        go_quiet (fail)
        go_wp2_with fail
        generalize hw : World.setCell (World.setCell (World.setCell _ _ _) _ _) _ _ = E
        have HE := Lib.hid ((HO2.out.drewN nq).store3 hw)
        have HGE := Lib.hid ((HG2.out.drewN nq).far3 hw (Nat.le_refl _))
        go_roundw
        case rel => exact ⟨i + 1, A, by go_num, by omega, by omega, by have := HA.out; omega, by have := HA.out; omega, by rw [show 16 * (i + 1 - 1) = N from by rw [← HN.out]; omega]; exact HE.out, HGE.out⟩
        case measure => simp [intOf]; omega
    · have he : i = r + 2 := by omega
      go_wp2_with fail
      with_reducible refine (cut_any _ _ _ (by omega) (by omega)).mono ?_
      rintro e w1 ⟨rfl, rfl⟩
      rw [HR.out]
      have hd : decide (i ≤ 1 + r) = false := decide_eq_false (by omega)
      clear he
      go_wp2_with fail
      with_reducible refine (awake_any _).mono ?_
      rintro e w2 ⟨rfl, g2⟩
      go_wp2
      go_ret
      exact ⟨rfl, HG.out.trans g2⟩

theorem Try.own : ownKnob Try.prog.godebug = none := by kernel_rfl
theorem Try.laidOut : laidOutB Try.prog = true := by kernel_rfl

theorem bandwidthSettles_contract (W : World) (base : Nat) (args : Array Value) (H : Type) (enc : TypeId × Value → H) (ds : List (DataW H)) (p : List MemPlace)
    (hval : ∀ (j : Nat) t v, Try.f4.params[j]? = some t → args[j]? = some v → Value.okWide Try.prog W .any base t v)
    (hA : DataW.TrodAll enc Try.prog W 0 (fun _ => true) true Try.f4.params.toList args.toList ds p) :
    (∃ d0 d1 d2, ds = [d0, d1, d2]) ∧ Calls Try.prog 4 args W fun e W' => e = .returned (.bool true) ∧ Below W.heap.size W W' := by
  rw [Try.params4] at hval hA
  obtain ⟨v0, v1, v2, d0, d1, d2, p0, p1, p2, ha, hd, hp, h0, h1, h2⟩ := args_3 hA
  subst ha hd
  obtain ⟨n0, rfl, -, -, hw0⟩ := open_int Try.underlying3 (hval 0 _ _ rfl rfl) h0
  obtain ⟨n1, rfl, -, -, hw1⟩ := open_int Try.underlying3 (hval 1 _ _ rfl rfl) h1
  obtain ⟨n2, rfl, -, -, hw2⟩ := open_int Try.underlying3 (hval 2 _ _ rfl rfl) h2
  exact ⟨⟨_, _, _, rfl⟩, (settles_core n0 n1 n2 W hw0 hw1 hw2).mono fun _ _ h => h⟩

set_option maxRecDepth 100000 in
theorem bandwidthSettles_lifted (os : Os) (started : os.Started) (H : Type) (enc : TypeId × Value → H) :
    ReturnsInHanded {} Try.checked os 4 .any (Rows.bandwidthSettlesSpec.pre6 enc Try.prog Try.f4 Rows.bandwidthSettlesRow.domain false) (Rows.bandwidthSettlesSpec.post enc Try.prog Try.f4 false true false false) := by
  refine returnsInHanded_of_change (C := Try.checked) Try.own started (by kernel_rfl) Try.func4
    (ChangeSpec.witness6 (enc := enc) (C := Try.checked) false ⟨#[], #[.int .i64 0, .int .i64 0, .int .i64 0], []⟩ 8 (by kernel_rfl) (by kernel_rfl) (by kernel_rfl) (by kernel_rfl)) ?_
  intro W base args ds gs before hval hW _ _
  obtain ⟨p, q, hA, hV, hrest⟩ := id hW
  obtain ⟨⟨d0, d1, d2, rfl⟩, hc⟩ := bandwidthSettles_contract W base args H enc ds p hval hA
  obtain ⟨rfl, -⟩ := trodVars_none hV
  refine hc.mono fun e W' ⟨he, hb⟩ => ⟨_, he, ?_⟩
  exact law_close (tb := 4) Try.laidOut (by rw [Try.params4]; decide +kernel) Try.underlying4 rfl rfl hW rfl rfl rfl hb

theorem bandwidthSettles_holds : Rows.BandwidthSettlesSaid :=
  OpenClaim.holds_of_wide 4 Try.f4 rfl rfl rfl rfl rfl rfl rfl ⟨rfl, rfl, rfl, rfl, rfl⟩ rfl rfl rfl rfl rfl (by kernel_rfl) Try.func4 (by kernel_rfl)
    (of_decide_eq_true (by kernel_rfl)) (by unfold Func.isWrapper; first | (rw [if_pos (by decide +kernel)]; kernel_rfl) | (rw [if_neg (by decide +kernel)]; exact ⟨rfl, rfl⟩))
    (fun os started H enc _ => bandwidthSettles_lifted os started H enc)
end Go.Proofs.Ytofeeaekdgpmlaa
