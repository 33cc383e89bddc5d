/- BandwidthAdds holds: pages that are noted one after the other within a period count as those that are noted at once. -/
import Derived.Test.YtofeeaekdgpmlaaBw4
import Derived.Deep.RegionHeld3
import Derived.Deep.DeepCutAuto
import Derived.Deep.CutBlock
namespace Go.Mine
open Go Go.RowKit
theorem adds_nt {a s D t k : Int} (a0 : 0 ≤ a) (a1 : a < 1000) (s0 : 0 ≤ s) (s1 : s < 50) (D0 : 0 ≤ D) (D1 : D ≤ 45) (t0 : s ≤ t) (t1 : t ≤ s + 15) (k0 : 0 ≤ k) (k1 : k < 10) : NtR ⟨a, s, D⟩ t k ⟨a, s, D + k⟩ 0 := by
  refine .inr (.inr (.inl ⟨okM_iff.2 ?_, ?_, ?_, ?_, rfl⟩))
  · simp only; omega
  · unfold rgM
    rw [Bool.and_eq_true, frB_iff, frB_iff]
    simp only
    omega
  · simp only; omega
  · rw [show dnM ⟨a, s, D⟩ k = D + k from by unfold dnM; simp only; omega]
/-- The end: noted one after the other, and at once. -/
theorem adds_end {a s D t : Int} (a0 : 0 ≤ a) (a1 : a < 1000) (s0 : 0 ≤ s) (s1 : s < 50) (D0 : 0 ≤ D) (D1 : D ≤ 45) (t0 : s + 16 ≤ t) (t1 : t < s + 25) : ∃ v, NtR ⟨a, s, D⟩ t 0 ⟨v, t, 0⟩ 0 ∧ NtR ⟨a, s, 0⟩ t D ⟨v, t, 0⟩ 0 := by
  refine ⟨avM ⟨a, s, D⟩ t 0, .inr (.inr (.inr ⟨okM_iff.2 ?_, ?_, ?_, rfl, rfl⟩)), .inr (.inr (.inr ⟨okM_iff.2 ?_, ?_, ?_, ?_, rfl⟩))⟩
  · simp only; omega
  · unfold rgM
    rw [Bool.and_eq_true, frB_iff, frB_iff]
    simp only
    omega
  · simp only; omega
  · simp only; omega
  · unfold rgM
    rw [Bool.and_eq_true, frB_iff, frB_iff]
    simp only
    omega
  · simp only; omega
  · have e1 : dnM ⟨a, s, D⟩ 0 = D := by unfold dnM; simp only; omega
    have e2 : dnM ⟨a, s, 0⟩ D = D := by unfold dnM; simp only; omega
    rw [show avM ⟨a, s, D⟩ t 0 = avM ⟨a, s, 0⟩ t D from by unfold avM; rw [e1, e2]]
end Go.Mine
namespace Go.Proofs.Ytofeeaekdgpmlaa
open Go.ChangeShapes Go.WideShapes Go.ChangeAt Go.RowKit Go.Mine

set_option maxRecDepth 100000 in
set_option maxHeartbeats 4000000 in
theorem adds_core (A : Option Addr) (c : Nat) (xs : List Int) (w : World) (hr : IntRow w A xs) (hm : xs.length ≤ maxLen) :
    Calls Try.prog 5 #[.slice A xs.length c] w (RetG (.bool true) w) := by
  have tp := Tp.made hr hm c 25
  have gA := (Grew.refl w).alloc (.cells #[.slice A xs.length c, .int .i64 0] 25)
  have hbw : w.heap.size + 1 ≤ (w.alloc (.cells #[.slice A xs.length c, .int .i64 0] 25)).heap.size := by simp
  have hB0 : w.heap.size < w.heap.size + 1 := Nat.lt_succ_self _
  clear hr hm
  generalize hX : xs.length = X at *
  clear hX
  go_enter Try.func5, Try.ntmps5
  go_wp2_with fail
  with_reducible refine (next_x _ _ _ _ (by omega) (by omega) tp).mono ?_
  rintro e w1 ⟨a, a0, a1, rfl, T1, g1⟩
  have HG1 := Lib.hid (gA.past g1 (Nat.le_refl _))
  have hz1 := g1.size
  clear gA tp g1
  go_wp2_with fail
  with_reducible refine (next_x _ _ _ _ (by omega) (by omega) T1).mono ?_
  rintro e w2 ⟨s, s0, s1, rfl, T2, g2⟩
  have HG2 := Lib.hid (HG1.out.past g2 (Nat.le_refl _))
  have hz2 := g2.size
  clear g2 T1 HG1
  have hb2 : w.heap.size + 1 ≤ w2.heap.size := by omega
  clear hz1 hz2 hbw
  have O2 := Own.new w2 28 #[.int .i64 a, .int .i64 s, .int .i64 0]
  have T3 := T2.alloc (.cells #[.int .i64 a, .int .i64 s, .int .i64 0] 28)
  have HG3 := Lib.hid (HG2.out.alloc (.cells #[.int .i64 a, .int .i64 s, .int .i64 0] 28))
  go_upto_region 3 with fail
  obtain ⟨gm, hgm⟩ : ∃ g, w2.heap.size = g := ⟨_, rfl⟩
  generalize hw3 : World.alloc w2 _ = w3 at *
  have hs3 : w3.heap.size = gm + 1 := by rw [← hw3]; simp [hgm]
  rw [hgm] at O2 hb2 ⊢
  obtain ⟨a0', a1', a2', a3', a4', a5'⟩ := O2.three
  have hl := O2.lt
  clear hw3 T2 HG2 hgm
  go_region
  have HO4 : Hid (Own (w3.alloc (.cells #[.int .i64 a, .int .i64 s, .int .i64 0] 28)).drew gm 28 #[.int .i64 a, .int .i64 s, .int .i64 0]) := Lib.hid (O2.alloc _).drew
  have hP4 := Own.new w3 28 #[.int .i64 a, .int .i64 s, .int .i64 0]
  rw [hs3] at hP4
  have HP4 := Lib.hid hP4.drew
  have T4 := (T3.alloc (.cells #[.int .i64 a, .int .i64 s, .int .i64 0] 28)).drew
  have HG4 := Lib.hid (HG3.out.alloc (.cells #[.int .i64 a, .int .i64 s, .int .i64 0] 28)).drew
  have hsz : w.heap.size + 1 ≤ (w3.alloc (.cells #[.int .i64 a, .int .i64 s, .int .i64 0] 28)).drew.heap.size := by
    show w.heap.size + 1 ≤ (w3.alloc _).heap.size
    simp; omega
  generalize (w3.alloc (.cells #[.int .i64 a, .int .i64 s, .int .i64 0] 28)).drew = w4 at *
  clear O2 hP4 T3 HG3 a0' a1' a2' a3' a4' a5' hl hs3
  go_wp2_with fail
  with_reducible refine (next_x _ _ _ _ (by omega) (by omega) T4).mono ?_
  rintro e w5 ⟨n, n0, n1, rfl, T5, g5⟩
  obtain ⟨n, rfl⟩ := Int.eq_ofNat_of_zero_le n0
  have HO5 := Lib.hid (HO4.out.past g5 (by omega))
  have HP5 := Lib.hid (HP4.out.past g5 (by omega))
  have HG5 := Lib.hid (HG4.out.past g5 (Nat.le_refl _))
  have hsz5 := Nat.le_trans hsz g5.size
  clear g5 T4 HO4 HP4 HG4 hsz
  go_wp2_with fail
  go_loopw [6, 7, 8] (fun sv av nv wr => ∃ (D t : Int) (m : Nat), sv = .int .i64 D ∧ av = .int .i64 t ∧ nv = .int .i64 m ∧ m ≤ 5 ∧ 0 ≤ D ∧ D + 9 * m ≤ 45 ∧ s ≤ t ∧ t ≤ s + 15 ∧
    Own wr gm 28 #[.int .i64 a, .int .i64 s, .int .i64 0] ∧ Own wr (gm + 1) 28 #[.int .i64 a, .int .i64 s, .int .i64 D] ∧ Tp (w.heap.size + 1) wr w.heap.size ∧ Grew w wr) (fun _ _ nv _ => (intOf nv).toNat)
  case atStart => exact ⟨0, s, n, rfl, rfl, rfl, by omega, by omega, by omega, by omega, by omega, HO5.out, HP5.out, T5, HG5.out⟩
  case round =>
    obtain ⟨D, t, m, rfl, rfl, rfl, hm, D0, D1, t0, t1, O, P, T, G⟩ := hrel
    obtain ⟨wo, rfl⟩ : ∃ wo : World, wo = wr := ⟨_, rfl⟩
    have HO := Lib.hid O
    have HP := Lib.hid P
    have HG := Lib.hid G
    have hlo := O.lt
    have hlp := P.lt
    clear O P G
    by_cases hlt : 0 < m
    · obtain ⟨m', rfl⟩ : ∃ m', m = m' + 1 := ⟨m - 1, by omega⟩
      have hmi : (0 : Int) < ((m' + 1 : Nat) : Int) := by omega
      go_wp2_with fail
      with_reducible refine (next_x _ _ _ _ (by omega) (by omega) T).mono ?_
      rintro e w6 ⟨k, k0, k1, rfl, T6, g6⟩
      have HO6 := Lib.hid (HO.out.past g6 (by omega))
      have HP6 := Lib.hid (HP.out.past g6 (by omega))
      have HG6 := Lib.hid (HG.out.past g6 (Nat.le_refl _))
      have hl6 := HP6.out.lt
      clear g6 T HO HP HG hlo hlp
      obtain ⟨o0, o1, o2, o3, o4, o5⟩ := HO6.out.three
      obtain ⟨p0, p1, p2, p3, p4, p5⟩ := HP6.out.three
      have ns : IntKind.i64.wrap (s + 15) = s + 15 := IntWalk.i64_in _ (by omega)
      go_upto_region 8 with fail
      go_region_held3 (fun w' => w'.cell? ⟨gm, 1, none⟩ = some (.int .i64 s))
        (repeat (first | (with_reducible assumption) | (with_reducible refine far_drew ?_)))
        (first | (go_at_call 6; (with_reducible refine (next_x _ _ _ _ (by omega) (by omega) T6.drew).mono ?_); rintro e w7 ⟨q, q0, q1, rfl, T7, g7⟩; have HO7 := Lib.hid (HO6.out.drew.past g7 (by omega)); have HP7 := Lib.hid (HP6.out.drew.past g7 (by omega)); have HG7 := Lib.hid (HG6.out.drew.past g7 (Nat.le_refl _)); have hl7 := HP7.out.lt; have o1 := HO7.out.three.2.1))
      have nt : IntKind.i64.wrap (t + q) = t + q := IntWalk.i64_in _ (by omega)
      obtain ⟨t2, ht2⟩ : ∃ t2, min (t + q) (s + 15) = t2 := ⟨_, rfl⟩
      rw [show (if s + 15 < IntKind.i64.wrap (t + q) then s + 15 else IntKind.i64.wrap (t + q)) = t2 from by rw [nt, ← ht2]; split <;> omega]
      have t20 : s ≤ t2 := by omega
      have t21 : t2 ≤ s + 15 := by omega
      have hnt := Lib.hid (adds_nt a0 a1 s0 s1 D0 (by omega) t20 t21 k0 k1)
      clear ht2 nt ns o0 o2 o3 o4 o5 p0 p1 p2 p3 p4 p5 HO6 HP6 HG6 hl6 T6
      obtain ⟨p0, p1, p2, p3, p4, p5⟩ := HP7.out.three
      have hl7o := HO7.out.lt
      go_wp2_with fail
      with_reducible refine (note_p hnt.out).mono ?_
      rintro e w8 ⟨rfl, g8⟩
      have P8 := HP7.out.grew g8
      have HP9 := Lib.hid P8
      have HO9 := Lib.hid (HO7.out.grew g8)
      have HG9 := Lib.hid (HG7.out.trans g8)
      have T9 := T7.grew g8
      have hl8 := P8.lt
      have nd : IntKind.i64.wrap (D + k) = D + k := IntWalk.i64_in _ (by omega)
      clear p0 p1 p2 p3 p4 p5 HO7 HP7 HG7 T7 g8 o1
      obtain ⟨p0, p1, p2, p3, p4, p5⟩ := P8.three
      clear P8
      go_wp2_with fail
      generalize hw : World.setCell (World.setCell (World.setCell _ _ _) _ _) _ _ = E
      have HPE := Lib.hid (HP9.out.store3 hw)
      have HOE := Lib.hid (HO9.out.far3 hw (by omega))
      have HGE := Lib.hid (HG9.out.far3 hw (by omega))
      have TE := T9.far3 hw (by omega)
      go_roundw
      case rel => exact ⟨D + k, t2, m', rfl, rfl, by go_num, by omega, by omega, by omega, t20, t21, HOE.out.alloc _, HPE.out.alloc _, TE.alloc _, HGE.out.alloc _⟩
      case measure => simp [intOf]
    · obtain rfl : m = 0 := by omega
      obtain ⟨o0, o1, o2, o3, o4, o5⟩ := HO.out.three
      have ns : IntKind.i64.wrap (s + 16) = s + 16 := IntWalk.i64_in _ (by omega)
      go_upto_region 13 with fail
      go_region_held3 (fun w' => w'.cell? ⟨gm, 1, none⟩ = some (.int .i64 s))
        (repeat (first | (with_reducible assumption) | (with_reducible refine far_drew ?_)))
        (first | (go_at_call 6; (with_reducible refine (next_x _ _ _ _ (by omega) (by omega) T.drew).mono ?_); rintro e w7 ⟨q, q0, q1, rfl, T7, g7⟩; have HO7 := Lib.hid (HO.out.drew.past g7 (by omega)); have HP7 := Lib.hid (HP.out.drew.past g7 (by omega)); have HG7 := Lib.hid (HG.out.drew.past g7 (Nat.le_refl _)); have hl7 := HP7.out.lt; have o1 := HO7.out.three.2.1))
      have nt : IntKind.i64.wrap (s + 16 + q) = s + 16 + q := IntWalk.i64_in _ (by omega)
      obtain ⟨v, hv1, hv2⟩ := adds_end (t := s + 16 + q) a0 a1 s0 s1 D0 (by omega) (by omega) (by omega)
      rw [nt]
      generalize s + 16 + q = z at *
      have H1 := Lib.hid hv1
      have H2 := Lib.hid hv2
      clear nt ns o0 o2 o3 o4 o5 HO HP HG T hv1 hv2 T7 q0 q1 D1
      obtain ⟨p0, p1, p2, p3, p4, p5⟩ := HP7.out.three
      have hl7o := HO7.out.lt
      go_wp2_with fail
      with_reducible refine (note_p H1.out).mono ?_
      rintro e w8 ⟨rfl, g8⟩
      have HO8 := Lib.hid (HO7.out.grew g8)
      have HG8 := Lib.hid ((HG7.out.trans g8).alloc (.cells #[.int .i64 v, .int .i64 z, .int .i64 0] 28))
      have O9 := HO8.out.alloc (.cells #[.int .i64 v, .int .i64 z, .int .i64 0] 28)
      have P9 := Own.new w8 28 #[.int .i64 v, .int .i64 z, .int .i64 0]
      have hl8 := HO8.out.lt
      clear p0 p1 p2 p3 p4 p5 o1 HO7 HP7 HG7 g8
      obtain ⟨o0, o1, o2, o3, o4, o5⟩ := HO8.out.three
      go_wp2_with fail
      with_reducible refine (note_p H2.out).mono ?_
      rintro e w9 ⟨rfl, g9⟩
      have P10 := P9.grew g9
      have HG10 := Lib.hid ((HG8.out.trans g9).alloc (.cells #[.int .i64 v, .int .i64 z, .int .i64 0] 28))
      have hl9 := P10.lt
      clear g9 P9 O9 HO8 HG8 o0 o1 o2 o3 o4 o5
      obtain ⟨p0, p1, p2, p3, p4, p5⟩ := P10.three
      go_wp2_with fail
      with_reducible refine (awake_any _).mono ?_
      rintro e w10 ⟨rfl, g10⟩
      go_wp2
      go_ret
      exact ⟨by simp, HG10.out.trans g10⟩

theorem Try.own : ownKnob Try.prog.godebug = none := by kernel_rfl
theorem Try.laidOut : laidOutB Try.prog = true := by kernel_rfl

theorem bandwidthAdds_contract (W : World) (base : Nat) (args : Array Value) (H : Type) (enc : TypeId × Value → H) (ds : List (DataW H)) (p : List MemPlace)
    (hval : ∀ (j : Nat) t v, Try.f5.params[j]? = some t → args[j]? = some v → Value.okWide Try.prog W .any base t v)
    (hA : DataW.TrodAll enc Try.prog W 0 (fun _ => true) true Try.f5.params.toList args.toList ds p) :
    (∃ d0, ds = [d0]) ∧ Calls Try.prog 5 args W fun e W' => e = .returned (.bool true) ∧ Below W.heap.size W W' := by
  rw [Try.params5] at hval hA
  obtain ⟨v0, d0, p0, ha, hd, hp, h0⟩ := args_1 hA
  subst ha hd
  obtain ⟨A0, c0, xs0, rfl, hr0, hm0⟩ := open_introw Try.underlying22 Try.underlying3 (by kernel_rfl) (hval 0 _ _ rfl rfl) h0
  exact ⟨⟨_, rfl⟩, (adds_core A0 c0 xs0 W hr0 hm0).mono fun _ _ h => h⟩

set_option maxRecDepth 100000 in
theorem bandwidthAdds_lifted (os : Os) (started : os.Started) (H : Type) (enc : TypeId × Value → H) :
    ReturnsInHanded {} Try.checked os 5 .any (Rows.bandwidthAddsSpec.pre6 enc Try.prog Try.f5 Rows.bandwidthAddsRow.domain false) (Rows.bandwidthAddsSpec.post enc Try.prog Try.f5 false true false false) := by
  refine returnsInHanded_of_change (C := Try.checked) Try.own started (by kernel_rfl) Try.func5
    (ChangeSpec.witness6 (enc := enc) (C := Try.checked) false ⟨#[], #[.slice none 0 0], []⟩ 8 (by kernel_rfl) (by kernel_rfl) (by kernel_rfl) (by kernel_rfl)) ?_
  intro W base args ds gs before hval hW _ _
  obtain ⟨p, q, hA, hV, hrest⟩ := id hW
  obtain ⟨⟨d0, rfl⟩, hc⟩ := bandwidthAdds_contract W base args H enc ds p hval hA
  obtain ⟨rfl, -⟩ := trodVars_none hV
  refine hc.mono fun e W' ⟨he, hb⟩ => ⟨_, he, ?_⟩
  exact law_close (tb := 4) Try.laidOut (by rw [Try.params5]; decide +kernel) Try.underlying4 rfl rfl hW rfl rfl rfl hb

theorem bandwidthAdds_holds : Rows.BandwidthAddsSaid :=
  OpenClaim.holds_of_wide 5 Try.f5 rfl rfl rfl rfl rfl rfl rfl ⟨rfl, rfl, rfl, rfl, rfl⟩ rfl rfl rfl rfl rfl (by kernel_rfl) Try.func5 (by kernel_rfl)
    (of_decide_eq_true (by kernel_rfl)) (by unfold Func.isWrapper; first | (rw [if_pos (by decide +kernel)]; kernel_rfl) | (rw [if_neg (by decide +kernel)]; exact ⟨rfl, rfl⟩))
    (fun os started H enc _ => bandwidthAdds_lifted os started H enc)
end Go.Proofs.Ytofeeaekdgpmlaa
