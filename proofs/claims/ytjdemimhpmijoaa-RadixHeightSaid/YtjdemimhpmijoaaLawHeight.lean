/- RadixHeight holds: a tree is just as high as its greatest index needs, whatever was set and removed before. -/
import Derived.Test.YtjdemimhpmijoaaHgtLib
import Derived.Deep.LoopGhost
namespace Go.Proofs.Ytjdemimhpmijoaa
open Go.ChangeShapes Go.WideShapes Go.ChangeAt Go.RowKit Go.Mine

set_option maxRecDepth 100000 in
set_option maxHeartbeats 1000000 in
theorem height_core (A : Option Addr) (c : Nat) (xs : List Int) (w : World) (hr : IntRow w A xs) (hm : xs.length ≤ maxLen) :
    Calls Try.prog 8 #[.slice A xs.length c] w (RetG (.bool true) w) := by
  have tp0 := Tp.made hr hm c 32
  have hmm := @run_makeMap Try.prog
  clear hr hm
  generalize hX : xs.length = X at *
  clear hX
  go_enter Try.func8, Try.ntmps8
  have E0 := (Own.new2 w (.cells #[.slice A X c, .int .i64 0] 32) 28 #[.int .i64 0, .slice none 0 0, .int .i64 0, .int .i64 0]).alloc (.map #[] 0)
  have M0 := BMap.made ((w.alloc (.cells #[.slice A X c, .int .i64 0] 32)).alloc (.cells #[.int .i64 0, .slice none 0 0, .int .i64 0, .int .i64 0] 28))
  replace tp0 := (tp0.alloc (.cells #[.int .i64 0, .slice none 0 0, .int .i64 0, .int .i64 0] 28)).alloc (.map #[] 0)
  have gA0 := (((Grew.refl w).alloc (.cells #[.slice A X c, .int .i64 0] 32)).alloc (.cells #[.int .i64 0, .slice none 0 0, .int .i64 0, .int .i64 0] 28)).alloc (.map #[] 0)
  simp only [World.size_alloc] at M0
  have HE := Lib.hid E0
  have HM := Lib.hid M0
  have HT := Lib.hid tp0
  have HG := Lib.hid gA0
  clear E0 M0 tp0 gA0
  go_wp2_with fail
  clear hmm
  go_loopw [6] (fun i wr => ∃ (n k : Nat) (f : Fen) (g : Int → Bool) (s : Value) (x m : Int), i = .int .i64 n ∧ n ≤ 12 ∧ Own wr (w.heap.size + 1) 28 #[.int .i64 k, s, .int .i64 x, .int .i64 m] ∧ TreeF wr (fun b => w.heap.size + 1 + 1 < b) k f s x m ∧ Same f g ∧
    BMap wr (w.heap.size + 1 + 1) n g ∧ Tp (w.heap.size + 1) wr w.heap.size ∧ Grew w wr) (fun i _ => 12 - (intOf i).toNat)
  case atStart => exact ⟨0, 0, f0, _, _, _, _, rfl, by omega, HE.out, tree0 _ _, Same.start, HM.out, HT.out, HG.out⟩
  case round =>
    clear HE HM HT HG
    obtain ⟨n, k, f, g, s, x, m, rfl, hn, E, TR, SM, M, tp, gA⟩ := hrel
    obtain ⟨wo, rfl⟩ : ∃ wo : World, wo = wr := ⟨_, rfl⟩
    obtain ⟨a, j, cc, rfl⟩ := TR.node.slice
    have HTR := Lib.hid TR
    have HSM := Lib.hid SM
    have HM := Lib.hid M
    clear TR SM M
    by_cases hlt : n < 12
    · go_wp2_with fail
      with_reducible refine (end_x _ _ _ tp).mono ?_
      rintro e w1 ⟨q, rfl, tp1, g1⟩
      replace E := E.grew g1
      replace HM := Lib.hid (HM.out.grew g1)
      replace HTR := Lib.hid (HTR.out.grew g1)
      replace gA := gA.trans g1
      clear tp g1
      cases q
      · have hlw : w.heap.size + 1 < w1.heap.size := E.lt
        have L := Own.new w1 3 pick9
        have gL := (Grew.refl w1).alloc (.cells pick9 3)
        replace E := E.grew gL
        replace HM := Lib.hid (HM.out.grew gL)
        replace HTR := Lib.hid (HTR.out.grew gL)
        replace gA := gA.trans gL
        replace tp1 := tp1.grew gL
        clear gL
        have hl1 := E.lt
        have hl2 := HM.out.lt
        go_wp2_with fail
        with_reducible refine (next_x _ _ _ _ (by omega) (by omega) tp1).mono ?_
        rintro e w2 ⟨q, q0, q1, rfl, tp2, g2⟩
        obtain ⟨q, rfl⟩ := Int.eq_ofNat_of_zero_le q0
        obtain ⟨i, hi, hpi⟩ := pick_at q (by omega)
        replace L := L.past g2 (by omega)
        have hci := (L.cell q).trans hpi
        have hl3 := L.lt
        replace E := E.past g2 (by omega)
        replace HM := Lib.hid (HM.out.kept g2 (fun e => by injection e with e; omega))
        replace HTR := Lib.hid (show TreeF w2 (fun b => w.heap.size + 1 + 1 < b) k f (.slice a j cc) x m from ⟨HTR.out.1, HTR.out.node.keep (fun _ a _ => a) (fun b hb hb2 => g2.block b hb2 (fun e => by injection e with e; omega)), HTR.out.2.2⟩)
        replace gA := gA.past g2 (Nat.le_refl _)
        have i0 : (0 : Int) ≤ (q : Int) := by omega
        have i1 : (q : Int) < 9 := q1
        clear tp1 g2 hpi q0 q1 hl1 hl2 L
        have hl1 := E.lt
        go_wp2_with fail
        with_reducible refine (next_x _ _ _ _ (by omega) (by omega) tp2).mono ?_
        rintro e w3 ⟨v, v0, v1, rfl, tp3, g3⟩
        replace E := E.past g3 (by omega)
        replace HM := Lib.hid (HM.out.kept g3 (fun e => by injection e with e; omega))
        replace HTR := Lib.hid (show TreeF w3 (fun b => w.heap.size + 1 + 1 < b) k f (.slice a j cc) x m from ⟨HTR.out.1, HTR.out.node.keep (fun _ a _ => a) (fun b hb hb2 => g3.block b hb2 (fun e => by injection e with e; omega)), HTR.out.2.2⟩)
        replace gA := gA.past g3 (Nat.le_refl _)
        clear tp2 g3 hci hl3 hl1
        obtain ⟨E0, E1, E2, E3, E4, E5, E6, E7⟩ := E.four
        have hl1 := E.lt
        go_wp2_with fail
        with_reducible refine (set_f k f _ _ _ v i _ _ HTR.out hi (WalkArith.wf_i64 (by omega))).mono ?_
        rintro e w4 ⟨k2, s2, x2, m2, rfl, n2, g4⟩
        obtain ⟨a2, j2, c2, rfl⟩ := n2.node.slice
        have hl0 : w.heap.size + 1 + 1 < w3.heap.size := HM.out.lt
        have HT2 := Lib.hid (n2.mono (q := fun b => w.heap.size + 1 + 1 < b) (fun b hb _ => Nat.lt_of_lt_of_le hl0 hb))
        replace E := E.grew g4
        replace HM := Lib.hid (HM.out.grew g4)
        replace tp3 := tp3.grew g4
        replace gA := gA.trans g4
        clear n2 g4 E0 E1 E2 E3 E4 E5 E6 E7 hl1 HTR hl0
        obtain ⟨E0, E1, E2, E3, E4, E5, E6, E7⟩ := E.four
        have hl1 := E.lt
        go_upto_region 13 with fail
        generalize hw5 : World.setCell (World.setCell (World.setCell (World.setCell _ _ _) _ _) _ _) _ _ = w5
        have g5 := grown4 hw5
        have hr5 : ∀ x, some (w.heap.size + 1) = some x → w.heap.size + 1 ≤ x := fun x e => by injection e with e; omega
        have EE := own4 hw5 E
        have M5 := HM.out.kept g5 (fun e => by injection e with e; omega)
        have N5 := node4 hw5 HT2.out.node (fun b hb => by omega)
        have T5 := Tp.keptA tp3 g5 hr5 (Nat.le_refl _)
        have G5 := Grew.keptA gA g5 hr5 (by omega)
        clear hw5 g5 E0 E1 E2 E3 E4 E5 E6 E7 hl1 E HM tp3 gA
        generalize Obj.cells _ 28 = ob
        replace EE := EE.alloc ob
        replace M5 := M5.alloc ob
        replace N5 := N5.grew ((Grew.refl w5).alloc ob)
        replace T5 := T5.alloc ob
        replace G5 := G5.alloc ob
        obtain ⟨w7, g', hst, M7, S7, g7⟩ := M5.store2 (by unfold maxLen; omega) hi HSM.out v
        have hr7 : ∀ x, some (w.heap.size + 1 + 1) = some x → w.heap.size + 1 + 1 ≤ x := fun x e => by injection e with e; omega
        replace EE := Own.keptA EE g7 hr7 (by omega)
        have N7 := N5.keep (w' := w7) (q := fun b => w.heap.size + 1 + 1 < b) (fun _ a _ => a) (fun b hb hb2 => g7.block b hb2 (fun e => by injection e with e; omega))
        replace T5 := Tp.keptA T5 g7 hr7 (by omega)
        replace G5 := Grew.keptA G5 g7 hr7 (by omega)
        obtain ⟨f', TF7, SF7⟩ : ∃ f', TreeF w7 (fun b => w.heap.size + 1 + 1 < b) k2 f' (.slice a2 j2 c2) x2 m2 ∧ Same f' g' := ⟨_, ⟨HT2.out.1, N7, HT2.out.2.2⟩, S7⟩
        obtain ⟨w8, hrg, R8, g8, hz8⟩ := M7.range 0
        have hl7 := M7.lt
        obtain ⟨r, hr⟩ : ∃ r, r = w7.heap.size := ⟨_, rfl⟩
        rw [← hr] at hrg R8
        have hlr : w.heap.size + 1 + 1 < r := by omega
        have HR8 := Lib.hid R8
        have HS2 := Lib.hid SF7
        have HT3 := Lib.hid (show TreeF w8 (fun b => w.heap.size + 1 + 1 < b ∧ b ≠ r) k2 f' (.slice a2 j2 c2) x2 m2 from (TF7.mono (fun b hb hb2 => ⟨hb, by omega⟩)).grew g8)
        have HE8 := Lib.hid (EE.grew g8)
        have HT8 := Lib.hid (T5.grew g8)
        have HG8 := Lib.hid (G5.trans g8)
        clear g7 g8 M7 N5 N7 HT2 HSM M5 S7 TF7 SF7 R8 EE T5 G5 hz8 hl7 hr hr5 hr7
        go_wp2_with fail
        clear hst hrg
        go_loopw [11] (fun tv wr => ∃ t : Int, tv = .int .i64 t ∧ 0 ≤ t ∧ (t = 0 ∨ g' t = true) ∧ RgIs wr (w.heap.size + 1 + 1) r (n + 1) g' t ∧ Own wr (w.heap.size + 1) 28 #[.int .i64 (k2 : Nat), .slice a2 j2 c2, .int .i64 x2, .int .i64 m2] ∧
          (∃ nd : TreeF wr (fun b => w.heap.size + 1 + 1 < b ∧ b ≠ r) k2 f' (.slice a2 j2 c2) x2 m2, True) ∧ Tp (w.heap.size + 1) wr w.heap.size ∧ Grew w wr) (fun _ wr => wr.rangeLeft (w.heap.size + 1 + 1) r)
        case atStart => exact ⟨0, rfl, Int.le_refl _, .inl rfl, HR8.out, HE8.out, ⟨HT3.out, trivial⟩, HT8.out, HG8.out⟩
        case round =>
          clear HR8 HE8 HT3 HT8 HG8
          obtain ⟨t, rfl, ht0, htg, RG, E, ⟨TR, -⟩, tp, gA⟩ := hrel
          obtain ⟨wi, rfl⟩ : ∃ wi : World, wi = wr := ⟨_, rfl⟩
          have HTR := Lib.hid TR
          have HTG := Lib.hid htg
          clear TR htg
          rcases RG.next 0 with ⟨hall, M9, hrun⟩ | ⟨x9, w9, hx9, hrun, hRG, g9, hen, hms, hz9⟩
          · have hnx : ∀ ty, (Instr.next (.pointer (some ⟨r, 0, none⟩)) false ty).run Try.prog wi = _ := fun _ => hrun
            obtain ⟨hh1, hh2⟩ := height_of HTR.out HS2.out ht0 HTG.out (fun x hx => hall x (WalkArith.wf_i64 (by have := HS2.out.1 x hx; omega)) hx)
            have HH2 := Lib.hid hh2
            have HH1 := Lib.hid hh1
            have HM9 := Lib.hid M9
            have k4 := HTR.out.le
            clear hall hh2 hh1 M9 RG hrun
            go_wp2_with fail
            clear hnx
            have HE9 := Lib.hid E
            have HT9 := Lib.hid tp
            have HG9 := Lib.hid gA
            clear E tp gA
            go_loopw [14, 15] (fun hv nv wr => ∃ q : Nat, hv = .int .i64 q ∧ nv = .int .i64 (p4 q : Nat) ∧ q ≤ k2 ∧ wr = wi) (fun hv _ _ => 5 - (intOf hv).toNat)
            case atStart => exact ⟨0, rfl, rfl, by omega, rfl⟩
            case round =>
              obtain ⟨q, rfl, rfl, hq, rfl⟩ := hrel
              by_cases hqk : q < k2
              · have hle := HH2.out q hqk
                have hP : p4 q ≤ 256 := Nat.le_trans (p4_mono (show q ≤ 4 by omega)) (by decide)
                have HP4 := Lib.hid (show p4 (q + 1) = 4 * p4 q from rfl)
                generalize p4 q = P at *
                have hmul : wrap64 (4 * (P : Int)) = ((4 * P : Nat) : Int) := by rw [show 4 * (P : Int) = ((4 * P : Nat) : Int) from by omega]; exact IntWalk.wrap64_in _ (by omega)
                go_wp2_with fail
                go_roundw
                case rel => exact ⟨q + 1, by go_num, by rw [HP4.out, show ((4 * P : Nat) : Int) = 4 * (P : Int) from by omega], by omega, by first | rfl | trivial⟩
                case measure => simp [intOf]; omega
              · have hq2 : q = k2 := by omega
                subst hq2
                have hgt := HH1.out
                obtain ⟨E0, E1, E2, E3, -⟩ := HE9.out.four
                go_wp2_with fail
                with_reducible refine (valid_f q f' _ _ _ _ _ HTR.out.node HTR.out.good HTR.out.le).mono ?_
                rintro e w9 ⟨rfl, g9⟩
                rw [HTR.out.valid]
                go_wp2_with fail
                go_roundw
                case rel =>
                  exact ⟨n + 1, q, f', g', _, _, _, by go_num, by omega, HE9.out.grew g9, (HTR.out.grew g9).mono (fun b hb _ => hb.1), HS2.out, HM9.out.grew g9, HT9.out.grew g9, HG9.out.trans g9⟩
                case measure => simp [intOf]; omega
          · skip
            cases hb : g' x9
            · rw [hb] at hrun hen
              have HB := Lib.hid hb
              have hnx : ∀ ty, (Instr.next (.pointer (some ⟨r, 0, none⟩)) false ty).run Try.prog wi = _ := fun _ => hrun
              have HRG := Lib.hid hRG
              clear hb hrun hRG RG
              go_wp2_with fail
              go_roundw
              case rel =>
                exact ⟨t, rfl, ht0, HTG.out, HRG.out t (Int.le_refl _) (fun h => by rw [HB.out] at h; cases h), E.past g9 (by omega), ⟨⟨HTR.out.1, HTR.out.node.keep (fun _ a _ => a) (fun b hb hb2 => g9.block b hb2 (fun e => hb.2 (by injection e))), HTR.out.2.2⟩, trivial⟩,
                  Tp.keptA tp g9 (fun y e => by injection e with e; omega) (Nat.le_refl (w.heap.size + 1)), gA.past g9 (by omega)⟩
              case measure => exact hms
            · rw [hb] at hrun hen
              have HB := Lib.hid hb
              have hxb := HS2.out.1 x9 hb
              have hnx : ∀ ty, (Instr.next (.pointer (some ⟨r, 0, none⟩)) false ty).run Try.prog wi = _ := fun _ => hrun
              have HRG := Lib.hid hRG
              clear hb hrun hRG RG
              by_cases hmx : t < x9
              · go_wp2_with fail
                go_roundw
                case rel =>
                  exact ⟨x9, by simp [show ¬ x9 < t by omega, hmx], hxb.1, .inr HB.out, HRG.out x9 (by omega) (fun _ => Int.le_refl _), E.past g9 (by omega), ⟨⟨HTR.out.1, HTR.out.node.keep (fun _ a _ => a) (fun b hb hb2 => g9.block b hb2 (fun e => hb.2 (by injection e))), HTR.out.2.2⟩, trivial⟩,
                    Tp.keptA tp g9 (fun y e => by injection e with e; omega) (Nat.le_refl (w.heap.size + 1)), gA.past g9 (by omega)⟩
                case measure => exact hms
              · go_wp2_with fail
                go_roundw
                case rel =>
                  exact ⟨t, by simp [hmx], ht0, HTG.out, HRG.out t (Int.le_refl _) (fun _ => by omega), E.past g9 (by omega), ⟨⟨HTR.out.1, HTR.out.node.keep (fun _ a _ => a) (fun b hb hb2 => g9.block b hb2 (fun e => hb.2 (by injection e))), HTR.out.2.2⟩, trivial⟩,
                    Tp.keptA tp g9 (fun y e => by injection e with e; omega) (Nat.le_refl (w.heap.size + 1)), gA.past g9 (by omega)⟩
                case measure => exact hms
      · go_wp2_with fail
        with_reducible refine (awake_any _).mono ?_
        rintro e y ⟨rfl, g9⟩
        go_wp2_with fail
        go_ret
        exact ⟨rfl, gA.trans g9⟩
    · have hN : n = 12 := by omega
      subst hN
      rw [show ((12 : Nat) : Int) = 12 from rfl]
      go_wp2_with fail
      with_reducible refine (awake_any _).mono ?_
      rintro e y ⟨rfl, g9⟩
      go_wp2_with fail
      go_ret
      exact ⟨rfl, gA.trans g9⟩

theorem Try.own : ownKnob Try.prog.godebug = none := by kernel_rfl
theorem Try.laidOut : laidOutB Try.prog = true := by kernel_rfl

theorem radixHeight_contract (W : World) (base : Nat) (args : Array Value) (H : Type) (enc : TypeId × Value → H) (ds : List (DataW H)) (p : List MemPlace)
    (hval : ∀ (j : Nat) t v, Try.f8.params[j]? = some t → args[j]? = some v → Value.okWide Try.prog W .any base t v)
    (hA : DataW.TrodAll enc Try.prog W 0 (fun _ => true) true Try.f8.params.toList args.toList ds p) :
    (∃ d0, ds = [d0]) ∧ Calls Try.prog 8 args W fun e W' => e = .returned (.bool true) ∧ Below W.heap.size W W' := by
  rw [Try.params8] at hval hA
  obtain ⟨v0, d0, p0, ha, hd, hp, h0⟩ := args_1 hA
  subst ha hd
  obtain ⟨A0, c0, xs0, rfl, hr0, hm0⟩ := open_introw Try.underlying22 Try.underlying3 (by kernel_rfl) (hval 0 _ _ rfl rfl) h0
  exact ⟨⟨_, rfl⟩, (height_core A0 c0 xs0 W hr0 hm0).mono fun _ _ h => h⟩

set_option maxRecDepth 100000 in
theorem radixHeight_lifted (os : Os) (started : os.Started) (H : Type) (enc : TypeId × Value → H) :
    ReturnsInHanded {} Try.checked os 8 .any (Rows.radixHeightSpec.pre6 enc Try.prog Try.f8 Rows.radixHeightRow.domain false) (Rows.radixHeightSpec.post enc Try.prog Try.f8 false true false false) := by
  refine returnsInHanded_of_change (C := Try.checked) Try.own started (by kernel_rfl) Try.func8
    (ChangeSpec.witness6 (enc := enc) (C := Try.checked) false ⟨#[], #[.slice none 0 0], []⟩ 8 (by kernel_rfl) (by kernel_rfl) (by kernel_rfl) (by kernel_rfl)) ?_
  intro W base args ds gs before hval hW _ _
  obtain ⟨p, q, hA, hV, hrest⟩ := id hW
  obtain ⟨⟨d0, rfl⟩, hc⟩ := radixHeight_contract W base args H enc ds p hval hA
  obtain ⟨rfl, -⟩ := trodVars_none hV
  refine hc.mono fun e W' ⟨he, hb⟩ => ⟨_, he, ?_⟩
  exact law_close (tb := 4) Try.laidOut (by rw [Try.params8]; decide +kernel) Try.underlying4 rfl rfl hW rfl rfl rfl hb

theorem radixHeight_holds : Rows.RadixHeightSaid :=
  OpenClaim.holds_of_wide 8 Try.f8 rfl rfl rfl rfl rfl rfl rfl ⟨rfl, rfl, rfl, rfl, rfl⟩ rfl rfl rfl rfl rfl (by kernel_rfl) Try.func8 (by kernel_rfl)
    (of_decide_eq_true (by kernel_rfl)) (by unfold Func.isWrapper; first | (rw [if_pos (by decide +kernel)]; kernel_rfl) | (rw [if_neg (by decide +kernel)]; exact ⟨rfl, rfl⟩))
    (fun os started H enc _ => radixHeight_lifted os started H enc)
end Go.Proofs.Ytjdemimhpmijoaa
