/- AgingFair holds: a file that is added again and again keeps its place, and is due when it has been dirty for the age, before all files that became dirty later. -/
import Derived.Test.YtmdechoajmbhoaaAg7
import Derived.Test.YtmdechoajmbhoaaAgF
import Derived.Test.YtmdechoajmbhoaaIMap
import Derived.Test.YtmdechoajmbhoaaMapSet
namespace Go.Mine
open Go Go.RowKit
theorem RdS.at1f {w : World} {B : Nat} {L : List Int} {a : Option Addr} {n c : Nat} (h : RdS 1 enc1 w B (.slice a n c) L) {k : Nat} (hk : k < L.length) : ∃ g o, a = some ⟨g, o, none⟩ ∧ B ≤ g ∧ g < w.heap.size ∧ w.cell? ⟨g, o + k, none⟩ = some (.int .i64 (L.getD k 0)) := by
  obtain ⟨g, o, e, hB, hg, hc⟩ := h.at_ hk
  refine ⟨g, o, e, hB, hg, ?_⟩
  have := hc 0 (by omega)
  rw [getD_get hk]
  rw [Nat.mul_one, Nat.add_zero] at this
  exact this
theorem out_no' {L : List Du} (f : Int) : hasA (outA L f) f = false := by
  refine hasA_iff'.2 fun k hk e => ?_
  rw [dD hk] at e
  have := List.getElem_mem hk
  have := (List.mem_filter.1 this).2
  simp [e] at this
/-- What adding makes of it. -/
theorem add_fair {L : List Du} {f n : Int} (h : okA L = true) (hf : fileB f = true) (hn : tickB n = true) (hl : lstA L ≤ n) : ∃ M, addX L f n = (M, 0) ∧ okA M = true ∧ lstA M ≤ n ∧ M.length ≤ L.length + 1 ∧ (hasA L f = true → M = L) ∧ (hasA L f = false → ∀ x, fndA M x = if x = f then some n else fndA L x) := by
  cases hh : hasA L f
  · refine ⟨_, addX_n (eA_4 h hf hn hl) hh, okA_snoc.2 ⟨h, oneA_iff.2 ⟨hf, hh, hl, (tickB_iff.1 hn).2⟩⟩, by rw [lstA_snoc]; exact Int.le_refl _, by simp, (by intro h; cases h), fun _ x => fnd_snoc hh x⟩
  · exact ⟨L, addX_h (eA_4 h hf hn hl) hh, h, hl, by omega, fun _ => rfl, (by intro h; cases h)⟩
theorem int64 {x : Int} (h0 : 0 ≤ x) (h1 : x ≤ 1000000) : (Lit.int .i64 x).wf = true := WalkArith.wf_i64 (by omega)
end Go.Mine
namespace Go.Proofs.Ytmdechoajmbhoaa
open Go.ChangeShapes Go.WideShapes Go.ChangeAt Go.RowKit Go.Mine

theorem zeroI (w : World) : (zeroValue 3).run Try.prog w = .ok (.int .i64 0) w := by kernel_rfl
theorem zeroB (w : World) : (zeroValue 4).run Try.prog w = .ok (.bool false) w := by kernel_rfl
abbrev Since (w : World) (b n : Nat) (L : List Du) : Prop := IMap Try.prog 3 3 w b n (fndA L)
abbrev SeenS (w : World) (b n : Nat) (f : Int → Bool) : Prop := ∃ sz, BSet Try.prog 3 4 w b n f sz
/-- The list, since when, a tape. -/
def AfCut (w : World) (v : Value) (L : List Du) (n : Nat) (wx : World) : Prop := RdS 2 enc2 wx (w.heap.size + 2) v L ∧ Since wx (w.heap.size + 1) n L ∧ Tp (w.heap.size + 1) wx w.heap.size ∧ Grew w wx
set_option maxRecDepth 100000 in
set_option maxHeartbeats 16000000 in
theorem fair_core (A : Option Addr) (c : Nat) (xs : List Int) (w : World) (hr : IntRow w A xs) (hm : xs.length ≤ maxLen) :
    Calls Try.prog 4 #[.slice A xs.length c] w (RetG (.bool true) w) := by
  have tp0 := Tp.made hr hm c 25
  have hmm := @run_makeMap Try.prog
  clear hr hm
  generalize hX : xs.length = X at *
  clear hX
  go_enter Try.func4, Try.ntmps4
  have M0 := IMap.made (w.alloc (.cells #[.slice A X c, .int .i64 0] 25)) Try.prog 3 3
  replace tp0 := tp0.alloc (.map #[] 0)
  have gA0 := ((Grew.refl w).alloc (.cells #[.slice A X c, .int .i64 0] 25)).alloc (.map #[] 0)
  simp only [World.size_alloc] at M0
  have HM := Lib.hid M0
  have HT := Lib.hid tp0
  have HG := Lib.hid gA0
  have hB0 : w.heap.size < w.heap.size + 2 := by omega
  clear M0 tp0 gA0
  go_wp2_with fail
  go_loopw [4, 6, 7] (fun xv nv kv wr => ∃ (v : Value) (L : List Du) (now : Int) (n : Nat), v = xv ∧ nv = .int .i64 now ∧ kv = .int .i64 n ∧ n ≤ 40 ∧ 0 ≤ now ∧ now ≤ 2 * (n : Int) ∧ L.length ≤ n ∧ okA L = true ∧ lstA L ≤ now ∧ AfCut w v L n wr) (fun _ _ kv _ => 40 - (intOf kv).toNat)
  case atStart => exact ⟨_, [], 0, 0, rfl, rfl, rfl, by omega, by omega, by omega, Nat.le_refl _, rfl, Int.le_refl _, RdS.nil _ _ _ _ (Nat.zero_le _), HM.out, HT.out, HG.out⟩
  case round =>
    clear HM HT HG
    obtain ⟨v, L, now, n, rfl, rfl, rfl, hn, hw0, hw1, hl, hok, hlst, R, M, T, G⟩ := hrel
    obtain ⟨wo, rfl⟩ : ∃ wo : World, wo = wr := ⟨_, rfl⟩
    have HOK := Lib.hid hok
    have HLST := Lib.hid hlst
    have HLE := Lib.hid hl
    clear hok hlst hl
    by_cases hlt : n < 40
    · have hlti : (n : Int) < 40 := by omega
      go_wp2_with fail
      with_reducible refine (end_x _ _ _ T).mono ?_
      rintro e w1 ⟨q, rfl, T1, g1⟩
      have HR1 := Lib.hid (R.grew g1)
      have HM1 := Lib.hid (IMap.grew M g1)
      have HG1 := Lib.hid (G.trans g1)
      clear R M T G g1
      have hml : w.heap.size + 1 < w1.heap.size := HM1.out.lt
      cases q
      · go_wp2_with fail
        with_reducible refine (next_x _ _ _ _ (by omega) (by omega) T1).mono ?_
        rintro e w2 ⟨d, d0, d1, rfl, T2, g2⟩
        go_wp2_with fail
        with_reducible refine (next_x _ _ _ _ (by omega) (by omega) T2).mono ?_
        rintro e w3 ⟨f, f0, f1, rfl, T3, g3⟩
        go_wp2_with fail
        with_reducible refine (next_x _ _ _ _ (by omega) (by omega) T3).mono ?_
        rintro e w4 ⟨q4, e0, e1, rfl, T4, g4⟩
        have g24 := grown_trans (grown_trans g2 g3) g4
        have HR4 := Lib.hid (HR1.out.past g24 hB0)
        have HM4 := Lib.hid (IMap.kept HM1.out g24 (fun e => by injection e with e; omega))
        have HG4 := Lib.hid (HG1.out.past g24 (Nat.le_refl _))
        have hml4 : w.heap.size + 1 < w4.heap.size := HM4.out.lt
        have hbl4 : w.heap.size + 2 ≤ w4.heap.size := hml4
        have HF := Lib.hid (fileB_t f0 (by omega : f < 8))
        have HFW := Lib.hid (int64 f0 (by omega))
        have HLN := Lib.hid (show L.length ≤ 500 by have := HLE.out; omega)
        clear g2 g3 g4 g24 T1 T2 T3 HR1 HM1 HG1 e0 e1
        obtain ⟨now2, hnow2⟩ : ∃ m, now + d = m := ⟨_, rfl⟩
        have hn20 : 0 ≤ now2 := by omega
        have hn21 : now2 ≤ 2 * ((n : Int) + 1) := by omega
        have HL2 := Lib.hid (show lstA L ≤ now2 by have := HLST.out; omega)
        try rw [hnow2]
        clear hnow2 d0 d1 hw0 hw1
        by_cases hq : q4 = 0
        · subst hq
          cases hh : hasA L f
          · skip
            have HX := Lib.hid (remX_n (eF_2 HOK.out HF.out) hh)
            have HO := Lib.hid (outA_none hh)
            have HNF : Hid (fndA L f = none) := Lib.hid (by have := fnd_has L f; rw [hh] at this; simpa using this)
            clear hh
            go_wp2_with fail
            with_reducible refine (remove_p HR4.out hbl4 HLN.out).mono ?_
            rw [HX.out]
            rintro e w5 ⟨v5, rfl, R5, g5⟩
            have M5 := IMap.grew HM4.out g5
            have hlk := IMap.look_ok M5 Try.underlying3 Try.underlying3 Try.underlying41 (zeroI _) HFW.out
            rw [HNF.out] at hlk
            have R5 := R5
            rw [← HO.out] at R5
            obtain ⟨w6, hdl, M6, g6⟩ := IMap.del M5 Try.underlying3 Try.underlying41 HFW.out
            have G5 := HG4.out.trans g5
            have T5 := T4.grew g5
            have hr6 : ∀ x, some (w.heap.size + 1) = some x → w.heap.size + 1 ≤ x := fun x e => by injection e with e; omega
            have HR6 := Lib.hid (RdS.keptG R5 g6 (fun k e => by injection e with e; omega))
            have HM6 := Lib.hid (IMap.congr M6 (g' := fndA (outA L f)) (fun x => (fnd_out L f x).symm))
            have HT6 := Lib.hid (Tp.keptA T5 g6 hr6 (Nat.le_refl _))
            have HG6 := Lib.hid (Grew.keptA G5 g6 hr6 (by omega))
            have HOO := Lib.hid (okA_out HOK.out f)
            have HOL := Lib.hid (outA_len L f)
            clear R5 M5 M6 g5 g6 G5 T5 hr6 T4 HR4 HM4 HG4 hml4 hbl4
            go_wp2_with fail
            go_roundw
            case rel => exact ⟨v5, outA L f, now2, n + 1, rfl, rfl, by go_num, by omega, hn20, by omega, by have := HOL.out; have := HLE.out; omega, HOO.out.1, Int.le_trans HOO.out.2 HL2.out, HR6.out, IMap.mono HM6.out (Nat.le_succ n), HT6.out, HG6.out⟩
            case measure => simp [intOf]; omega
          · skip
            have HX := Lib.hid (remX_h (eF_2 HOK.out HF.out) hh)
            have HNF : Hid (∃ s, fndA L f = some s) := Lib.hid (by have := fnd_has L f; rw [hh] at this; exact Option.isSome_iff_exists.1 this)
            clear hh
            go_wp2_with fail
            with_reducible refine (remove_p HR4.out hbl4 HLN.out).mono ?_
            rw [HX.out]
            rintro e w5 ⟨v5, rfl, R5, g5⟩
            have M5 := IMap.grew HM4.out g5
            have hlk := IMap.look_ok M5 Try.underlying3 Try.underlying3 Try.underlying41 (zeroI _) HFW.out
            obtain ⟨s, hs⟩ := HNF.out
            rw [hs] at hlk
            clear hs
            obtain ⟨w6, hdl, M6, g6⟩ := IMap.del M5 Try.underlying3 Try.underlying41 HFW.out
            have G5 := HG4.out.trans g5
            have T5 := T4.grew g5
            have hr6 : ∀ x, some (w.heap.size + 1) = some x → w.heap.size + 1 ≤ x := fun x e => by injection e with e; omega
            have HR6 := Lib.hid (RdS.keptG R5 g6 (fun k e => by injection e with e; omega))
            have HM6 := Lib.hid (IMap.congr M6 (g' := fndA (outA L f)) (fun x => (fnd_out L f x).symm))
            have HT6 := Lib.hid (Tp.keptA T5 g6 hr6 (Nat.le_refl _))
            have HG6 := Lib.hid (Grew.keptA G5 g6 hr6 (by omega))
            have HOO := Lib.hid (okA_out HOK.out f)
            have HOL := Lib.hid (outA_len L f)
            clear R5 M5 M6 g5 g6 G5 T5 hr6 T4 HR4 HM4 HG4 hml4 hbl4
            go_wp2_with fail
            go_roundw
            case rel => exact ⟨v5, outA L f, now2, n + 1, rfl, rfl, by go_num, by omega, hn20, by omega, by have := HOL.out; have := HLE.out; omega, HOO.out.1, Int.le_trans HOO.out.2 HL2.out, HR6.out, IMap.mono HM6.out (Nat.le_succ n), HT6.out, HG6.out⟩
            case measure => simp [intOf]; omega
        · have hq0 : (q4 == 0) = false := by simp [hq]
          clear hq
          have HTB := Lib.hid (tickB_t hn20 (by omega : now2 ≤ 1000000))
          obtain ⟨L', hx, hok', hls', hln', hyes, hno⟩ := add_fair HOK.out HF.out HTB.out HL2.out
          have HX := Lib.hid hx
          have HOK' := Lib.hid hok'
          have HLS' := Lib.hid hls'
          have HLN' := Lib.hid (show L'.length ≤ n + 1 by have := HLE.out; omega)
          have HYES := Lib.hid hyes
          have HNO := Lib.hid hno
          clear hx hok' hls' hln' hyes hno
          go_wp2_with fail
          with_reducible refine (add_p HR4.out hbl4 HLN.out).mono ?_
          rw [HX.out]
          rintro e w5 ⟨v5, rfl, R5, g5⟩
          have M5 := IMap.grew HM4.out g5
          have hlk := IMap.look_ok M5 Try.underlying3 Try.underlying3 Try.underlying41 (zeroI _) HFW.out
          rw [fnd_has] at hlk
          have HM5 := Lib.hid M5
          have HR5 := Lib.hid R5
          have T5 := T4.grew g5
          have HG5 := Lib.hid (HG4.out.trans g5)
          obtain ⟨at_, hat⟩ : ∃ z, (fndA L f).getD 0 = z := ⟨_, rfl⟩
          rw [hat] at hlk
          clear M5 R5 g5 T4 HR4 HM4 HG4 hml4 hbl4 hat
          obtain ⟨hb, hhb⟩ : ∃ z, hasA L f = z := ⟨_, rfl⟩
          rw [hhb] at hlk
          have HHB := Lib.hid hhb
          clear hhb
          have hbl5 : w.heap.size + 2 ≤ w5.heap.size := HM5.out.lt
          go_upto_if 83 with fail
          go_cut [] from 83 to 86 (AfCut w v5 L' (n + 1))
          case first =>
            cases hb
            · have hnn : n < maxLen := by unfold maxLen; omega
              obtain ⟨w6, hst, M6, g6⟩ := IMap.store HM5.out Try.underlying3 Try.underlying3 Try.underlying41 hnn HFW.out (int64 hn20 (by omega : now2 ≤ 1000000))
              have hr6 : ∀ x, some (w.heap.size + 1) = some x → w.heap.size + 1 ≤ x := fun x e => by injection e with e; omega
              have HR6 := Lib.hid (RdS.keptG HR5.out g6 (fun k e => by injection e with e; omega))
              have HM6 := Lib.hid (IMap.congr M6 (g' := fndA L') (fun x => (HNO.out HHB.out x).symm))
              have HT6 := Lib.hid (Tp.keptA T5 g6 hr6 (Nat.le_refl _))
              have HG6 := Lib.hid (Grew.keptA HG5.out g6 hr6 (by omega))
              clear M6 g6 hr6 HM5 HR5 T5 HG5 hnn hlk
              go_wp2_with fail
              go_meet
              exact ⟨HR6.out, HM6.out, HT6.out, HG6.out⟩
            · have HE := Lib.hid (HYES.out HHB.out)
              clear hlk
              go_wp2_with fail
              go_meet
              exact ⟨HR5.out, IMap.mono (by rw [HE.out]; exact HM5.out) (Nat.le_succ n), T5, HG5.out⟩
          case rest =>
            obtain ⟨R6, M6, T6, G6⟩ := hcut
            have HR6 := Lib.hid R6
            have HM6 := Lib.hid M6
            have HG6 := Lib.hid G6
            have hbl6 : w.heap.size + 2 ≤ wc.heap.size := M6.lt
            clear R6 M6 G6 HR5 HM5 HG5 T5 hbl5 hlk HX HYES HNO HHB HLST HLE HOK HLN HL2 HF HFW
            go_wp2_with fail
            with_reducible refine (next_x _ _ _ _ (by omega) (by omega) T6).mono ?_
            rintro e w7 ⟨age, a0, a1, rfl, T7, g7⟩
            have HR7 := Lib.hid (HR6.out.past g7 hB0)
            have HM7 := Lib.hid (IMap.kept HM6.out g7 (fun e => by injection e with e; omega))
            have HG7 := Lib.hid (HG6.out.past g7 (Nat.le_refl _))
            have hbl7 : w.heap.size + 2 ≤ w7.heap.size := HM7.out.lt
            have hl1000 : L'.length ≤ 1000 := by have := HLN'.out; omega
            have HEX := Lib.hid (expX_3 HOK'.out HTB.out (tickB_t a0 (by omega : age ≤ 1000000)))
            have hPl := dueL_len L' (now2 - age)
            have hAT := fun i => due_at HOK'.out (t := now2 - age) (i := i)
            have hTW := fun i j => due_two HOK'.out (t := now2 - age) (i := i) (j := j)
            have hNEW := fun i => seenB_new HOK'.out (t := now2 - age) (i := i)
            have hALL := fun x s => due_all (L := L') (t := now2 - age) (x := x) (s := s)
            have hDM : ∀ x s, fndA L' x = some s → 0 ≤ x ∧ x < 8 ∧ 0 ≤ s ∧ s ≤ 1000000 := fun x s h => by
              obtain ⟨k, hk, e⟩ := List.getElem_of_mem (fnd_mem h)
              have := okA_at HOK'.out hk
              rw [dD hk, e] at this
              exact this
            obtain ⟨P, hP⟩ : ∃ P, dueL L' (now2 - age) = P := ⟨_, rfl⟩
            rw [hP] at HEX hPl
            simp only [hP] at hAT hTW hNEW hALL
            have HAT := Lib.hid hAT
            have HTW := Lib.hid hTW
            have HNEW := Lib.hid hNEW
            have HALL := Lib.hid hALL
            have HDM := Lib.hid hDM
            clear hP hAT hTW hNEW hALL hDM g7 T6 HR6 HM6 HG6 hbl6
            go_wp2_with fail
            with_reducible refine (expired_p HR7.out hl1000).mono ?_
            rw [HEX.out]
            rintro e w8 ⟨vp, rfl, P8, g8⟩
            have HR8 := Lib.hid (HR7.out.grew g8)
            have HM8 := Lib.hid (IMap.grew HM7.out g8)
            have HG8 := Lib.hid (HG7.out.trans g8)
            have HT8 := Lib.hid (T7.grew g8)
            have HP8 := Lib.hid P8
            have hbl8 : w.heap.size + 2 ≤ w8.heap.size := HM8.out.lt
            have hml8 : w.heap.size + 1 < w8.heap.size := hbl8
            obtain ⟨ap, cp, rfl, -, -⟩ := P8.slice
            obtain ⟨N, hN⟩ : ∃ N, P.length = N := ⟨_, rfl⟩
            have HN := Lib.hid hN
            rw [hN] at HP8 hPl ⊢
            have hN1 : N ≤ 41 := by have := HLN'.out; omega
            have HS8 : Hid (SeenS (w8.alloc (.map #[] 0)) w8.heap.size 0 (seenB P 0)) := Lib.hid ⟨0, (BSet.made w8 Try.prog 3 4).congr (fun x _ => (seenB_0 P x).symm) rfl⟩
            have HG9 := Lib.hid ((Grew.refl w8).alloc (.map #[] 0))
            clear hN P8 g8 T7 HR7 HM7 HG7 hbl7 hPl HEX
            go_wp2_with fail
            go_loopw [20] (fun iv wr => ∃ i : Nat, iv = .int .i64 i ∧ i ≤ N ∧ SeenS wr w8.heap.size i (seenB P i) ∧ Grew w8 wr) (fun iv _ => N - (intOf iv).toNat)
            case atStart => exact ⟨0, rfl, Nat.zero_le _, HS8.out, HG9.out⟩
            case round =>
              obtain ⟨i, rfl, hi, S, G⟩ := hrel
              obtain ⟨wi, rfl⟩ : ∃ wi : World, wi = wr := ⟨_, rfl⟩
              clear HS8 HG9
              by_cases hlt2 : i < N
              · rcases i with _ | m
                · skip
                  rw [show ((0 : Nat) : Int) = 0 from rfl]
                  have hiL : 0 < P.length := by rw [HN.out]; exact hlt2
                  obtain ⟨s, hs, hs2⟩ := HAT.out 0 hiL
                  obtain ⟨x0, x1, s0, s1⟩ := HDM.out _ _ hs
                  have hnew := HNEW.out 0 hiL
                  obtain ⟨g, o, rfl, -, hg, c0⟩ := (HP8.out.grew G).at1f hiL
                  rw [Nat.add_zero] at c0
                  have HSN := Lib.hid (fun y => seenB_next hiL y)
                  generalize P.getD 0 0 = x at *
                  have MW := IMap.grew HM8.out G
                  have hlk := IMap.look_ok MW Try.underlying3 Try.underlying3 Try.underlying41 (zeroI _) (int64 x0 (by omega : x ≤ 1000000))
                  rw [hs] at hlk
                  simp only [Option.getD_some, Option.isSome_some] at hlk
                  obtain ⟨sz, S⟩ := S
                  have hse := BSet.look S Try.underlying3 Try.underlying4 Try.underlying42 (zeroB _) (int64 x0 (by omega : x ≤ 1000000))
                  rw [hnew] at hse
                  obtain ⟨w9, hst, S9, g9⟩ := BSet.store S Try.underlying3 Try.underlying4 Try.underlying42 (show 0 < maxLen by decide) (int64 x0 (by omega : x ≤ 1000000))
                  have HS9 : Hid (SeenS w9 w8.heap.size 1 (seenB P 1)) := Lib.hid ⟨_, S9.congr (fun y _ => HSN.out y) rfl⟩
                  have HG9 := Lib.hid (G.past g9 (Nat.le_refl _))
                  have ns : IntKind.i64.wrap (now2 - s) = now2 - s := IntWalk.i64_in _ (by omega)
                  have t1 : decide (now2 - s < age) = false := decide_eq_false (by omega)
                  have hi0 : (0 : Int) < (N : Int) := by omega
                  clear S S9 g9 G hs hs2 hnew MW hi
                  go_wp2_with fail
                  go_roundw
                  case rel => exact ⟨1, by go_num, by omega, HS9.out, HG9.out⟩
                  case measure => simp [intOf]; omega
                · skip
                  have hiL : m + 1 < P.length := by rw [HN.out]; exact hlt2
                  obtain ⟨s, hs, hs2⟩ := HAT.out (m + 1) hiL
                  obtain ⟨x0, x1, s0, s1⟩ := HDM.out _ _ hs
                  have hnew := HNEW.out (m + 1) hiL
                  obtain ⟨g, o, rfl, -, hg, c0⟩ := (HP8.out.grew G).at1f hiL
                  have HSN := Lib.hid (fun y => seenB_next hiL y)
                  obtain ⟨s', hs', -⟩ := HAT.out m (by omega)
                  obtain ⟨x0', x1', s0', s1'⟩ := HDM.out _ _ hs'
                  have htw := (HTW.out m (m + 1) (Nat.lt_succ_self m) hiL).2
                  rw [hs, hs'] at htw
                  simp only [Option.getD_some] at htw
                  obtain ⟨g', o', e9, -, hg', c0'⟩ := (HP8.out.grew G).at1f (k := m) (by omega)
                  injection e9 with e9
                  injection e9 with e9 e8
                  subst e9 e8
                  generalize P.getD m 0 = x' at *
                  generalize P.getD (m + 1) 0 = x at *
                  have MW := IMap.grew HM8.out G
                  have hlk := IMap.look_ok MW Try.underlying3 Try.underlying3 Try.underlying41 (zeroI _) (int64 x0 (by omega : x ≤ 1000000))
                  rw [hs] at hlk
                  simp only [Option.getD_some, Option.isSome_some] at hlk
                  obtain ⟨sz, S⟩ := S
                  have hse := BSet.look S Try.underlying3 Try.underlying4 Try.underlying42 (zeroB _) (int64 x0 (by omega : x ≤ 1000000))
                  rw [hnew] at hse
                  obtain ⟨w9, hst, S9, g9⟩ := BSet.store S Try.underlying3 Try.underlying4 Try.underlying42 (show m + 1 < maxLen by unfold maxLen; omega) (int64 x0 (by omega : x ≤ 1000000))
                  have hlk2 := IMap.look MW Try.underlying3 Try.underlying3 Try.underlying41 (zeroI _) (int64 x0' (by omega : x' ≤ 1000000))
                  rw [hs'] at hlk2
                  simp only [Option.getD_some] at hlk2
                  have t2 : decide (s < s') = false := decide_eq_false (by omega)
                  have HS9 : Hid (SeenS w9 w8.heap.size (m + 1 + 1) (seenB P (m + 1 + 1))) := Lib.hid ⟨_, S9.congr (fun y _ => HSN.out y) rfl⟩
                  have HG9 := Lib.hid (G.past g9 (Nat.le_refl _))
                  have ns : IntKind.i64.wrap (now2 - s) = now2 - s := IntWalk.i64_in _ (by omega)
                  have t1 : decide (now2 - s < age) = false := decide_eq_false (by omega)
                  have hi0 : (0 : Int) ≤ (m : Int) := by omega
                  have hi1 : (m : Int) < (N : Int) := by omega
                  have hi2 : (0 : Int) ≤ (m : Int) + 1 := by omega
                  have hi3 : (m : Int) + 1 < (N : Int) := by omega
                  clear S S9 g9 G hs hs2 hs' htw hnew MW hi
                  go_wp2_with fail
                  go_roundw
                  case rel => exact ⟨m + 1 + 1, by go_num, by omega, HS9.out, HG9.out⟩
                  case measure => simp [intOf]; omega
              · obtain rfl : i = N := by omega
                obtain ⟨w11, hrg, RG, g11, hz11⟩ := IMap.range (IMap.grew HM8.out G) Try.underlying3 Try.underlying41
                obtain ⟨r, hr⟩ : ∃ r, r = wi.heap.size := ⟨_, rfl⟩
                rw [← hr] at hrg RG
                have HRG := Lib.hid RG
                have HGI := Lib.hid G
                have HG11 := Lib.hid g11
                have HSI := Lib.hid S
                have HRS := Lib.hid hr
                clear RG G g11 hz11 S hr
                go_wp2_with fail
                clear hrg
                go_loopw [] (fun wr => RgI Try.prog 3 3 wr (w.heap.size + 1) r (n + 1) (fndA L') ∧ Grew wi wr) (fun wr => wr.rangeLeft (w.heap.size + 1) r)
                case atStart => exact ⟨HRG.out, HG11.out⟩
                case round =>
                  obtain ⟨RG, G⟩ := hrel
                  obtain ⟨wj, rfl⟩ : ∃ wj : World, wj = wr := ⟨_, rfl⟩
                  rcases RgI.next RG Try.underlying3 Try.underlying3 with hnx | ⟨x, c9, w12, hx9, hgx, hnx, RG2, g12, hen, hms, -⟩
                  · have HRG2 := Lib.hid RG
                    have HG2 := Lib.hid (HGI.out.trans G)
                    clear RG G
                    go_wp2_with fail
                    go_roundw
                    case rel => exact ⟨v5, L', now2, n + 1, rfl, rfl, by go_num, by omega, hn20, by omega, HLN'.out, HOK'.out, HLS'.out, HR8.out.grew HG2.out, RgI.owns HRG2.out, HT8.out.grew HG2.out, HG8.out.trans HG2.out⟩
                    case measure => simp [intOf]; omega
                  · have HRG2 := Lib.hid RG2
                    have HG2 := Lib.hid (G.past g12 (by rw [← HRS.out]; exact Nat.le_refl _))
                    obtain ⟨-, -, s0, s1⟩ := HDM.out _ _ hgx
                    have ns : IntKind.i64.wrap (now2 - c9) = now2 - c9 := IntWalk.i64_in _ (by omega)
                    have HMS := Lib.hid hms
                    obtain ⟨sz, S⟩ := HSI.out
                    have hse := BSet.look (S.grew HG2.out) Try.underlying3 Try.underlying4 Try.underlying42 (zeroB _) hx9
                    by_cases hc : c9 ≤ now2 - age
                    · have t1 : decide (age ≤ now2 - c9) = true := decide_eq_true (by omega)
                      have hin := seenB_all (HALL.out x c9 hgx hc)
                      rw [HN.out] at hin
                      rw [hin] at hse
                      clear hin hgx hx9 RG RG2 G g12 hms S hc
                      go_wp2_with fail
                      go_roundw
                      case rel => exact ⟨HRG2.out, HG2.out⟩
                      case measure => exact HMS.out
                    · have t1 : decide (age ≤ now2 - c9) = false := decide_eq_false (by omega)
                      clear hse hgx hx9 RG RG2 G g12 hms S hc
                      go_wp2_with fail
                      go_roundw
                      case rel => exact ⟨HRG2.out, HG2.out⟩
                      case measure => exact HMS.out
      · go_wp2_with fail
        with_reducible refine (awake_any _).mono ?_
        rintro e w2 ⟨rfl, g2⟩
        have HG2 := Lib.hid (HG1.out.trans g2)
        go_wp2
        go_ret
        exact ⟨rfl, HG2.out⟩
    · obtain rfl : n = 40 := by omega
      rw [show ((40 : Nat) : Int) = 40 from rfl]
      go_wp2_with fail
      with_reducible refine (awake_any _).mono ?_
      rintro e w2 ⟨rfl, g2⟩
      have HG2 := Lib.hid (G.trans g2)
      go_wp2
      go_ret
      exact ⟨rfl, HG2.out⟩

theorem Try.own : ownKnob Try.prog.godebug = none := by kernel_rfl
theorem Try.laidOut : laidOutB Try.prog = true := by kernel_rfl

theorem agingFair_contract (W : World) (base : Nat) (args : Array Value) (H : Type) (enc : TypeId × Value → H) (ds : List (DataW H)) (p : List MemPlace)
    (hval : ∀ (j : Nat) t v, Try.f4.params[j]? = some t → args[j]? = some v → Value.okWide Try.prog W .any base t v)
    (hA : DataW.TrodAll enc Try.prog W 0 (fun _ => true) true Try.f4.params.toList args.toList ds p) :
    (∃ d0, ds = [d0]) ∧ Calls Try.prog 4 args W fun e W' => e = .returned (.bool true) ∧ Below W.heap.size W W' := by
  rw [Try.params4] at hval hA
  obtain ⟨v0, d0, p0, ha, hd, hp, h0⟩ := args_1 hA
  subst ha hd
  obtain ⟨A0, c0, xs0, rfl, hr0, hm0⟩ := open_introw Try.underlying22 Try.underlying3 (by kernel_rfl) (hval 0 _ _ rfl rfl) h0
  exact ⟨⟨_, rfl⟩, (fair_core A0 c0 xs0 W hr0 hm0).mono fun _ _ h => h⟩

set_option maxRecDepth 100000 in
theorem agingFair_lifted (os : Os) (started : os.Started) (H : Type) (enc : TypeId × Value → H) :
    ReturnsInHanded {} Try.checked os 4 .any (Rows.agingFairSpec.pre6 enc Try.prog Try.f4 Rows.agingFairRow.domain false) (Rows.agingFairSpec.post enc Try.prog Try.f4 false true false false) := by
  refine returnsInHanded_of_change (C := Try.checked) Try.own started (by kernel_rfl) Try.func4
    (ChangeSpec.witness6 (enc := enc) (C := Try.checked) false ⟨#[], #[.slice none 0 0], []⟩ 8 (by kernel_rfl) (by kernel_rfl) (by kernel_rfl) (by kernel_rfl)) ?_
  intro W base args ds gs before hval hW _ _
  obtain ⟨p, q, hA, hV, hrest⟩ := id hW
  obtain ⟨⟨d0, rfl⟩, hc⟩ := agingFair_contract W base args H enc ds p hval hA
  obtain ⟨rfl, -⟩ := trodVars_none hV
  refine hc.mono fun e W' ⟨he, hb⟩ => ⟨_, he, ?_⟩
  exact law_close (tb := 4) Try.laidOut (by rw [Try.params4]; decide +kernel) Try.underlying4 rfl rfl hW rfl rfl rfl hb

theorem agingFair_holds : Rows.AgingFairSaid :=
  OpenClaim.holds_of_wide 4 Try.f4 rfl rfl rfl rfl rfl rfl rfl ⟨rfl, rfl, rfl, rfl, rfl⟩ rfl rfl rfl rfl rfl (by kernel_rfl) Try.func4 (by kernel_rfl)
    (of_decide_eq_true (by kernel_rfl)) (by unfold Func.isWrapper; first | (rw [if_pos (by decide +kernel)]; kernel_rfl) | (rw [if_neg (by decide +kernel)]; exact ⟨rfl, rfl⟩))
    (fun os started H enc _ => agingFair_lifted os started H enc)
end Go.Proofs.Ytmdechoajmbhoaa
