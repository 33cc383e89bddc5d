/- LayoutCovers holds: the spans of pages have just the sectors of these pages, each once, and dividing spans leaves their sectors in order. -/
import Derived.Test.YtfoeemibhkkbgaaCoverMath
import Derived.Test.YtfoeemibhkkbgaaMapSet
import Derived.Test.YtfoeemibhkkbgaaMadeInts
import Derived.Test.YtfoeemibhkkbgaaAwake4
import Derived.Deep.QuietTactic
import Derived.BigQuiet
import Derived.IntWalk
namespace Go.Proofs.Ytfoeemibhkkbgaa
attribute [local go_sem ↓] Go.wp_at_zero Go.wp_at_succ
open Go.ChangeShapes Go.WideShapes Go.ChangeAt Go.RowKit Go.Mine

theorem zeroE (w : World) : (zeroValue 4).run Try.prog w = .ok (.bool false) w := by kernel_rfl
/-- Block B is the set of the numbers of l. -/
def Want (w : World) (B : Nat) (l : List Int) : Prop := BSet Try.prog 3 4 w B l.length (fL l) (cntN 128 (fL l))
section
variable {w w' : World} {B : Nat} {l : List Int}
theorem Want.look (h : Want w B l) {x : Int} (hx : (Lit.int .i64 x).wf = true) : (Instr.lookup 41 (.map (some B)) (.int .i64 x) false).run Try.prog w = .ok (.bool (fL l x)) w :=
  BSet.look h Try.underlying3 Try.underlying4 Try.underlying41 (zeroE w) hx
theorem Want.len (h : Want w B l) (ty : TypeId) : (Builtin.len_ #[41] ty #[.map (some B)]).run Try.prog w = .ok (.int .i64 (cntN 128 (fL l))) w := BSet.len h Try.underlying41 ty
theorem Want.next (h : Want w B l) (hm : l.length ≤ 1000) {x : Int} (h0 : 0 ≤ x) (h1 : x < 128) : ∃ w', (Instr.mapUpdate 41 (.map (some B)) (.int .i64 x) (.bool true)).run Try.prog w = .ok () w' ∧ Want w' B (l ++ [x]) ∧ w.grownBy w' (some B) := by
  obtain ⟨w', e1, e2, e3⟩ := BSet.store h Try.underlying3 Try.underlying4 Try.underlying41 (by unfold maxLen; omega) (x := x) (WalkArith.wf_i64 (by omega))
  refine ⟨w', e1, ?_, e3⟩
  unfold Want
  rw [List.length_append, List.length_singleton]
  refine e2.congr (fun y _ => (fL_snoc l x y).symm) ?_
  rw [cntN_congr (fL_snoc l x) 128, cntN_put]
  by_cases hf : fL l x = true
  · rw [if_pos hf, if_neg (by simp [hf]), Nat.add_zero]
  · have hf2 : fL l x = false := by simpa using hf
    rw [if_neg hf, if_pos ⟨⟨h0, h1⟩, hf2⟩]
theorem Want.grew (h : Want w B l) (g : Grew w w') : Want w' B l := BSet.grew h g
theorem Want.kept {r : Option Nat} (h : Want w B l) (g : w.grownBy w' r) (hr : r ≠ some B) : Want w' B l := BSet.kept h g hr
theorem Want.alloc (h : Want w B l) (o : Obj) : Want (w.alloc o) B l := BSet.alloc h o
theorem Want.congr {m : List Int} (h : Want w B l) (e : ∀ x, fL l x = fL m x) (hl : l.length ≤ 1000) : BSet Try.prog 3 4 w B 1000 (fL m) (cntN 128 (fL m)) := (BSet.mono h hl).congr (fun x _ => e x) (cntN_congr e 128)
end

set_option maxRecDepth 100000 in
set_option maxHeartbeats 16000000 in
theorem covers_core (A : Option Addr) (c : Nat) (xs : List Int) (w : World) (hr : IntRow w A xs) (hm : xs.length ≤ maxLen) :
    Calls Try.prog 6 #[.slice A xs.length c] w (RetG (.bool true) w) := by
  have hmm := @run_makeMap Try.prog
  have HMM := Lib.hid hmm
  have tp := Tp.made hr hm c 25
  have gA := Grew.refl w
  have HR := Lib.hid hr
  clear hr hmm
  generalize hX : xs.length = X at *
  clear hX
  have hbA : w.heap.size ≤ w.heap.size := Nat.le_refl _
  go_enter Try.func6, Try.ntmps6
  go_wp2_with fail
  with_reducible refine (next_x _ _ _ _ (by omega) (by omega) tp).mono ?_
  rintro e w1 ⟨s, s0, s1, rfl, t_w1, g_w1⟩
  have s_w1 : w.grownBy w1 (some (w.heap.size)) := by first | exact g_w1 | exact grown_trans (grown_alloc (grown_refl _ _) _) g_w1 | exact grown_trans (grown_alloc (grown_alloc (grown_refl _ _) _) _) g_w1 | exact grown_trans (grown_drew (grown_refl _ _)) g_w1 | exact grown_trans (grown_drew (grown_alloc (grown_refl _ _) _)) g_w1
  have z_w1 := s_w1.size
  replace gA := gA.past s_w1 hbA
  clear tp
  have tp := t_w1
  have l_tp_w1 := tp.lt
  clear g_w1 s_w1 t_w1
  go_wp2_with fail
  with_reducible refine (ints_x _ _ _ _ _ _ (by omega) (by omega) (by omega) (by omega) (by omega) (by omega) tp (by have := tp.lt; omega)).mono ?_
  rintro e w2 ⟨pv, P, rfl, hP, hPr, RP, tp2, g2⟩
  have hz1 := gA.size
  replace gA := gA.past g2 hbA
  replace RP := RP.wider (show w.heap.size + 1 ≤ w1.heap.size from by have := tp.lt; omega)
  clear tp g2
  have HPr := Lib.hid hPr
  have hl2 := tp2.lt
  clear hPr
  go_wp2_with fail
  with_reducible refine (next_x _ _ _ _ (by omega) (by omega) tp2).mono ?_
  rintro e w3 ⟨q, q0, q1, rfl, tp3, g3⟩
  replace gA := gA.past g3 hbA
  replace RP := RP.past g3 (Nat.lt_succ_self _)
  clear tp2 g3 hl2
  have hl3 := tp3.lt
  have hPl : P.length ≤ 9 := by simpa using hP
  clear hP
  go_wp2_with fail
  obtain ⟨m, hmq⟩ : ∃ m, 2 + q = m := ⟨_, rfl⟩
  have hm0 : 2 ≤ m := by omega
  have hm1 : m ≤ 9 := by omega
  rw [hmq]
  clear hmq q0 q1
  with_reducible refine (runs_any _ _ _ _ _ _ (by omega) (WalkArith.wf_i64 (by omega)) RP).mono ?_
  rintro e w4 ⟨lv, rfl, RL, g4⟩
  replace gA := gA.trans g4
  replace RP := RP.grew g4
  replace tp3 := tp3.grew g4
  replace RL := RL.wider (show w.heap.size + 1 ≤ w3.heap.size from hl3)
  clear g4
  rw [runsL, if_pos ⟨⟨s0, by omega⟩, hm0⟩] at RL
  have hse := runs_secs (xs := P) s0 (by omega) hm0
  have hin : ∀ x ∈ splitL (joinL s P 8) (m / 2 * 2), spB x = true ∧ x.2 ≤ m := fun x hx => by have := split_in (by omega) hx; exact ⟨this.1, by omega⟩
  have hlen : (splitL (joinL s P 8) (m / 2 * 2)).length ≤ 2000 := by
    have h1 := join_len s P 8
    have h2 := split_len (m / 2 * 2) (by omega) (joinL s P 8)
    omega
  generalize splitL (joinL s P 8) (m / 2 * 2) = L at *
  have HLEN := Lib.hid hlen
  clear hlen
  have HSE := Lib.hid hse
  have HIN := Lib.hid hin
  clear hse hin
  have hl4 := tp3.lt
  obtain ⟨B, hB⟩ : ∃ B, w4.heap.size = B := ⟨_, rfl⟩
  have HPk := Lib.hid (fun k e => hB ▸ RP.lt k e)
  have HLk := Lib.hid (fun k e => hB ▸ RL.lt k e)
  have W0 : Want (w4.alloc (.map #[] 0)) w4.heap.size [] := (BSet.made w4 Try.prog 3 4).congr (fun x _ => by simp [fL]) (by decide +kernel)
  have HW0 := Lib.hid W0
  clear W0
  obtain ⟨a, XP, c1, rfl, hXP, hcell⟩ := RP.ints
  have HC := Lib.hid hcell
  have HX := Lib.hid hXP
  have hX9 : XP ≤ 9 := by omega
  have HRP := Lib.hid RP
  have HRL := Lib.hid RL
  have HT := Lib.hid tp3
  have HGA := Lib.hid gA
  clear hcell hXP hPl RP RL tp3 gA
  have hmm := HMM.out
  go_wp2_with fail
  clear hmm HMM
  rw [hB] at HW0
  have HB := Lib.hid hB
  clear hB
  -- the wanted sectors
  go_loopw [9] (fun i wr => ∃ j : Nat, i = .int .i64 j ∧ j ≤ XP ∧ Want wr B (secW s (P.take j)) ∧ Grew w4 wr) (fun i _ => XP - (intOf i).toNat)
  case atStart => exact ⟨0, rfl, by omega, HW0.out, (Grew.refl _).alloc _⟩
  case round =>
    clear HW0
    obtain ⟨j, rfl, hj, M, G⟩ := hrel
    obtain ⟨wo, rfl⟩ : ∃ wo : World, wo = wr := ⟨_, rfl⟩
    have HM := Lib.hid M
    have HG := Lib.hid G
    clear M G
    by_cases hlt : j < XP
    · have dX : decide ((j : Int) < (XP : Int)) = true := decide_eq_true (by omega)
      obtain ⟨g, rfl, hg, -, hx0⟩ := HC.out j hlt
      have hj1 : j < P.length := by rw [← HX.out]; exact hlt
      have tt := take_getD (d := (0 : Int)) P j hj1
      have hpr := HPr.out (P.getD j 0) (by simp [List.getD, hj1])
      generalize P.getD j 0 = p at *
      have TT := Lib.hid (show secW s (P.take (j + 1)) = secW s (P.take j) ++ [pagF s p] ++ [pagF s p + 1] from by rw [tt, secW_snoc])
      obtain ⟨pn, rfl⟩ := Int.eq_ofNat_of_zero_le hpr.1
      have pq := pag_eq (k := pn) s0 (show s ≤ 6 by omega) (by omega)
      have HLW := Lib.hid (show (secW s (P.take j)).length ≤ 200 from by rw [secW_len, List.length_take]; omega)
      obtain ⟨x, hx⟩ : ∃ x, pagF s pn = x := ⟨_, rfl⟩
      rw [hx] at pq TT
      have hx1 : 0 ≤ x := by omega
      have hx2 : x ≤ 126 := by omega
      clear pq tt hpr
      have c0 := (HG.out.cells.1 g j hg).trans hx0
      obtain ⟨y1, hs1, M1, G1⟩ := HM.out.next (x := x) (by have := HLW.out; omega) hx1 (by omega)
      obtain ⟨y2, hs2, M2, G2⟩ := M1.next (x := x + 1) (by have := HLW.out; simp; omega) (by omega) (by omega)
      have c1 : y1.cell? ⟨g, j, none⟩ = some (.int .i64 pn) := (World.cell?_of_block (a := ⟨g, j, none⟩) (G1.block g (Nat.lt_of_lt_of_le hg HG.out.size) (by have := HB.out; intro e; injection e with e; omega))).trans c0
      have HM2 := Lib.hid M2
      have HG2 : Hid (Grew w4 y2) := Lib.hid ((HG.out.past G1 (Nat.le_of_eq HB.out)).past G2 (Nat.le_of_eq HB.out))
      clear hx0 M1 G1 M2 G2
      go_wp2_with fail
      refine wp_loop_rounds 3 ?_
      rw [rounds_succ]
      go_wp2_with (go_at_call 15; (with_reducible refine (page_any _ _ _).mono ?_); rintro e w1 ⟨rfl, rfl⟩)
      rw [rounds_succ]
      go_wp2_with (go_at_call 15; (with_reducible refine (page_any _ _ _).mono ?_); rintro e w1 ⟨rfl, rfl⟩)
      rw [rounds_succ]
      go_wp2_with (go_at_call 15; (with_reducible refine (page_any _ _ _).mono ?_); rintro e w1 ⟨rfl, rfl⟩)
      go_roundw
      case rel => exact ⟨j + 1, by go_num, by omega, by rw [TT.out]; exact HM2.out, HG2.out⟩
      case measure => simp [intOf]; omega
    · have hjX : j = XP := by omega
      subst hjX
      have HM3 : Hid (BSet Try.prog 3 4 wo B 1000 (fL (secP s P 8)) (cntN 128 (fL (secP s P 8)))) := Lib.hid (by
        have h := HM.out
        rw [List.take_of_length_le (by rw [← HX.out]; omega)] at h
        exact h.congr (want_same HPr.out) (by rw [secW_len]; have := HX.out; omega))
      clear HM
      obtain ⟨Q, hQ⟩ : ∃ Q, secP s P 8 = Q := ⟨_, rfl⟩
      have hq1 := secP_lt (xs := P) s0 (show s ≤ 6 by omega) 8 (Nat.le_refl _)
      have hq2 := secP_asc (xs := P) s0 (show s ≤ 6 by omega) 8 (Nat.le_refl _)
      have hq3 := secP_len s P 8
      rw [hQ] at HM3 HSE hq1 hq2 hq3
      have HQ1 := Lib.hid (show ∀ x ∈ Q, 0 ≤ x ∧ x < 128 from fun x hx => by have := hq1 x hx; omega)
      have HQ2 := Lib.hid hq2
      have hq4 : Q.length ≤ 16 := hq3
      have HCN := Lib.hid (cnt_asc hq2 HQ1.out)
      clear hQ hq1 hq2 hq3 HPr
      obtain ⟨la, NL, lc, rfl, hNL, hcl⟩ := HRL.out.pairs
      have HCL := Lib.hid hcl
      have HNL := Lib.hid hNL
      have HDS := HG.out.size
      clear hNL hcl
      have hBo : B < wo.heap.size := HM3.out.lt
      have hNL2 : NL ≤ 2000 := by rw [HNL.out]; exact HLEN.out
      -- all sectors of the spans
      go_wp2_with fail
      go_loopw [11, 12] (fun v i wr => ∃ (k : Nat) (r : Value), r = v ∧ i = .int .i64 k ∧ k ≤ NL ∧ RowE 3 1 enc1 wr (B + 1) r (Q.take (off L k)) ∧ BSet Try.prog 3 4 wr B 1000 (fL Q) (cntN 128 (fL Q)) ∧ Grew w4 wr) (fun _ i _ => NL - (intOf i).toNat)
      case atStart => exact ⟨0, _, rfl, rfl, by omega, by rw [off_zero]; exact RowE.nil _ _, HM3.out, HG.out⟩
      case round =>
        clear HM3 HG HDS hBo
        obtain ⟨k, r, rfl, rfl, hk, R, M, G⟩ := hrel
        obtain ⟨w6, rfl⟩ : ∃ w6 : World, w6 = wr := ⟨_, rfl⟩
        by_cases hlk : k < NL
        · obtain ⟨g, rfl, hg, -, x0, x1⟩ := HCL.out k hlk
          have hk1 : k < L.length := by rw [← HNL.out]; exact hlk
          have dN : decide ((k : Int) < (NL : Int)) = true := decide_eq_true (by omega)
          have hi1 := HIN.out (L.getD k (0, 0)) (by simp [List.getD, hk1])
          have hoff := off_succ L k hk1
          have hat := fun t ht => secs_at L k t hk1 ht
          have hle : off L (k + 1) ≤ Q.length := by
            rw [← HSE.out]
            unfold off
            have e : secs L = secs (L.take (k + 1)) ++ secs (L.drop (k + 1)) := by rw [← secs_app, List.take_append_drop]
            rw [e, List.length_append]
            omega
          rw [HSE.out] at hat
          generalize L.getD k (0, 0) = x at *
          obtain ⟨a, cc⟩ := x
          simp only at x0 x1 hi1 hoff hat
          have hsp : 0 ≤ a ∧ 0 < cc ∧ a + cc ≤ 128 := by have := hi1.1; simp [spB] at this; omega
          have hcm := hi1.2
          obtain ⟨cn, rfl⟩ := Int.eq_ofNat_of_zero_le (show 0 ≤ cc by omega)
          have HAT := Lib.hid hat
          have HOFF := Lib.hid hoff
          obtain ⟨o, ho⟩ : ∃ o, off L k = o := ⟨_, rfl⟩
          rw [ho] at R HAT HOFF
          have hoc : o + cn ≤ 16 := by have := HOFF.out; simp at this; omega
          have HOC := Lib.hid (show o + cn ≤ Q.length from by have := HOFF.out; simp at this; omega)
          have HX0 := Lib.hid x0
          have HX1 := Lib.hid x1
          have HR6 := Lib.hid R
          have HM6 := Lib.hid M
          have HG6 := Lib.hid G
          have y0 := (G.cells.1 g (k * 2) hg).trans x0
          have y1 := (G.cells.1 g (k * 2 + 1) hg).trans x1
          have b1 : decide ((cn : Int) < 1) = false := decide_eq_false (by omega)
          have b2 : decide (m < (cn : Int)) = false := decide_eq_false (by omega)
          clear hat hoff hi1 x0 x1 R M G ho hle
          go_wp2_with fail
          clear y0 y1
          go_loopw [11, 13] (fun v i wr => ∃ (t : Nat) (r : Value), r = v ∧ i = .int .i64 t ∧ t ≤ cn ∧ RowE 3 1 enc1 wr (B + 1) r (Q.take (o + t)) ∧ BSet Try.prog 3 4 wr B 1000 (fL Q) (cntN 128 (fL Q)) ∧ Grew w4 wr) (fun _ i _ => cn - (intOf i).toNat)
          case atStart => exact ⟨0, _, rfl, rfl, by omega, HR6.out, HM6.out, HG6.out⟩
          case round =>
            clear HR6 HM6 HG6
            obtain ⟨t, r, rfl, rfl, ht, R, M, G⟩ := hrel
            have z0 := (G.cells.1 g (k * 2) hg).trans HX0.out
            have z1 := (G.cells.1 g (k * 2 + 1) hg).trans HX1.out
            have HRr := Lib.hid R
            have HMr := Lib.hid M
            have HGr := Lib.hid G
            clear R M G
            by_cases hlt : t < cn
            · have hqx := HAT.out t (by simpa using hlt)
              have hl := HMr.out.look Try.underlying3 Try.underlying4 Try.underlying41 (zeroE wr) (x := a + (t : Int)) (WalkArith.wf_i64 (by omega))
              rw [show fL Q (a + (t : Int)) = true from decide_eq_true (List.mem_of_getElem? hqx)] at hl
              have dt : decide ((t : Int) < 99) = true := decide_eq_true (by omega)
              have hB6 : ∀ u, B + 1 ≤ (wr.alloc u).heap.size := fun u => by have := HMr.out.lt; simp; omega
              have HTQ := Lib.hid (show Q.take (o + t + 1) = Q.take (o + t) ++ [a + (t : Int)] from by
                have hlt3 := (List.getElem?_eq_some_iff.1 hqx).1
                rw [List.take_succ_eq_append_getElem hlt3]
                rw [List.getElem?_eq_getElem hlt3] at hqx
                injection hqx with hqx
                rw [hqx])
              have hl6 : (Q.take (o + t)).length < 1000000 := by rw [List.length_take]; omega
              have HQX := Lib.hid hqx
              clear hqx
              obtain ⟨j, hj⟩ : ∃ j, o + t = j := ⟨_, rfl⟩
              have HJ := Lib.hid hj
              rw [hj] at HRr hl6 HTQ HQX
              clear hj
              cases j with
              | zero =>
                obtain ⟨b, c2, hv⟩ := HRr.out.len
                have hv2 : r = .slice b 0 c2 := hv
                subst hv2
                clear hv
                go_wp2_with (at_builtin; go_loud (refine wpList_append_row _ rfl (.tmp 113) (.tmp 115) 22 rfl (B + 1) info_int Try.underlying22 (by decide) (by decide) enc1_len (.slice b 0 c2) (Q.take 0) rfl (HRr.out.alloc _) _ _ (a + (t : Int)) rfl (Own.new _ _ _) enc1_one hl6 (by decide) (hB6 _) ?_; intro g3 cap w8 R8 G8 o8))
                have hab : ∀ x, Value.ownBlock (.slice b 0 c2) = some x → B + 1 ≤ x := fun x e => HRr.out.above x e
                go_roundw
                case rel => exact ⟨t + 1, _, rfl, by go_num, by omega, by rw [← Nat.add_assoc, HJ.out, HTQ.out]; exact R8, BSet.kept (HMr.out.alloc _) G8 (fun e => by have := hab B e; omega), (HGr.out.alloc _).keptA G8 hab (by have := HB.out; omega)⟩
                case measure => simp [intOf]; omega
              | succ j =>
                have hQj : j + 1 < Q.length := (List.getElem?_eq_some_iff.1 HQX.out).1
                have hlj : (Q.take (j + 1)).length = j + 1 := by rw [List.length_take]; omega
                obtain ⟨b, n, c2, hv, hn, hc3⟩ := HRr.out.ints
                rw [hlj] at hn
                subst hn
                subst hv
                obtain ⟨g3, rfl, hg3, -, hy⟩ := hc3 j (by omega)
                have hgy : (Q.take (j + 1)).getD j 0 = Q[j] := by simp [List.getD, List.getElem?_take, show j < Q.length from by omega]
                rw [hgy] at hy
                have hqx := HQX.out
                rw [List.getElem?_eq_getElem hQj] at hqx
                injection hqx with hqx
                have hasc : Q[j] < Q[j + 1] := (List.pairwise_iff_getElem.1 HQ2.out) j (j + 1) (by omega) hQj (by omega)
                rw [hqx] at hasc
                have hyb := HQ1.out Q[j] (List.getElem_mem _)
                have hj16 : j ≤ 16 := by omega
                generalize Q[j] = y at *
                have dy : decide (a + (t : Int) ≤ y) = false := decide_eq_false (by omega)
                clear hqx hgy hc3 hlj hQj hasc
                have d0 : decide ((0 : Int) < (j : Int) + 1) = true := decide_eq_true (by omega)
                go_wp2_with (at_builtin; go_loud (refine wpList_append_row _ rfl (.tmp 113) (.tmp 115) 22 rfl (B + 1) info_int Try.underlying22 (by decide) (by decide) enc1_len (.slice (some ⟨g3, 0, none⟩) (j + 1) c2) (Q.take (j + 1)) rfl (HRr.out.alloc _) _ _ (a + (t : Int)) rfl (Own.new _ _ _) enc1_one hl6 (by decide) (hB6 _) ?_; intro g4 cap w8 R8 G8 o8))
                have hab : ∀ x, Value.ownBlock (.slice (some ⟨g3, 0, none⟩) (j + 1) c2) = some x → B + 1 ≤ x := fun x e => HRr.out.above x e
                go_roundw
                case rel => exact ⟨t + 1, _, rfl, by go_num, by omega, by rw [← Nat.add_assoc, HJ.out, HTQ.out]; rw [List.length_take] at R8; exact R8, BSet.kept (HMr.out.alloc _) G8 (fun e => by have := hab B e; omega), (HGr.out.alloc _).keptA G8 hab (by have := HB.out; omega)⟩
                case measure => simp [intOf]; omega
            · have htc : t = cn := by omega
              subst htc
              go_wp2_with fail
              go_roundw
              case rel => exact ⟨k + 1, _, rfl, by go_num, by omega, by have := HOFF.out; simp at this; rw [this]; exact HRr.out, HMr.out, HGr.out⟩
              case measure => simp [intOf]; omega
        · have hkN : k = NL := by omega
          subst hkN
          rw [off_end L k (by rw [← HNL.out]; omega), HSE.out, List.take_of_length_le (Nat.le_refl _)] at R
          have HRA := Lib.hid R
          have HMA := Lib.hid M
          have tp6 := HT.out.grew G
          have RL6 := HRL.out.grew G
          have gA6 := HGA.out.trans G
          have hl500 : L.length ≤ 16 := Nat.le_trans (Nat.le_trans (len_secs L fun x hx => (HIN.out x hx).1) (by rw [HSE.out]; omega)) hq4
          have hfit : Fits L := fun x hx => by
            have := (HIN.out x hx).1
            simp [spB] at this
            exact ⟨WalkArith.wf_i64 (by omega), WalkArith.wf_i64 (by omega)⟩
          have HF := Lib.hid hfit
          clear R M G HC HX HCL HR HPk HLk HRP HRL HT HGA hfit
          have hl6 := tp6.lt
          have hBg := HMA.out.lt
          have hBw : w.heap.size < B := by have := HB.out; omega
          go_wp2_with fail
          with_reducible refine (next_x _ _ _ _ (by omega) (by omega) tp6).mono ?_
          rintro e w7 ⟨q2, q20, q21, rfl, tp7, g7⟩
          have RL7 := RL6.past g7 (Nat.lt_succ_self _)
          have RA7 := HRA.out.past g7 (by omega)
          have M7 := BSet.kept HMA.out g7 (fun e => by injection e with e; omega)
          have gA7 := gA6.past g7 hbA
          clear tp7 g7 RL6 gA6 tp6 hl6 HRA HMA
          go_wp2_with fail
          obtain ⟨m2, hm2⟩ : ∃ m2, 1 + q2 = m2 := ⟨_, rfl⟩
          have hm20 : 1 ≤ m2 := by omega
          have hm21 : m2 ≤ 3 := by omega
          rw [hm2]
          clear hm2 q20 q21
          with_reducible refine (split_any _ _ _ _ _ (by omega) HF.out (WalkArith.wf_i64 (by omega)) RL7).mono ?_
          rintro e w8 ⟨kv, rfl, RK, g8⟩
          rw [if_neg (by omega)] at RK
          have RA8 := RA7.grew g8
          have M8 := M7.grew g8
          have gA8 := gA7.trans g8
          have hks : secs (splitL L m2) = Q := (secs_split m2 hm20 L fun x hx => (HIN.out x hx).1).trans HSE.out
          have hkin : ∀ x ∈ splitL L m2, spB x = true := fun x hx => (split_in hm20 hx).1
          generalize splitL L m2 = KL at *
          have HKS := Lib.hid hks
          have HKI := Lib.hid hkin
          clear hks hkin RA7 M7 gA7 RL7 g8
          obtain ⟨ka, NK, kc, rfl, hNK, hck⟩ := RK.pairs
          obtain ⟨ra, NQ, rc, rfl, hNQ, hcq⟩ := RA8.ints
          have HNK := Lib.hid hNK
          have HNQ := Lib.hid hNQ
          have HCK := Lib.hid hck
          have HCQ := Lib.hid hcq
          have hNQ2 : NQ ≤ 16 := by omega
          have hNK2 : NK ≤ 16 := by rw [hNK]; exact Nat.le_trans (len_secs KL HKI.out) (by rw [HKS.out]; omega)
          have HM8 := Lib.hid M8
          have HG8 := Lib.hid gA8
          clear hNK hNQ hck hcq RK RA8 M8 gA8
          -- the parts, sector by sector
          go_wp2_with fail
          go_loopw [16, 17] (fun n i wr => ∃ k : Nat, i = .int .i64 k ∧ n = .int .i64 (off KL k) ∧ k ≤ NK ∧ ∃ d, wr = w8.drewN d) (fun _ i _ => NK - (intOf i).toNat)
          case atStart => exact ⟨0, rfl, by rw [off_zero]; rfl, by omega, 0, rfl⟩
          case round =>
            obtain ⟨k, rfl, rfl, hk, d, rfl⟩ := hrel
            by_cases hlk : k < NK
            · obtain ⟨g, rfl, hg, -, x0, x1⟩ := HCK.out k hlk
              have hk1 : k < KL.length := by rw [← HNK.out]; exact hlk
              have dN : decide ((k : Int) < (NK : Int)) = true := decide_eq_true (by omega)
              have hi1 := HKI.out (KL.getD k (0, 0)) (by simp [List.getD, hk1])
              have hoff := off_succ KL k hk1
              have hat := fun t ht => secs_at KL k t hk1 ht
              have hle : off KL (k + 1) ≤ Q.length := by
                rw [← HKS.out]
                unfold off
                have e : secs KL = secs (KL.take (k + 1)) ++ secs (KL.drop (k + 1)) := by rw [← secs_app, List.take_append_drop]
                rw [e, List.length_append]
                omega
              rw [HKS.out] at hat
              generalize KL.getD k (0, 0) = x at *
              obtain ⟨a, cc⟩ := x
              simp only at x0 x1 hi1 hoff hat
              have hsp : 0 ≤ a ∧ 0 < cc ∧ a + cc ≤ 128 := by have := hi1; simp [spB] at this; omega
              obtain ⟨cn, rfl⟩ := Int.eq_ofNat_of_zero_le (show 0 ≤ cc by omega)
              have HAT := Lib.hid hat
              have HOFF := Lib.hid hoff
              obtain ⟨o, ho⟩ : ∃ o, off KL k = o := ⟨_, rfl⟩
              rw [ho] at HAT HOFF ⊢
              have hoc : o + cn ≤ 16 := by have := HOFF.out; simp at this; omega
              have hoq : o + cn ≤ NQ := by have := HOFF.out; have := HNQ.out; simp at *; omega
              clear hat hoff hi1 hle ho
              go_wp2_with fail
              go_loopw [16, 18] (fun n i wr => ∃ t : Nat, i = .int .i64 t ∧ n = .int .i64 (o + t : Nat) ∧ t ≤ cn ∧ ∃ d, wr = w8.drewN d) (fun _ i _ => cn - (intOf i).toNat)
              case atStart => exact ⟨0, rfl, rfl, by omega, d, rfl⟩
              case round =>
                obtain ⟨t, rfl, rfl, ht, d, rfl⟩ := hrel
                by_cases hlt : t < cn
                · have hqx := HAT.out t (by simpa using hlt)
                  obtain ⟨j, hj⟩ : ∃ j, o + t = j := ⟨_, rfl⟩
                  have HJ := Lib.hid hj
                  have hjq : j < NQ := by omega
                  rw [hj] at hqx ⊢
                  clear hj
                  obtain ⟨g3, rfl, hg3, -, hy⟩ := HCQ.out j hjq
                  rw [show Q.getD j 0 = a + (t : Int) from by simp [List.getD, hqx]] at hy
                  have dt : decide ((t : Int) < 99) = true := decide_eq_true (by omega)
                  have dq : decide ((NQ : Int) ≤ (j : Int)) = false := decide_eq_false (by omega)
                  have k0 : (0 : Int) ≤ (j : Int) := by omega
                  have k1 : (j : Int) < (NQ : Int) := by omega
                  have k2 : (0 : Int) ≤ (k : Int) := by omega
                  have k3 : (k : Int) < (NK : Int) := by omega
                  have hwr : IntKind.i64.wrap (a + (t : Int)) = a + (t : Int) := IntWalk.i64_in _ (by omega)
                  clear hqx
                  go_wp2_with fail
                  go_quiet (fail)
                  clear hwr
                  go_wp2_with fail
                  go_roundw
                  case rel => exact ⟨t + 1, by go_num, by rw [← Nat.add_assoc, HJ.out]; go_num, by omega, _, rfl⟩
                  case measure => simp [intOf]; omega
                · have htc : t = cn := by omega
                  subst htc
                  go_wp2_with fail
                  go_roundw
                  case rel => exact ⟨k + 1, by go_num, by have := HOFF.out; simp at this; rw [this], by omega, _, rfl⟩
                  case measure => simp [intOf]; omega
            · have hkN : k = NK := by omega
              subst hkN
              have ho : off KL k = NQ := by rw [off_end KL k (by rw [← HNK.out]; omega), HKS.out, HNQ.out]
              rw [ho]
              have hcn : cntN 128 (fL Q) = NQ := HCN.out.trans HNQ.out.symm
              have hln : ∀ ty, (Builtin.len_ #[41] ty #[.map (some B)]).run Try.prog (w8.drewN d) = .ok (.int .i64 NQ) (w8.drewN d) := fun ty => by
                have h := BSet.len (HM8.out.drewN d) Try.underlying41 ty
                rwa [hcn] at h
              clear ho hcn
              go_wp2_with fail
              with_reducible refine (awake_any _).mono ?_
              rintro e w9 ⟨rfl, g9⟩
              go_wp2_with fail
              go_ret
              exact ⟨rfl, (HG8.out.drewN d).trans g9⟩

theorem Try.own : ownKnob Try.prog.godebug = none := by kernel_rfl
theorem Try.laidOut : laidOutB Try.prog = true := by kernel_rfl

theorem layoutCovers_contract (W : World) (base : Nat) (args : Array Value) (H : Type) (enc : TypeId × Value → H) (ds : List (DataW H)) (p : List MemPlace)
    (hval : ∀ (j : Nat) t v, Try.f6.params[j]? = some t → args[j]? = some v → Value.okWide Try.prog W .any base t v)
    (hA : DataW.TrodAll enc Try.prog W 0 (fun _ => true) true Try.f6.params.toList args.toList ds p) :
    (∃ d0, ds = [d0]) ∧ Calls Try.prog 6 args W fun e W' => e = .returned (.bool true) ∧ Below W.heap.size W W' := by
  rw [Try.params6] at hval hA
  obtain ⟨v0, d0, p0, ha, hd, hp, h0⟩ := args_1 hA
  subst ha hd
  obtain ⟨A0, c0, xs0, rfl, hr0, hm0⟩ := open_introw Try.underlying22 Try.underlying3 (by kernel_rfl) (hval 0 _ _ rfl rfl) h0
  exact ⟨⟨_, rfl⟩, (covers_core A0 c0 xs0 W hr0 hm0).mono fun _ _ h => h⟩

set_option maxRecDepth 100000 in
theorem layoutCovers_lifted (os : Os) (started : os.Started) (H : Type) (enc : TypeId × Value → H) :
    ReturnsInHanded {} Try.checked os 6 .any (Rows.layoutCoversSpec.pre6 enc Try.prog Try.f6 Rows.layoutCoversRow.domain false) (Rows.layoutCoversSpec.post enc Try.prog Try.f6 false true false false) := by
  refine returnsInHanded_of_change (C := Try.checked) Try.own started (by kernel_rfl) Try.func6
    (ChangeSpec.witness6 (enc := enc) (C := Try.checked) false ⟨#[], #[.slice none 0 0], []⟩ 8 (by kernel_rfl) (by kernel_rfl) (by kernel_rfl) (by kernel_rfl)) ?_
  intro W base args ds gs before hval hW _ _
  obtain ⟨p, q, hA, hV, hrest⟩ := id hW
  obtain ⟨⟨d0, rfl⟩, hc⟩ := layoutCovers_contract W base args H enc ds p hval hA
  obtain ⟨rfl, -⟩ := trodVars_none hV
  refine hc.mono fun e W' ⟨he, hb⟩ => ⟨_, he, ?_⟩
  exact law_close (tb := 4) Try.laidOut (by rw [Try.params6]; decide +kernel) Try.underlying4 rfl rfl hW rfl rfl rfl hb

theorem layoutCovers_holds : Rows.LayoutCoversSaid :=
  OpenClaim.holds_of_wide 6 Try.f6 rfl rfl rfl rfl rfl rfl rfl ⟨rfl, rfl, rfl, rfl, rfl⟩ rfl rfl rfl rfl rfl (by kernel_rfl) Try.func6 (by kernel_rfl)
    (of_decide_eq_true (by kernel_rfl)) (by unfold Func.isWrapper; first | (rw [if_pos (by decide +kernel)]; kernel_rfl) | (rw [if_neg (by decide +kernel)]; exact ⟨rfl, rfl⟩))
    (fun os started H enc _ => layoutCovers_lifted os started H enc)
end Go.Proofs.Ytfoeemibhkkbgaa
