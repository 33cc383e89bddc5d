/- LruOldest holds: of frames that were added one after the other, and of which some were touched, the victims are the ones that were not touched, the oldest first. -/
import Derived.Test.YteaofieijginhaaLp12
namespace Go.Proofs.Yteaofieijginhaa
open Go.ChangeShapes Go.WideShapes Go.ChangeAt Go.RowKit Go.Mine

abbrev MpI (w : World) (b n : Nat) (t : Int → Bool) : Prop := ∃ sz, BSet Try.prog 3 4 w b n t sz
theorem MpI.look {w : World} {b n : Nat} {f : Int → Bool} (h : MpI w b n f) {x : Int} (hx : (Lit.int .i64 x).wf = true) : (Instr.lookup 48 (.map (some b)) (.int .i64 x) false).run Try.prog w = .ok (.bool (f x)) w :=
  h.elim fun _ h => BSet.look h Try.underlying3 Try.underlying4 Try.underlying48 (zero_B w) hx
theorem MpI.store {w : World} {b n : Nat} {f : Int → Bool} (h : MpI w b n f) (hn : n < 100000) {x : Int} (hx : (Lit.int .i64 x).wf = true) : ∃ w', (Instr.mapUpdate 48 (.map (some b)) (.int .i64 x) (.bool true)).run Try.prog w = .ok () w' ∧ MpI w' b (n + 1) (fun y => f y || decide (y = x)) ∧ w.grownBy w' (some b) := by
  obtain ⟨sz, h⟩ := h
  obtain ⟨w', h1, h2, h3⟩ := BSet.store h Try.underlying3 Try.underlying4 Try.underlying48 (by unfold maxLen; omega) hx
  exact ⟨w', h1, ⟨_, h2⟩, h3⟩
theorem MpI.grew {w w' : World} {b n : Nat} {f : Int → Bool} (h : MpI w b n f) (g : Grew w w') : MpI w' b n f := h.elim fun sz h => ⟨sz, h.grew g⟩
theorem MpI.kept {w w' : World} {b n : Nat} {f : Int → Bool} {r : Option Nat} (h : MpI w b n f) (g : w.grownBy w' r) (hr : r ≠ some b) : MpI w' b n f := h.elim fun sz h => ⟨sz, h.kept g hr⟩
theorem MpI.lt {w : World} {b n : Nat} {f : Int → Bool} (h : MpI w b n f) : b < w.heap.size := h.elim fun _ h => h.lt
theorem hl_nil : hlB [] = fun _ => false := by funext f; simp [hlB]
/-- The frames 1 to k have been added. -/
def OlA (w : World) (B b sx ct : Nat) (fv : Value) (wr : World) : Prop := ∃ (k : Nat) (a1 : Option Addr) (c1 : Nat) (a2 : Option Addr) (c2 : Nat) (a3 : Option Addr) (c3 : Nat), fv = .int .i64 ((k : Int) + 1) ∧ k ≤ ct ∧
  LrR wr (sx + 1) (.slice a1 0 c1) (.slice a2 k c2) (.slice a3 0 c3) ⟨[], dscL k, []⟩ ∧ Mine.Own wr sx 27 #[.slice a1 0 c1, .slice a2 k c2, .slice a3 0 c3] ∧ Tp B wr b ∧ Grew w wr
/-- Some of them have been touched: t tells which. -/
def OlS (w : World) (B b sx mb ct j : Nat) (wr : World) : Prop := ∃ (r : List Int) (t : Int → Bool) (n : Nat) (a1 : Option Addr) (c1 : Nat) (a2 : Option Addr) (c2 : Nat) (a3 : Option Addr) (c3 : Nat), r.length + j ≤ 7 ∧ n + j ≤ 7 ∧
  (∀ g : Int, 1 ≤ g → g ≤ ct → (g ∈ r ↔ t g = true)) ∧ (∀ f ∈ r, 1 ≤ f ∧ f ≤ (ct : Int)) ∧ AscP r ∧ MpI wr mb n t ∧
  LrR wr (sx + 1) (.slice a1 0 c1) (.slice a2 ct c2) (.slice a3 r.length c3) ⟨[], dscL ct, r⟩ ∧ Far3 mb (.slice a1 0 c1) (.slice a2 ct c2) (.slice a3 r.length c3) ∧ Mine.Own wr sx 27 #[.slice a1 0 c1, .slice a2 ct c2, .slice a3 r.length c3] ∧ Tp B wr b ∧ Grew w wr
theorem old_tou {ct : Nat} {r : List Int} {f : Int} (hc : ct ≤ 64) (hr2 : ∀ g ∈ r, 1 ≤ g ∧ g ≤ (ct : Int)) (ha : AscP r) (f0 : 1 ≤ f) (f1 : f ≤ ct) (hf : ¬f ∈ r) :
    touX ⟨[], dscL ct, r⟩ f = ⟨[], dscL ct, inl r f⟩ ∧ remE ⟨[], dscL ct, r⟩ f = 0 := by
  have he : remE ⟨[], dscL ct, r⟩ f = 0 := remE_ok (dsc_ok hc hr2 ha) (List.mem_append_right _ (dsc_mem.2 ⟨f0, f1⟩))
  refine ⟨?_, he⟩
  unfold touX
  rw [if_pos he, show decide (f ∈ (⟨[], dscL ct, r⟩ : Lr).r) = false from decide_eq_false hf]
set_option maxRecDepth 100000 in
set_option maxHeartbeats 8000000 in
theorem oldest_core (A : Option Addr) (c : Nat) (xs : List Int) (n0 : Int) (w : World) (hr : IntRow w A xs) (hm : xs.length ≤ maxLen) (hn : (Lit.int .i64 n0).wf = true) :
    Calls Try.prog 7 #[.slice A xs.length c, .int .i64 n0] w (RetG (.bool true) w) := by
  have tp := Tp.made hr hm c 25
  have hmm := @run_makeMap Try.prog
  clear hr hn
  generalize hX : xs.length = X at *
  clear hX
  have G0 := (Grew.refl w).alloc (.cells #[.slice A X c, .int .i64 0] 25)
  have G1 := G0.alloc (.cells n3 27)
  have tp1 := tp.alloc (.cells n3 27)
  have O1 := Mine.Own.new2 w (.cells #[.slice A X c, .int .i64 0] 25) 27 n3
  obtain ⟨b, hb⟩ : ∃ b, w.heap.size = b := ⟨_, rfl⟩
  rw [hb] at tp1 O1
  have HB := Lib.hid hb
  clear tp G0
  go_enter Try.func7, Try.ntmps7
  go_upto_region 3 with fail
  try rw [hb]
  clear hb
  generalize World.alloc (World.alloc w _) _ = w1 at *
  go_wp2_with fail
  with_reducible refine (next_x _ _ _ _ (by omega) (by omega) tp1).mono ?_
  rintro e w2 ⟨q, q0, q1, rfl, tp2, g2⟩
  obtain ⟨qn, rfl⟩ := Int.eq_ofNat_of_zero_le q0
  obtain ⟨ct, hct⟩ : ∃ ct, qn + 1 = ct := ⟨_, rfl⟩
  have hwq : IntKind.i64.wrap (1 + (qn : Int)) = (ct : Int) := by rw [show 1 + (qn : Int) = (ct : Int) by omega]; exact IntWalk.i64_in _ (by omega)
  have hc1 : 1 ≤ ct := by omega
  have hc2 : ct ≤ 12 := by omega
  have HO := Lib.hid (O1.past g2 (by omega))
  have HT := Lib.hid tp2
  have HG := Lib.hid (G1.past g2 (by have := HB.out; omega))
  clear O1 tp1 tp2 G1 g2 hct q0 q1
  go_wp2_with fail
  go_loopw [8] (OlA w (b + 1) b (b + 1) ct) (fun fv _ => (13 - intOf fv).toNat)
  case atStart => exact ⟨0, _, _, _, _, _, _, rfl, by omega, ⟨RowE.nil _ _, RowE.nil _ _, RowE.nil _ _⟩, HO.out, HT.out, HG.out⟩
  case round =>
    clear HO HT HG
    obtain ⟨k, a1, c1, a2, c2, a3, c3, rfl, hk, R, X, tp, G⟩ := hrel
    obtain ⟨wo, rfl⟩ : ∃ wo : World, wo = wr := ⟨_, rfl⟩
    have HR := Lib.hid R
    have HG := Lib.hid G
    have HT := Lib.hid tp
    have HX := Lib.hid X
    have hz : b + 2 ≤ wo.heap.size := X.lt
    obtain ⟨x0, x1, x2, x3, x4, x5⟩ := X.three
    clear R G X tp
    by_cases hlt : k < ct
    · obtain ⟨h2, h1⟩ := dsc_add (c := k) (by omega)
      have hsm : SmP ⟨[], dscL k, []⟩ := ⟨by simp, by show (dscL k).length ≤ 1000; rw [dsc_len]; omega, by simp⟩
      have hwf : WfR ⟨[], dscL k, []⟩ := fun y hy => by simp at hy
      have i1 : (k : Int) + 1 ≤ (ct : Int) := by omega
      go_wp2_with fail
      with_reducible refine (add_v _ _ HR.out hsm hwf h1 h2 hz).mono ?_
      rintro e w3 ⟨v1, v2, v3, rfl, RN, g3⟩
      obtain ⟨a5, c5, rfl⟩ := RN.a.len
      obtain ⟨a6, c6, rfl⟩ := RN.i.len
      obtain ⟨a7, c7, rfl⟩ := RN.r.len
      have e6 : (⟨[], dscL (k + 1), []⟩ : Lr).i.length = k + 1 := dsc_len _
      have e5 : (⟨[], dscL (k + 1), []⟩ : Lr).a.length = 0 := rfl
      rw [e5, e6] at RN ⊢
      have X1 := HX.out.grew g3
      have gA := (Grew.refl w3).alloc (.cells #[.slice a5 0 c5, .slice a6 (k + 1) c6, .slice a7 0 c7] 27)
      have X2 := X1.grew gA
      have M := Mine.Own.new w3 27 #[.slice a5 0 c5, .slice a6 (k + 1) c6, .slice a7 0 c7]
      have HRN := Lib.hid (RN.grew gA)
      have HT2 := Lib.hid (HT.out.grew (g3.trans gA))
      have HG2 := Lib.hid ((HG.out.trans g3).trans gA)
      obtain ⟨sm, hsm2⟩ : ∃ sm, w3.heap.size = sm := ⟨_, rfl⟩
      rw [hsm2] at M
      clear h1 h2 hsm hwf e5 e6 RN X1 g3 gA x0 x1 x2 x3 x4 x5
      go_upto_region 10 with fail
      try rw [hsm2]
      clear hsm2
      generalize World.alloc w3 _ = w4 at *
      obtain ⟨x0, x1, x2, x3, x4, x5⟩ := X2.three
      obtain ⟨m0, m1, m2, m3, m4, m5⟩ := M.three
      go_upto_region 6 with fail
      generalize hw : World.setCell _ _ _ = wz
      have HF := Lib.hid (show OlA w (b + 1) b (b + 1) ct (.int .i64 (((k + 1 : Nat) : Int) + 1)) wz from
        ⟨k + 1, _, _, _, _, _, _, rfl, by omega, (HRN.out.far3N hw (by omega)).wider (by omega), X2.store3 hw, HT2.out.far3 hw (Nat.le_refl _), HG2.out.far3 hw (by have := HB.out; omega)⟩)
      clear hw X2 M x0 x1 x2 x3 x4 x5 m0 m1 m2 m3 m4 m5
      go_wp2
      exact ⟨by have := HF.out; rwa [show (((k + 1 : Nat) : Int) + 1) = (k : Int) + 1 + 1 from by omega] at this, by simp [intOf]; omega⟩
    · obtain rfl : k = ct := by omega
      clear x0 x1 x2 x3 x4 x5
      obtain ⟨mb, hmb⟩ : ∃ mb, wo.heap.size = mb := ⟨_, rfl⟩
      have gm := (Grew.refl wo).alloc (.map #[] 0)
      have M0 : MpI (wo.alloc (.map #[] 0)) mb 0 (fun _ => false) := ⟨0, hmb ▸ BSet.made wo Try.prog 3 4⟩
      have F0 := Far3.of_lt HR.out (Nat.le_of_eq hmb)
      have HR1 := Lib.hid (HR.out.grew gm)
      have HX1 := Lib.hid (HX.out.grew gm)
      have HT1 := Lib.hid (HT.out.grew gm)
      have HG1 := Lib.hid (HG.out.trans gm)
      have hmz : mb < (wo.alloc (.map #[] 0)).heap.size := M0.lt
      have hbm : b + 2 ≤ mb := by omega
      have i1 : (k : Int) < (k : Int) + 1 := by omega
      clear HR HX HT HG gm
      go_upto_region 12 with fail
      try rw [hmb]
      clear hmb hmm
      generalize World.alloc wo _ = w5 at *
      go_wp2_with fail
      with_reducible refine (next_x _ _ _ _ (by omega) (by omega) HT1.out).mono ?_
      rintro e w6 ⟨p, p0, p1, rfl, tp6, g6⟩
      obtain ⟨j0, rfl⟩ := Int.eq_ofNat_of_zero_le p0
      have HS := Lib.hid (show OlS w (b + 1) b (b + 1) mb k j0 w6 from ⟨[], fun _ => false, 0, _, _, _, _, _, _, by simp; omega, by omega, fun g _ _ => by simp, fun g hg => by simp at hg, List.Pairwise.nil, M0.kept g6 (fun e => by injection e with e; omega),
        HR1.out.past g6 (by omega), F0, HX1.out.past g6 (by omega), tp6, HG1.out.past g6 (by have := HB.out; omega)⟩)
      clear HR1 HX1 HT1 HG1 M0 F0 tp6 g6
      go_wp2_with fail
      go_loopw [12] (fun jv wr => ∃ j : Nat, jv = .int .i64 j ∧ j ≤ 7 ∧ OlS w (b + 1) b (b + 1) mb k j wr) (fun jv _ => (intOf jv).toNat)
      case atStart => exact ⟨j0, rfl, by omega, HS.out⟩
      case round =>
        clear HS
        obtain ⟨j, rfl, hj, r, t, n, a1, c1, a2, c2, a3, c3, hrj, hnj, hrt, hr2, ha, M, R, F, X, tp, G⟩ := hrel
        obtain ⟨wi, rfl⟩ : ∃ wi : World, wi = wr := ⟨_, rfl⟩
        have HR := Lib.hid R
        have HM := Lib.hid M
        have HF := Lib.hid F
        have HX := Lib.hid X
        have HT := Lib.hid tp
        have HG := Lib.hid G
        have HRT := Lib.hid hrt
        have HR2 := Lib.hid hr2
        have HA := Lib.hid ha
        obtain ⟨rl, hrl⟩ : ∃ rl, r.length = rl := ⟨_, rfl⟩
        have HRL := Lib.hid hrl
        have hrj2 : rl + j ≤ 7 := by omega
        have hxz : b + 1 < wi.heap.size := X.lt
        rw [hrl] at HR HF HX
        have hct64 : k ≤ 64 := by omega
        clear R M F X tp G hrt hr2 ha hrl hrj
        by_cases hj0 : 0 < j
        · have i0 : (0 : Int) < (j : Int) := by omega
          have c0 : 1 ≤ (k : Int) := by omega
          have c1' : (k : Int) ≤ 1000000 := by omega
          go_wp2_with fail
          with_reducible refine (next_x _ _ _ _ c0 c1' HT.out).mono ?_
          rintro e w7 ⟨f0, f1, f2, rfl, tp7, g7⟩
          obtain ⟨f, hf⟩ : ∃ f, 1 + f0 = f := ⟨_, rfl⟩
          have hwf0 : IntKind.i64.wrap (1 + f0) = f := by rw [hf]; exact IntWalk.i64_in _ (by omega)
          have hf1 : 1 ≤ f := by omega
          have hf2 : f ≤ (k : Int) := by omega
          have hwy : (Lit.int .i64 f).wf = true := WalkArith.wf_i64 (by omega)
          have HR7 := Lib.hid (HR.out.past g7 (by omega))
          have HM7 := Lib.hid (HM.out.kept g7 (fun e => by injection e with e; omega))
          have HX7 := Lib.hid (HX.out.past g7 (by omega))
          have HT7 := Lib.hid tp7
          have HG7 := Lib.hid (HG.out.past g7 (by have := HB.out; omega))
          have hz7 := g7.size
          have hlk := HM7.out.look hwy
          clear HR HM HX HT HG tp7 g7 hf f1 f2
          cases hft : t f
          · rw [hft] at hlk
            have hnr : ¬f ∈ r := fun h => by have := (HRT.out f hf1 hf2).1 h; rw [hft] at this; cases this
            obtain ⟨ht1, ht2⟩ := old_tou hct64 HR2.out HA.out hf1 hf2 hnr
            have HASC := Lib.hid (asc_inl HA.out hnr)
            obtain ⟨w8, hup, M8, g8⟩ := HM7.out.store (by omega) hwy
            have HM8 := Lib.hid M8
            have HR8 := Lib.hid (LrR.keptG HR7.out g8 HF.out)
            have HX8 := Lib.hid (HX7.out.past g8 (by omega))
            have HT8 := Lib.hid (HT7.out.keptA g8 (B := mb) (fun x e => by injection e with e; omega) (by omega))
            have HG8 := Lib.hid (HG7.out.past g8 (by have := HB.out; omega))
            have hz8 : b + 2 ≤ w8.heap.size := by have := g8.size; omega
            have hmb8 : mb < w8.heap.size := M8.lt
            have hsm : SmP ⟨[], dscL k, r⟩ := ⟨by simp, by show (dscL k).length ≤ 1000; rw [dsc_len]; omega, by show r.length ≤ 1000; rw [HRL.out]; omega⟩
            have hwf : WfR ⟨[], dscL k, r⟩ := fun y hy => by have := HR2.out y hy; exact WalkArith.wf_i64 (by omega)
            obtain ⟨x0, x1, x2, x3, x4, x5⟩ := HX8.out.three
            have hil := inl_len r f
            rw [HRL.out] at hil
            clear hft M8 g8 HR7 HM7 HX7 HT7 HG7
            go_wp2_with fail
            with_reducible refine (tou_v f HR8.out hsm hwf ht1 ht2 (Nat.le_refl _)).mono ?_
            rintro e w9 ⟨v1, v2, v3, rfl, RN, g9⟩
            obtain ⟨a5, c5, rfl⟩ := RN.a.len
            obtain ⟨a6, c6, rfl⟩ := RN.i.len
            obtain ⟨a7, c7, rfl⟩ := RN.r.len
            have e6 : (⟨[], dscL k, inl r f⟩ : Lr).i.length = k := dsc_len _
            have e5 : (⟨[], dscL k, inl r f⟩ : Lr).a.length = 0 := rfl
            have e7 : (⟨[], dscL k, inl r f⟩ : Lr).r.length = rl + 1 := hil
            rw [e5, e6, e7] at RN ⊢
            have gA := (Grew.refl w9).alloc (.cells #[.slice a5 0 c5, .slice a6 k c6, .slice a7 (rl + 1) c7] 27)
            have X2 := HX8.out.grew (g9.trans gA)
            have MO := Mine.Own.new w9 27 #[.slice a5 0 c5, .slice a6 k c6, .slice a7 (rl + 1) c7]
            have HRN := Lib.hid (RN.grew gA)
            have HM9 := Lib.hid (HM8.out.grew (g9.trans gA))
            have HT9 := Lib.hid (HT8.out.grew (g9.trans gA))
            have HG9 := Lib.hid (HG8.out.trans (g9.trans gA))
            have HFN := Lib.hid (RN.farB hmb8)
            obtain ⟨sm, hsm2⟩ : ∃ sm, w9.heap.size = sm := ⟨_, rfl⟩
            rw [hsm2] at MO
            have hb1 : b + 1 < w8.heap.size := by omega
            have hb2 : b + 1 + 1 ≤ w8.heap.size := by omega
            clear ht1 ht2 hsm hwf e5 e6 e7 RN g9 gA x0 x1 x2 x3 x4 x5 HR8 HM8 HX8 HT8 HG8
            go_upto_region 21 with fail
            try rw [hsm2]
            clear hsm2
            generalize World.alloc w9 _ = w10 at *
            obtain ⟨x0, x1, x2, x3, x4, x5⟩ := X2.three
            obtain ⟨m0, m1, m2, m3, m4, m5⟩ := MO.three
            go_upto_region 14 with fail
            generalize hw : World.setCell _ _ _ = wz
            have GW : w10.grownBy wz (some (b + 1)) := by
              rw [← hw]
              exact grown_set (p := ⟨b + 1, 2, none⟩) (grown_set (p := ⟨b + 1, 1, none⟩) (grown_set (p := ⟨b + 1, 0, none⟩) (grown_refl _ _) (.inl rfl) _) (.inl rfl) _) (.inl rfl) _
            have HST := Lib.hid (show OlS w (b + 1) b (b + 1) mb k (j - 1) wz from ⟨inl r f, _, n + 1, a5, c5, a6, c6, a7, c7, by rw [inl_len, HRL.out]; omega, by omega,
              fun g g0 g1 => by rw [mem_inl, Bool.or_eq_true, decide_eq_true_iff, HRT.out g g0 g1, or_comm],
              fun g hg => (mem_inl.1 hg).elim (fun e => e ▸ ⟨hf1, hf2⟩) (HR2.out g), HASC.out, HM9.out.kept GW (fun e => by injection e with e; omega),
              by rw [hil]; exact (HRN.out.far3N hw hb1).wider hb2, by rw [hil]; exact HFN.out, by rw [hil]; exact X2.store3 hw, HT9.out.far3 hw (Nat.le_refl _), HG9.out.far3 hw (by have := HB.out; omega)⟩)
            clear hw GW X2 MO HRN HFN x0 x1 x2 x3 x4 x5 m0 m1 m2 m3 m4 m5
            go_wp2
            exact ⟨⟨j - 1, by go_num, by omega, HST.out⟩, by simp [intOf]; omega⟩
          · rw [hft] at hlk
            have HST := Lib.hid (show OlS w (b + 1) b (b + 1) mb k (j - 1) w7 from ⟨r, t, n, a1, c1, a2, c2, a3, c3, by rw [HRL.out]; omega, by omega, HRT.out, HR2.out, HA.out, HM7.out, by rw [HRL.out]; exact HR7.out, by rw [HRL.out]; exact HF.out, by rw [HRL.out]; exact HX7.out, HT7.out, HG7.out⟩)
            clear hft
            go_wp2
            exact ⟨⟨j - 1, by go_num, by omega, HST.out⟩, by simp [intOf]; omega⟩
        · obtain rfl : j = 0 := by omega
          rw [show ((0 : Nat) : Int) = 0 from rfl]
          have hcl := cut_lt n0 14 (by omega)
          obtain ⟨kc, hkc⟩ : ∃ kc, cut n0 14 = kc := ⟨_, rfl⟩
          rw [hkc] at hcl
          have HKC := Lib.hid hkc
          have hkc0 : 0 ≤ kc := hcl.1
          have hkc1 : kc < 14 := hcl.2
          clear hcl hkc
          go_wp2_with fail
          with_reducible refine (cut_any _ _ _ (by omega) (by omega)).mono ?_
          rintro e w7 ⟨rfl, rfl⟩
          rw [HKC.out]
          obtain ⟨ms, hms⟩ : ∃ ms, 1 + kc = ms := ⟨_, rfl⟩
          have hwk : IntKind.i64.wrap (1 + kc) = ms := by rw [hms]; exact IntWalk.i64_in _ (by omega)
          have hm1 : 1 ≤ ms := by omega
          have hm2 : ms ≤ 14 := by omega
          clear hms
          obtain ⟨z, hz⟩ : ∃ z, scnF ⟨[], dscL k, r⟩ ms (hlB []) = z := ⟨_, rfl⟩
          obtain ⟨y, V⟩ := z
          have hV := oldest hct64 hm1 HRT.out HR2.out HA.out
          rw [← hl_nil, hz] at hV
          have HV : Hid (V = wntL t ms k) := Lib.hid hV
          have HZ := Lib.hid hz
          have hwf : WfR ⟨[], dscL k, r⟩ := fun y hy => by have := HR2.out y hy; exact WalkArith.wf_i64 (by omega)
          have hq1 : (⟨[], dscL k, r⟩ : Lr).a.length ≤ 1000 := by simp
          have hq2 : (⟨[], dscL k, r⟩ : Lr).i.length ≤ 400 := by show (dscL k).length ≤ 400; rw [dsc_len]; omega
          have hq3 : (⟨[], dscL k, r⟩ : Lr).r.length ≤ 1000 := by show r.length ≤ 1000; rw [HRL.out]; omega
          have hnl : ([] : List Int).length ≤ 1000 := by simp
          have hnw : ∀ y ∈ ([] : List Int), (Lit.int .i64 y).wf = true := by simp
          have HQ : Hid (RwI wi 0 (.slice none 0 0) []) := Lib.hid (RowE.nil _ _)
          obtain ⟨x0, x1, x2, x3, x4, x5⟩ := HX.out.three
          clear hV hz
          have hz2 : b + 2 ≤ wi.heap.size := by omega
          go_wp2_with fail
          with_reducible refine (scn_v ms _ HR.out HQ.out hq1 hq2 hq3 hnl hwf hnw HZ.out hz2).mono ?_
          rintro e w8 ⟨u1, u2, u3, uv, rfl, RN, RV, g8⟩
          obtain ⟨a5, c5, rfl⟩ := RN.a.len
          obtain ⟨a6, c6, rfl⟩ := RN.i.len
          obtain ⟨a7, c7, rfl⟩ := RN.r.len
          obtain ⟨av, cv, rfl⟩ := RV.len
          obtain ⟨l5, hl5⟩ : ∃ n, y.a.length = n := ⟨_, rfl⟩
          obtain ⟨l6, hl6⟩ : ∃ n, y.i.length = n := ⟨_, rfl⟩
          obtain ⟨l7, hl7⟩ : ∃ n, y.r.length = n := ⟨_, rfl⟩
          rw [hl5, hl6, hl7]
          have gb := g8.trans ((Grew.refl w8).alloc (.cells #[.slice a5 l5 c5, .slice a6 l6 c6, .slice a7 l7 c7] 27))
          have HM9 := Lib.hid (HM.out.grew gb)
          have HG9 := Lib.hid (HG.out.trans gb)
          have HV9 := Lib.hid (RV.grew ((Grew.refl w8).alloc (.cells #[.slice a5 l5 c5, .slice a6 l6 c6, .slice a7 l7 c7] 27)))
          clear hl5 hl6 hl7 gb g8 RN RV HR HX HT HG HM HF HQ hq1 hq2 hq3 hnl hnw hwf x0 x1 x2 x3 x4 x5
          have hVle : V.length ≤ 100000 := by rw [HV.out]; have := wnt_len t ms k; omega
          go_upto_region 24 with fail
          generalize World.alloc w8 _ = w9 at *
          go_wp2_with fail
          go_loopw [19, 20] (fun uw iv wr => ∃ (m : Nat) (u : Value), u = uw ∧ iv = .int .i64 ((m : Int) + 1) ∧ m ≤ k ∧ RwI wr w9.heap.size u (wntL t ms m) ∧ Grew w9 wr) (fun _ iv _ => (14 - intOf iv).toNat)
          case atStart => exact ⟨0, _, rfl, rfl, by omega, RowE.nil _ _, Grew.refl _⟩
          case round =>
            obtain ⟨m, u, rfl, rfl, hm, RU, G⟩ := hrel
            obtain ⟨wk, rfl⟩ : ∃ wk : World, wk = wr := ⟨_, rfl⟩
            have hwl := wnt_len t ms m
            obtain ⟨au, cu, rfl⟩ := RU.len
            by_cases hlt : m < k
            · have i1' : (m : Int) + 1 ≤ (k : Int) := by omega
              by_cases hln : ((wntL t ms m).length : Int) < ms
              · have hwy : (Lit.int .i64 ((m : Int) + 1)).wf = true := WalkArith.wf_i64 (by omega)
                have HMk := HM9.out.grew G
                have hlk := HMk.look hwy
                have hst : wntL t ms (m + 1) = if ((wntL t ms m).length : Int) < ms ∧ t ((m : Int) + 1) = false then wntL t ms m ++ [(m : Int) + 1] else wntL t ms m := rfl
                have HG := Lib.hid G
                have HL := Lib.hid (show (wntL t ms m).length < 1000000 by omega)
                have hws : w9.heap.size ≤ wk.heap.size := G.size
                cases htm : t ((m : Int) + 1)
                · rw [htm] at hlk
                  rw [if_pos ⟨hln, htm⟩] at hst
                  have HST := Lib.hid hst
                  have HRU := Lib.hid RU
                  obtain ⟨L, hL⟩ : ∃ L, wntL t ms m = L := ⟨_, rfl⟩
                  rw [hL] at HRU HL HST hln ⊢
                  have HA := Lib.hid (fun (x : Nat) (e : (Value.slice au L.length cu).ownBlock = some x) => HRU.out.above x e)
                  clear hst htm RU G hL hwl HMk hwy
                  go_wp2_with (at_builtin; go_loud (refine wpList_append_row _ rfl (.tmp 90) (.tmp 92) 22 rfl w9.heap.size info_I und_I (by decide) (by decide) enc1_len (.slice au L.length cu) L rfl (HRU.out.alloc _) _ _ ((m : Int) + 1) rfl (Mine.Own.new _ _ _) enc1_one HL.out (by decide) (by simp; omega) ?_; intro g3 cap w3 R3 G3 o3))
                  exact ⟨⟨m + 1, _, rfl, by go_num, by omega, by rw [HST.out]; exact R3, (HG.out.alloc _).keptA G3 (fun x e => HA.out x e) (Nat.le_refl _)⟩, by simp [intOf]; omega⟩
                · rw [htm] at hlk
                  rw [if_neg (fun h => by rw [htm] at h; exact absurd h.2 (by simp))] at hst
                  have HST := Lib.hid hst
                  have HRU := Lib.hid RU
                  obtain ⟨L, hL⟩ : ∃ L, wntL t ms m = L := ⟨_, rfl⟩
                  rw [hL] at HRU HST hln ⊢
                  clear hst htm RU G hL hwl HMk hwy HL
                  go_wp2
                  exact ⟨⟨m + 1, _, rfl, by go_num, by omega, by rw [HST.out]; exact HRU.out, HG.out⟩, by simp [intOf]; omega⟩
              · have hse := wnt_stop hln k hm
                have HVV := Lib.hid (HV9.out.grew G)
                have HUU := Lib.hid (show RwI wk w9.heap.size (.slice au (wntL t ms m).length cu) V from by rw [HV.out, hse]; exact RU)
                have HGG := Lib.hid (HG9.out.trans G)
                have hVL : V.length ≤ 100000 := hVle
                obtain ⟨ll, hll⟩ : ∃ ll, (wntL t ms m).length = ll := ⟨_, rfl⟩
                rw [hll] at hln HUU ⊢
                clear hse RU G hwl hll
                go_wp2_with fail
                with_reducible refine (same_ints _ _ _ HVV.out HUU.out hVL).mono ?_
                rintro e w20 ⟨rfl, g20⟩
                go_wp2_with fail
                with_reducible refine (awake_any _).mono ?_
                rintro e w21 ⟨rfl, g21⟩
                go_wp2
                go_ret
                exact ⟨rfl, HGG.out.trans (g20.trans g21)⟩
            · obtain rfl : m = k := by omega
              have HVV := Lib.hid (HV9.out.grew G)
              have HUU := Lib.hid (show RwI wk w9.heap.size (.slice au (wntL t ms m).length cu) V from by rw [HV.out]; exact RU)
              have HGG := Lib.hid (HG9.out.trans G)
              have hVL : V.length ≤ 100000 := hVle
              obtain ⟨ll, hll⟩ : ∃ ll, (wntL t ms m).length = ll := ⟨_, rfl⟩
              rw [hll] at HUU ⊢
              have i1' : ¬(m : Int) + 1 ≤ (m : Int) := by omega
              clear RU G hwl hll
              go_wp2_with fail
              with_reducible refine (same_ints _ _ _ HVV.out HUU.out hVL).mono ?_
              rintro e w20 ⟨rfl, g20⟩
              go_wp2_with fail
              with_reducible refine (awake_any _).mono ?_
              rintro e w21 ⟨rfl, g21⟩
              go_wp2
              go_ret
              exact ⟨rfl, HGG.out.trans (g20.trans g21)⟩

theorem Try.own : ownKnob Try.prog.godebug = none := by kernel_rfl
theorem Try.laidOut : laidOutB Try.prog = true := by kernel_rfl

theorem lruOldest_contract (W : World) (base : Nat) (args : Array Value) (H : Type) (enc : TypeId × Value → H) (ds : List (DataW H)) (p : List MemPlace)
    (hval : ∀ (j : Nat) t v, Try.f7.params[j]? = some t → args[j]? = some v → Value.okWide Try.prog W .any base t v)
    (hA : DataW.TrodAll enc Try.prog W 0 (fun _ => true) true Try.f7.params.toList args.toList ds p) :
    (∃ d0 d1, ds = [d0, d1]) ∧ Calls Try.prog 7 args W fun e W' => e = .returned (.bool true) ∧ Below W.heap.size W W' := by
  rw [Try.params7] at hval hA
  obtain ⟨v0, v1, d0, d1, p0, p1, ha, hd, hp, h0, h1⟩ := args_2 hA
  subst ha hd
  obtain ⟨A0, c0, xs0, rfl, hr0, hm0⟩ := open_introw Try.underlying22 Try.underlying3 (by kernel_rfl) (hval 0 _ _ rfl rfl) h0
  obtain ⟨n1, rfl, -, -, hw1⟩ := open_int Try.underlying3 (hval 1 _ _ rfl rfl) h1
  exact ⟨⟨_, _, rfl⟩, (oldest_core A0 c0 xs0 n1 W hr0 hm0 hw1).mono fun _ _ h => h⟩

set_option maxRecDepth 100000 in
theorem lruOldest_lifted (os : Os) (started : os.Started) (H : Type) (enc : TypeId × Value → H) :
    ReturnsInHanded {} Try.checked os 7 .any (Rows.lruOldestSpec.pre6 enc Try.prog Try.f7 Rows.lruOldestRow.domain false) (Rows.lruOldestSpec.post enc Try.prog Try.f7 false true false false) := by
  refine returnsInHanded_of_change (C := Try.checked) Try.own started (by kernel_rfl) Try.func7
    (ChangeSpec.witness6 (enc := enc) (C := Try.checked) false ⟨#[], #[.slice none 0 0, .int .i64 0], []⟩ 8 (by kernel_rfl) (by kernel_rfl) (by kernel_rfl) (by kernel_rfl)) ?_
  intro W base args ds gs before hval hW _ _
  obtain ⟨p, q, hA, hV, hrest⟩ := id hW
  obtain ⟨⟨d0, d1, rfl⟩, hc⟩ := lruOldest_contract W base args H enc ds p hval hA
  obtain ⟨rfl, -⟩ := trodVars_none hV
  refine hc.mono fun e W' ⟨he, hb⟩ => ⟨_, he, ?_⟩
  exact law_close (tb := 4) Try.laidOut (by rw [Try.params7]; decide +kernel) Try.underlying4 rfl rfl hW rfl rfl rfl hb

theorem lruOldest_holds : Rows.LruOldestSaid :=
  OpenClaim.holds_of_wide 7 Try.f7 rfl rfl rfl rfl rfl rfl rfl ⟨rfl, rfl, rfl, rfl, rfl⟩ rfl rfl rfl rfl rfl (by kernel_rfl) Try.func7 (by kernel_rfl)
    (of_decide_eq_true (by kernel_rfl)) (by unfold Func.isWrapper; first | (rw [if_pos (by decide +kernel)]; kernel_rfl) | (rw [if_neg (by decide +kernel)]; exact ⟨rfl, rfl⟩))
    (fun os started H enc _ => lruOldest_lifted os started H enc)
end Go.Proofs.Yteaofieijginhaa
