/- Lists of frames (layer 8): the reference's Check: contract. -/
import Derived.Test.YteaofieijginhaaLf2
import Derived.Test.YteaofieijginhaaRowCut
namespace Go.Proofs.Yteaofieijginhaa
open Go.RowKit Go.Mine

/-- The first k frames are right; the first k references are. -/
def c1B (L : List Int) (k : Nat) : Bool := decide ((∀ f ∈ L.take k, 1 ≤ f ∧ f ≤ 64) ∧ (L.take k).Nodup)
def c2B (L R : List Int) (k : Nat) : Bool := decide ((∀ f ∈ R.take k, f ∈ L) ∧ AscP (R.take k))
theorem take_one {L : List Int} {k : Nat} (h : k < L.length) : L.take (k + 1) = L.take k ++ [L.getD k 0] := by
  rw [List.take_add_one, List.getElem?_eq_getElem h, List.getD, List.getElem?_eq_getElem h]; rfl
theorem c1_step {L : List Int} {k : Nat} (h : k < L.length) : c1B L (k + 1) = true ↔ c1B L k = true ∧ (1 ≤ L.getD k 0 ∧ L.getD k 0 ≤ 64) ∧ ¬L.getD k 0 ∈ L.take k := by
  unfold c1B
  rw [take_one h, decide_eq_true_iff, decide_eq_true_iff]
  generalize L.take k = M
  generalize L.getD k 0 = y
  constructor
  · rintro ⟨h1, h2⟩
    rw [List.nodup_append] at h2
    refine ⟨⟨fun f hf => h1 f (List.mem_append_left _ hf), h2.1⟩, h1 y (List.mem_append_right _ (List.mem_singleton.2 rfl)), fun hy => h2.2.2 y hy y (List.mem_singleton.2 rfl) rfl⟩
  · rintro ⟨⟨h1, h2⟩, h3, h4⟩
    refine ⟨fun f hf => ?_, ?_⟩
    · rcases List.mem_append.1 hf with hf | hf
      · exact h1 f hf
      · rw [List.mem_singleton.1 hf]; exact h3
    · rw [List.nodup_append]
      refine ⟨h2, by simp, fun a ha b hb e => ?_⟩
      rw [List.mem_singleton.1 hb] at e
      exact h4 (e ▸ ha)
theorem c2_step {L R : List Int} {k : Nat} (h : k < R.length) : c2B L R (k + 1) = true ↔ c2B L R k = true ∧ R.getD k 0 ∈ L ∧ (k = 0 ∨ R.getD (k - 1) 0 < R.getD k 0) := by
  unfold c2B
  rw [decide_eq_true_iff, decide_eq_true_iff]
  have hAsc : AscP (R.take (k + 1)) ↔ AscP (R.take k) ∧ (k = 0 ∨ R.getD (k - 1) 0 < R.getD k 0) := by
    rw [take_one h]
    unfold AscP
    rw [List.pairwise_append]
    constructor
    · rintro ⟨h1, -, h3⟩
      refine ⟨h1, ?_⟩
      by_cases k0 : k = 0
      · exact .inl k0
      · obtain ⟨j, rfl⟩ : ∃ j, k = j + 1 := ⟨k - 1, by omega⟩
        refine .inr (h3 _ ?_ _ (List.mem_singleton.2 rfl))
        rw [take_one (show j < R.length by omega)]
        exact List.mem_append_right _ (List.mem_singleton.2 rfl)
    · rintro ⟨h1, h2⟩
      refine ⟨h1, by simp, fun a ha b hb => ?_⟩
      rw [List.mem_singleton.1 hb]
      rcases h2 with h2 | h2
      · subst h2; simp at ha
      · by_cases k0 : k = 0
        · subst k0; simp at ha
        obtain ⟨j, rfl⟩ : ∃ j, k = j + 1 := ⟨k - 1, by omega⟩
        rw [take_one (show j < R.length by omega)] at ha h1
        rcases List.mem_append.1 ha with ha | ha
        · have := (List.pairwise_append.1 h1).2.2 a ha _ (List.mem_singleton.2 rfl)
          have e : j + 1 - 1 = j := by omega
          rw [e] at h2
          omega
        · rw [List.mem_singleton.1 ha]; exact h2
  rw [hAsc, take_one h]
  constructor
  · rintro ⟨h1, h2, h3⟩
    exact ⟨⟨fun f hf => h1 f (List.mem_append_left _ hf), h2⟩, h1 _ (List.mem_append_right _ (List.mem_singleton.2 rfl)), h3⟩
  · rintro ⟨⟨h1, h2⟩, h3, h4⟩
    refine ⟨fun f hf => ?_, h2, h4⟩
    rcases List.mem_append.1 hf with hf | hf
    · exact h1 f hf
    · rw [List.mem_singleton.1 hf]; exact h3
theorem c1_mono {L : List Int} {k m : Nat} (hk : k ≤ m) (h : c1B L m = true) : c1B L k = true := by
  unfold c1B at *
  have h := of_decide_eq_true h
  have hs : (L.take k).Sublist (L.take m) := by
    have : (L.take m).take k = L.take k := by rw [List.take_take, Nat.min_eq_left hk]
    rw [← this]; exact List.take_sublist ..
  exact decide_eq_true ⟨fun f hf => h.1 f (hs.subset hf), h.2.sublist hs⟩
theorem c2_mono {L R : List Int} {k m : Nat} (hk : k ≤ m) (h : c2B L R m = true) : c2B L R k = true := by
  unfold c2B at *
  have h := of_decide_eq_true h
  have hs : (R.take k).Sublist (R.take m) := by
    have : (R.take m).take k = R.take k := by rw [List.take_take, Nat.min_eq_left hk]
    rw [← this]; exact List.take_sublist ..
  exact decide_eq_true ⟨fun f hf => h.1 f (hs.subset hf), List.Pairwise.sublist hs h.2⟩
theorem ok_is (x : Lr) : okB x = true ↔ c1B (x.a ++ x.i) (x.a ++ x.i).length = true ∧ c2B (x.a ++ x.i) x.r x.r.length = true := by
  unfold okB c1B c2B
  rw [List.take_length, List.take_length, decide_eq_true_iff, decide_eq_true_iff, decide_eq_true_iff]
  unfold OkP
  constructor
  · rintro ⟨h1, h2, h3, h4⟩; exact ⟨⟨h1, h2⟩, h3, h4⟩
  · rintro ⟨⟨h1, h2⟩, h3, h4⟩; exact ⟨h1, h2, h3, h4⟩
theorem ok_no1 {x : Lr} {k : Nat} (hk : k ≤ (x.a ++ x.i).length) (h : ¬c1B (x.a ++ x.i) k = true) : okB x = false := by
  cases hb : okB x
  · rfl
  · exact absurd (c1_mono hk ((ok_is x).1 hb).1) h
theorem ok_no2 {x : Lr} {k : Nat} (hk : k ≤ x.r.length) (h : ¬c2B (x.a ++ x.i) x.r k = true) : okB x = false := by
  cases hb : okB x
  · rfl
  · exact absurd (c2_mono hk ((ok_is x).1 hb).2) h
theorem at_qv {L : List Int} {B : Nat} (v : Value) (n z : Int) (w : World) (R : RwI w B v L) (hl : L.length ≤ 100000) (h : atI L n = z) : Calls Try.prog 30 #[v, .int .i64 n] w fun e w' => e = .returned (.int .i64 z) ∧ w' = w := h ▸ at_q v n w R hl
/-- What stands behind the list of all. -/
def ChkCut (w : World) (sx B : Nat) (va vi vr : Value) (x : Lr) (v3 : Value) (wx : World) : Prop :=
  ∃ r : Value, r = v3 ∧ RwI wx (sx + 1) r (x.a ++ x.i) ∧ Own wx sx 27 #[va, vi, vr] ∧ LrR wx B va vi vr x ∧ Grew w wx
set_option maxRecDepth 100000 in
set_option maxHeartbeats 4000000 in
theorem check_any {B : Nat} (va vi vr : Value) (x : Lr) (w : World) (R : LrR w B va vi vr x) (hs : SmP x) : Calls Try.prog 19 #[lruV va vi vr] w (RetG (.bool (okB x)) w) := by
  obtain ⟨sx, hsx⟩ : ∃ sx, w.heap.size = sx := ⟨_, rfl⟩
  have O : Own (w.alloc (.cells #[va, vi, vr] 27)) sx 27 #[va, vi, vr] := hsx ▸ Own.new w 27 #[va, vi, vr]
  have k := (Grew.refl w).alloc (.cells #[va, vi, vr] 27)
  have HR := Lib.hid ((R.grew k))
  have HRw := Lib.hid R
  have HS := Lib.hid hs
  have HSX := Lib.hid hsx
  clear R hs
  go_enter Try.func19, Try.ntmps19
  go_upto_region 1 with fail
  try rw [hsx]
  clear hsx
  generalize hwb : World.alloc w _ = wb at *
  clear hwb
  go_cut [3] from 6 to 11 (ChkCut w sx B va vi vr x)
  case first =>
    have HRd := Lib.hid HR.out.drew
    have HO := Lib.hid O.drew
    have HK := Lib.hid k.drew
    obtain ⟨o0, o1, o2, -⟩ := O.three
    have hlt : sx + 1 ≤ wb.drew.heap.size := O.lt
    clear HR k O
    go_region_held3 (fun w' => w'.cell? ⟨sx, 0, none⟩ = some va ∧ w'.cell? ⟨sx, 1, none⟩ = some vi)
      (refine ⟨?_, ?_⟩ <;> (repeat (first | with_reducible assumption | with_reducible refine far_drew ?_)))
      (first
        | (refine step_append_ints _ (by rfl) (.const (.slice none 0 0)) (.tmp 7) 22 (by rfl) (sx + 1) info_I und_I (by decide) _ [] (by rfl) (RowE.nil _ _) va x.a (by rfl) HRd.out.a (by have := HS.out.a; simp; omega) (by decide) hlt ?_
           intro v3 w3 R3 G3 o3
           have g3 := below_of_grown G3
           have HR3 := Lib.hid R3
           have HRd3 := Lib.hid (HRd.out.grew g3)
           have HO3 := Lib.hid (HO.out.grew g3)
           have HK3 := Lib.hid (HK.out.trans g3)
           have hlt3 : sx + 1 ≤ w3.heap.size := HO3.out.lt
           clear R3 G3 g3 o3 o0 o1 o2 HRd HO HK
           obtain ⟨o0, o1, o2, -⟩ := HO3.out.three)
        | (refine step_append_ints _ (by rfl) (.tmp 8) (.tmp 10) 22 (by rfl) (sx + 1) info_I und_I (by decide) v3 ([] ++ x.a) (by rfl) HR3.out vi x.i (by rfl) HRd3.out.i (by have := HS.out.a; have := HS.out.i; simp; omega) (by decide) hlt3 ?_
           intro v4 w4 R4 G4 o4
           have HO4 := Lib.hid (Own.keptA (B := sx + 1) HO3.out G4 (fun y e => HR3.out.above y e) (Nat.lt_succ_self _))
           have HR4 := Lib.hid R4
           have HK4 := Lib.hid (Grew.keptA (B := sx + 1) HK3.out G4 (fun y e => HR3.out.above y e) (by have := HSX.out; omega))
           have HV := Lib.hid (And.intro G4 (fun (y : Nat) (e : v3.ownBlock = some y) => HR3.out.above y e))
           clear R4 G4 o4 o0 o1 o2
           obtain ⟨o0, o1, o2, -⟩ := HO4.out.three))
    go_wp2
    go_meet
    exact ⟨_, rfl, by simpa using HR4.out, HO4.out, HRw.out.grew HK4.out, HK4.out⟩
  case rest =>
    clear HR k O HRw
    obtain ⟨r, rfl, R1, O, RP, G⟩ := hcut
    have hL2 : (x.a ++ x.i).length ≤ 2000 := by have := HS.out.a; have := HS.out.i; rw [List.length_append]; omega
    have HOK := Lib.hid (ok_is x)
    have HN1 := Lib.hid (fun k (hk : k ≤ (x.a ++ x.i).length) h => ok_no1 (x := x) (k := k) hk h)
    have HN2 := Lib.hid (fun k (hk : k ≤ x.r.length) h => ok_no2 (x := x) (k := k) hk h)
    generalize x.a ++ x.i = L at *
    obtain ⟨a1, c1, rfl⟩ := R1.len
    have HRL := Lib.hid R1
    have HRP := Lib.hid RP
    have HO := Lib.hid O
    have HG := Lib.hid G
    clear R1 RP O G
    go_wp2_with fail
    go_loopw [4] (fun iv wr => ∃ i : Nat, iv = .int .i64 i ∧ i ≤ L.length ∧ c1B L i = true ∧ Grew wc wr) (fun iv _ => L.length - (intOf iv).toNat)
    case atStart => exact ⟨0, rfl, by omega, by unfold c1B; simp, Grew.refl _⟩
    case round =>
      obtain ⟨i, rfl, hi, hc, G1⟩ := hrel
      obtain ⟨wo, rfl⟩ : ∃ wo : World, wo = wr := ⟨_, rfl⟩
      have HC := Lib.hid hc
      have HG1 := Lib.hid G1
      clear hc
      by_cases hlt : i < L.length
      · obtain ⟨g, rfl, hg, x0⟩ := rowI_at HRL.out hlt
        have x1 : wo.cell? ⟨g, i, none⟩ = some (.int .i64 (L.getD i 0)) := (G1.cells.1 g _ hg).trans x0
        have hcap : L.length ≤ c1 := by
          rcases HRL.out.shape enc1_len with ⟨e, -⟩ | ⟨g', c', e, -, -, hc, -⟩
          · cases e
          · injection e with e1 e2 e3; omega
        have HCU : Hid (RwI wo (sx + 1) (.slice (some ⟨g, 0, none⟩) i c1) (L.take i)) := Lib.hid ((RowE.cut enc1_len HRL.out (Nat.le_of_lt hlt)).grew G1)
        have hst := Lib.hid (c1_step hlt)
        have hli : (L.take i).length ≤ 100000 := by rw [List.length_take]; omega
        have HLI := Lib.hid hli
        have HN1i := Lib.hid (fun h => HN1.out (i + 1) (by omega) h)
        generalize L.getD i 0 = y at *
        have i0 : (0 : Int) ≤ (i : Int) := by omega
        have i1 : (i : Int) < (L.length : Int) := by omega
        have i2 : (i : Int) ≤ (c1 : Int) := by omega
        clear x0 hli G1
        by_cases h1 : y < 1
        · have HB := Lib.hid (HN1i.out fun h => by have := (hst.out.1 h).2.1.1; omega)
          go_upto_region 5 with fail
          go_quiet (fail)
          revert nq; intro nq1
          go_wp2
          go_ret
          exact ⟨ret_bool HB.out.symm, (HG.out.trans HG1.out).drewN nq1⟩
        · by_cases h2 : 64 < y
          · have HB := Lib.hid (HN1i.out fun h => by have := (hst.out.1 h).2.1.2; omega)
            go_upto_region 5 with fail
            go_quiet (fail)
            revert nq; intro nq1
            go_wp2
            go_ret
            exact ⟨ret_bool HB.out.symm, (HG.out.trans HG1.out).drewN nq1⟩
          · have i4 : y ≤ 64 := by omega
            have i3 : 1 ≤ y := by omega
            obtain ⟨z, hz⟩ : ∃ z, atI (L.take i) y = z := ⟨_, rfl⟩
            have hzi : 0 ≤ z ↔ y ∈ L.take i := by rw [← hz]; exact atI_in
            have HZ := Lib.hid hz
            by_cases hm : 0 ≤ z
            · have HB := Lib.hid (HN1i.out fun h => (hst.out.1 h).2.2 (hzi.1 hm))
              clear hzi hz
              go_upto_region 5 with fail
              go_quiet ((go_at_call 30; exact Calls.quiet_of_same (at_qv _ y z _ (HCU.out.drewN _) HLI.out HZ.out)))
              revert nq; intro nq1
              go_wp2
              go_ret
              exact ⟨ret_bool HB.out.symm, (HG.out.trans HG1.out).drewN nq1⟩
            · have hc2 := Lib.hid (hst.out.2 ⟨HC.out, ⟨i3, i4⟩, fun h => hm (hzi.2 h)⟩)
              clear hzi hz
              go_upto_region 5 with fail
              go_quiet ((go_at_call 30; exact Calls.quiet_of_same (at_qv _ y z _ (HCU.out.drewN _) HLI.out HZ.out)))
              revert nq; intro nq1
              go_wp2
              exact ⟨⟨i + 1, by go_num, by omega, hc2.out, HG1.out.drewN nq1⟩, by simp [intOf]; omega⟩
      · have hin : i = L.length := by omega
        subst hin
        have HO2 := Lib.hid (HO.out.grew HG1.out)
        have HRP2 := HRP.out.grew HG1.out
        have HRL2 := Lib.hid (HRL.out.grew HG1.out)
        have HG2 := Lib.hid (HG.out.trans HG1.out)
        have HC1 := Lib.hid HC.out
        have hrl := HS.out.r
        have HN2' := Lib.hid (fun k (hk : k ≤ x.r.length) => HN2.out k hk)
        have HVR := Lib.hid HRP2.r
        obtain ⟨ar, cr, rfl⟩ := HRP2.r.len
        have hst := Lib.hid (fun k (hk : k < x.r.length) => c2_step (L := L) hk)
        have HOK2 := Lib.hid (fun h => HOK.out.2 ⟨HC.out, h⟩)
        clear HO HRP HRL HG HG1 HC HRP2 HOK HN1 HN2 HC1
        obtain ⟨RL, hRL⟩ : ∃ RL, x.r = RL := ⟨_, rfl⟩
        rw [hRL] at hrl HN2' HVR hst HOK2 HO2 ⊢
        clear hRL
        go_wp2_with fail
        go_loopw [5] (fun iv wr => ∃ k : Nat, iv = .int .i64 k ∧ k ≤ RL.length ∧ c2B L RL k = true ∧ Grew wo wr) (fun iv _ => RL.length - (intOf iv).toNat)
        case atStart => exact ⟨0, rfl, by omega, by unfold c2B AscP; simp, Grew.refl _⟩
        case round =>
          obtain ⟨k, rfl, hk, hc, G1⟩ := hrel
          obtain ⟨wi, rfl⟩ : ∃ wi : World, wi = wr := ⟨_, rfl⟩
          have HC := Lib.hid hc
          have HG1 := Lib.hid G1
          have HOi := HO2.out.grew G1
          obtain ⟨o0, o1, o2, o3, o4, o5⟩ := HOi.three
          clear hc HOi
          by_cases hlt : k < RL.length
          · obtain ⟨g, rfl, hg, x0⟩ := rowI_at HVR.out hlt
            have x1 : wi.cell? ⟨g, k, none⟩ = some (.int .i64 (RL.getD k 0)) := (G1.cells.1 g _ hg).trans x0
            have hsk := Lib.hid (hst.out k hlt)
            have HN := Lib.hid (HN2'.out (k + 1) (by omega))
            obtain ⟨z, hz⟩ : ∃ z, atI L (RL.getD k 0) = z := ⟨_, rfl⟩
            have hzi : 0 ≤ z ↔ RL.getD k 0 ∈ L := by rw [← hz]; exact atI_in
            have HZ := Lib.hid hz
            have HLW := Lib.hid (HRL2.out.grew G1)
            have hLl : L.length ≤ 100000 := by omega
            have i0 : (0 : Int) ≤ (k : Int) := by omega
            have i1 : (k : Int) < (RL.length : Int) := by omega
            by_cases hm : 0 ≤ z
            · have hm1 : ¬z < 0 := by omega
              by_cases hk0 : k = 0
              · have hc2 := Lib.hid (hsk.out.2 ⟨HC.out, hzi.1 hm, .inl hk0⟩)
                generalize RL.getD k 0 = y at *
                clear hzi hz x0 G1
                subst hk0
                rw [show ((0 : Nat) : Int) = 0 from rfl] at i0 i1 ⊢
                go_upto_region 10 with fail
                go_quiet ((go_at_call 30; exact Calls.quiet_of_same (at_qv _ y z _ (HLW.out.drewN _) hLl HZ.out)))
                revert nq; intro nq1
                go_wp2
                exact ⟨⟨1, by go_num, by omega, hc2.out, HG1.out.drewN nq1⟩, by simp [intOf]; omega⟩
              · obtain ⟨j, rfl⟩ : ∃ j, k = j + 1 := ⟨k - 1, by omega⟩
                obtain ⟨g', hg', -, x2⟩ := rowI_at HVR.out (show j < RL.length by omega)
                injection hg' with hg'
                injection hg' with hg'
                subst hg'
                have x3 : wi.cell? ⟨g, j, none⟩ = some (.int .i64 (RL.getD j 0)) := (G1.cells.1 g _ hg).trans x2
                rw [show j + 1 - 1 = j from by omega] at hsk
                generalize RL.getD (j + 1) 0 = y at *
                generalize RL.getD j 0 = yp at *
                have j0 : (0 : Int) ≤ (j : Int) := by omega
                have j1 : (j : Int) < (RL.length : Int) := by omega
                have j2 : (0 : Int) < (j : Int) + 1 := by omega
                by_cases hlp : y ≤ yp
                · have HB := Lib.hid (HN.out fun h => by have := (hsk.out.1 h).2.2; omega)
                  clear hzi hz x0 x2 G1
                  go_upto_region 10 with fail
                  go_quiet ((go_at_call 30; exact Calls.quiet_of_same (at_qv _ y z _ (HLW.out.drewN _) hLl HZ.out)))
                  revert nq; intro nq1
                  go_wp2
                  go_ret
                  exact ⟨ret_bool HB.out.symm, (HG2.out.trans HG1.out).drewN nq1⟩
                · have hc2 := Lib.hid (hsk.out.2 ⟨HC.out, hzi.1 hm, .inr (by omega)⟩)
                  clear hzi hz x0 x2 G1
                  go_upto_region 10 with fail
                  go_quiet ((go_at_call 30; exact Calls.quiet_of_same (at_qv _ y z _ (HLW.out.drewN _) hLl HZ.out)))
                  revert nq; intro nq1
                  go_wp2
                  exact ⟨⟨j + 1 + 1, by go_num, by omega, hc2.out, HG1.out.drewN nq1⟩, by simp [intOf]; omega⟩
            · have HB := Lib.hid (HN.out fun h => hm (hzi.2 (hsk.out.1 h).2.1))
              have hm2 : z < 0 := by omega
              generalize RL.getD k 0 = y at *
              clear hzi hz x0 G1
              go_upto_region 10 with fail
              go_quiet ((go_at_call 30; exact Calls.quiet_of_same (at_qv _ y z _ (HLW.out.drewN _) hLl HZ.out)))
              revert nq; intro nq1
              go_wp2
              go_ret
              exact ⟨ret_bool HB.out.symm, (HG2.out.trans HG1.out).drewN nq1⟩
          · have hin : k = RL.length := by omega
            subst hin
            have HB := Lib.hid (HOK2.out HC.out)
            clear G1
            go_wp2
            go_ret
            exact ⟨ret_bool HB.out.symm, HG2.out.trans HG1.out⟩
end Go.Proofs.Yteaofieijginhaa
