/- The package is awake (layer 8); the program's functions with their answers given. -/
import Derived.Test.YteaofieijginhaaLp6
import Derived.Test.YteaofieijginhaaLp7
import Derived.Test.YteaofieijginhaaLp10
namespace Go.Proofs.Yteaofieijginhaa
open Go.RowKit Go.Mine

section
variable {B C : Nat} {va vi vr : Value} {x y : Lr} {w : World}
theorem add_v {er : Int} (f : Int) (act : Bool) (R : LrR w B va vi vr x) (hs : SmP x) (hw : WfR x) (h1 : addX x f act = y) (h2 : addE x f = er) (hC : C ≤ w.heap.size) : Calls Try.prog 12 #[lruV va vi vr, .int .i64 f, .bool act] w (RetLE y er C w) :=
  (addp_any va vi vr x f act w R hs hw).mono fun _ _ ⟨ua, ui, ur, e, h, g⟩ => ⟨ua, ui, ur, h2 ▸ e, h1 ▸ h.wider hC, g⟩
theorem rem_v {er : Int} (f : Int) (R : LrR w B va vi vr x) (hs : SmP x) (hw : WfR x) (h1 : remX x f = y) (h2 : remE x f = er) (hC : C ≤ w.heap.size) : Calls Try.prog 14 #[lruV va vi vr, .int .i64 f] w (RetLE y er C w) :=
  (remp_any va vi vr x f w R hs hw).mono fun _ _ ⟨ua, ui, ur, e, h, g⟩ => ⟨ua, ui, ur, h2 ▸ e, h1 ▸ h.wider hC, g⟩
theorem tou_v {er : Int} (f : Int) (R : LrR w B va vi vr x) (hs : SmP x) (hw : WfR x) (h1 : touX x f = y) (h2 : remE x f = er) (hC : C ≤ w.heap.size) : Calls Try.prog 16 #[lruV va vi vr, .int .i64 f] w (RetLE y er C w) :=
  (toup_any va vi vr x f w R hs hw).mono fun _ _ ⟨ua, ui, ur, e, h, g⟩ => ⟨ua, ui, ur, h2 ▸ e, h1 ▸ h.wider hC, g⟩
theorem scn_v {D : Nat} {H V : List Int} (n : Int) (vh : Value) (R : LrR w B va vi vr x) (Q : RwI w D vh H) (hs1 : x.a.length ≤ 1000) (hs2 : x.i.length ≤ 400) (hs3 : x.r.length ≤ 1000) (hH : H.length ≤ 1000) (hwf : WfR x) (hHw : ∀ y ∈ H, (Lit.int .i64 y).wf = true)
    (h1 : scnF x n (hlB H) = (y, V)) (hC : C ≤ w.heap.size) : Calls Try.prog 26 #[lruV va vi vr, .int .i64 n, vh] w (RetSc y V C w) := by
  have := scanp_any va vi vr vh x n w R Q hs1 hs2 hs3 hH hwf hHw
  rw [h1] at this
  exact this.mono fun _ _ ⟨ua, ui, ur, uv, e, h, hv, g⟩ => ⟨ua, ui, ur, uv, e, h.wider hC, RowE.wider hv hC, g⟩
theorem bal_v (R : LrR w B va vi vr x) (hs2 : x.a.length + x.i.length ≤ 1000) (hs3 : x.r.length ≤ 1000) (hw : WfR x) (h1 : balX x = y) (hC : C ≤ w.heap.size) : Calls Try.prog 21 #[lruV va vi vr] w (RetLr y C w) :=
  (balp_any va vi vr x w R hs2 hs3 hw).mono fun _ _ ⟨ua, ui, ur, e, h, g⟩ => ⟨ua, ui, ur, e, h1 ▸ h.wider hC, g⟩
end
/-! The lists of 'awake'. -/
def awx : Nat → Lr
  | 0 => ⟨[], [], []⟩
  | 1 => ⟨[], [1], []⟩
  | 2 => ⟨[], [2, 1], []⟩
  | _ => ⟨[], [3, 2, 1], []⟩
theorem awx_add : ∀ k : Nat, k < 3 → addX (awx k) ((k : Int) + 1) false = awx (k + 1) ∧ addE (awx k) ((k : Int) + 1) = 0
  | 0, _ => ⟨by kernel_rfl, by kernel_rfl⟩
  | 1, _ => ⟨by kernel_rfl, by kernel_rfl⟩
  | 2, _ => ⟨by kernel_rfl, by kernel_rfl⟩
  | n + 3, h => by omega
theorem awx_sm (k : Nat) (h : k ≤ 3) : SmP (awx k) ∧ WfR (awx k) ∧ (awx k).a.length = 0 ∧ (awx k).i.length = k ∧ (awx k).r.length = 0 := by
  rcases k with _ | _ | _ | _ | k
  · exact ⟨⟨by decide, by decide, by decide⟩, fun y hy => by simp [awx] at hy, rfl, rfl, rfl⟩
  · exact ⟨⟨by decide, by decide, by decide⟩, fun y hy => by simp [awx] at hy, rfl, rfl, rfl⟩
  · exact ⟨⟨by decide, by decide, by decide⟩, fun y hy => by simp [awx] at hy, rfl, rfl, rfl⟩
  · exact ⟨⟨by decide, by decide, by decide⟩, fun y hy => by simp [awx] at hy, rfl, rfl, rfl⟩
  · omega
def awR (w : World) (sx : Nat) (fv : Value) (wr : World) : Prop := ∃ (k : Nat) (a1 : Option Addr) (c1 : Nat) (a2 : Option Addr) (c2 : Nat) (a3 : Option Addr) (c3 : Nat), fv = .int .i64 ((k : Int) + 1) ∧ k ≤ 3 ∧
  LrR wr (sx + 1) (.slice a1 0 c1) (.slice a2 k c2) (.slice a3 0 c3) (awx k) ∧ Mine.Own wr sx 27 #[.slice a1 0 c1, .slice a2 k c2, .slice a3 0 c3] ∧ Grew w wr
theorem x1_ok : scnF ⟨[], [3, 2, 1], [1]⟩ 1 (hlB []) = (⟨[], [1, 3, 2], []⟩, [2]) := by kernel_rfl
set_option maxRecDepth 100000 in
set_option maxHeartbeats 4000000 in
theorem awake_any (w : World) : Calls Try.prog 23 #[] w (RetG (.bool true) w) := by
  obtain ⟨sx, hsx⟩ : ∃ sx, w.heap.size = sx := ⟨_, rfl⟩
  have K := (Grew.refl w).alloc (.cells n3 27)
  have X : Mine.Own (w.alloc (.cells n3 27)) sx 27 n3 := hsx ▸ Own.new w 27 n3
  have HK := Lib.hid K
  have HX := Lib.hid X
  have hsw : w.heap.size ≤ sx := by omega
  clear K X
  go_enter Try.func23, Try.ntmps23
  go_upto_region 2 with fail
  try rw [hsx]
  generalize World.alloc w _ = wb at *
  clear hsx
  go_wp2_with fail
  go_loopw [2] (awR w sx) (fun fv _ => (4 - intOf fv).toNat)
  case atStart => exact ⟨0, _, _, _, _, _, _, rfl, by omega, ⟨RowE.nil _ _, RowE.nil _ _, RowE.nil _ _⟩, HX.out, HK.out⟩
  case round =>
    clear HX HK
    obtain ⟨k, a1, c1, a2, c2, a3, c3, rfl, hk, R, X, G⟩ := hrel
    obtain ⟨wo, rfl⟩ : ∃ wo : World, wo = wr := ⟨_, rfl⟩
    have HR := Lib.hid R
    have HG := Lib.hid G
    have hz : sx + 1 ≤ wo.heap.size := X.lt
    obtain ⟨hsm, hwf, -, -, -⟩ := awx_sm k hk
    have HSM := Lib.hid hsm
    have HWF := Lib.hid hwf
    obtain ⟨x0, x1, x2, x3, x4, x5⟩ := X.three
    have HX := Lib.hid X
    clear R G hsm hwf X
    by_cases hlt : k < 3
    · obtain ⟨h1, h2⟩ := awx_add k hlt
      obtain ⟨-, -, l1, l2, l3⟩ := awx_sm (k + 1) (by omega)
      have i1 : (k : Int) + 1 ≤ 3 := by omega
      go_wp2_with fail
      with_reducible refine (add_v _ _ HR.out HSM.out HWF.out h1 h2 hz).mono ?_
      rintro e w1 ⟨v1, v2, v3, rfl, RN, g1⟩
      obtain ⟨a5, c5, rfl⟩ := RN.a.len
      obtain ⟨a6, c6, rfl⟩ := RN.i.len
      obtain ⟨a7, c7, rfl⟩ := RN.r.len
      rw [l1, l2, l3] at RN ⊢
      have X1 := HX.out.grew g1
      have gA := (Grew.refl w1).alloc (.cells #[.slice a5 0 c5, .slice a6 (k + 1) c6, .slice a7 0 c7] 27)
      have X2 := X1.grew gA
      have M := Own.new w1 27 #[.slice a5 0 c5, .slice a6 (k + 1) c6, .slice a7 0 c7]
      have HRN := Lib.hid (RN.grew gA)
      have HG2 := Lib.hid ((HG.out.trans g1).trans gA)
      have hne : sx < w1.heap.size := X1.lt
      obtain ⟨sm, hsm⟩ : ∃ sm, w1.heap.size = sm := ⟨_, rfl⟩
      rw [hsm] at M hne
      clear h1 h2 l1 l2 l3 RN X1 g1 gA x0 x1 x2 x3 x4 x5
      go_upto_region 8 with fail
      try rw [hsm]
      clear hsm
      generalize World.alloc w1 _ = w2 at *
      obtain ⟨x0, x1, x2, x3, x4, x5⟩ := X2.three
      obtain ⟨m0, m1, m2, m3, m4, m5⟩ := M.three
      go_upto_region 4 with fail
      generalize hw : World.setCell _ _ _ = wz
      have X3 := X2.store3 hw
      have G3 := HG2.out.far3 hw (by omega)
      have R3 := HRN.out.far3N hw (Nat.lt_succ_self _)
      have HF := Lib.hid (show awR w sx (.int .i64 (((k + 1 : Nat) : Int) + 1)) wz from ⟨k + 1, _, _, _, _, _, _, rfl, by omega, R3, X3, G3⟩)
      clear hw X3 G3 R3 X2 M x0 x1 x2 x3 x4 x5 m0 m1 m2 m3 m4 m5
      go_wp2
      exact ⟨by have := HF.out; rwa [show (((k + 1 : Nat) : Int) + 1) = (k : Int) + 1 + 1 from by omega] at this, by simp [intOf]; omega⟩
    · obtain rfl : k = 3 := by omega
      rw [show (((3 : Nat) : Int) + 1) = 4 from rfl]
      have t1 : touX (awx 3) 1 = ⟨[], [3, 2, 1], [1]⟩ := by kernel_rfl
      have t2 : remE (awx 3) 1 = 0 := by kernel_rfl
      go_wp2_with fail
      with_reducible refine (tou_v 1 HR.out HSM.out HWF.out t1 t2 hz).mono ?_
      rintro e w1 ⟨v1, v2, v3, rfl, RN, g1⟩
      obtain ⟨a5, c5, rfl⟩ := RN.a.len
      obtain ⟨a6, c6, rfl⟩ := RN.i.len
      obtain ⟨a7, c7, rfl⟩ := RN.r.len
      change LrR w1 (sx + 1) (.slice a5 0 c5) (.slice a6 3 c6) (.slice a7 1 c7) ⟨[], [3, 2, 1], [1]⟩ at RN
      have X1 := HX.out.grew g1
      have G1 := HG.out.trans g1
      clear x0 x1 x2 x3 x4 x5 t1 t2
      obtain ⟨x0, x1, x2, x3, x4, x5⟩ := X1.three
      go_upto_region 10 with fail
      generalize hw : World.setCell _ _ _ = w2
      have X2 := X1.store3 hw
      have HG2 := Lib.hid (G1.far3 hw (by omega))
      have HR2 := Lib.hid (RN.far3N hw (Nat.lt_succ_self _))
      have hz2 : sx + 1 ≤ w2.heap.size := X2.lt
      clear hw RN g1 X1 G1 x0 x1 x2 x3 x4 x5 HR HG HX HSM HWF hz
      obtain ⟨x0, x1, x2, x3, x4, x5⟩ := X2.three
      have hwf2 : WfR ⟨[], [3, 2, 1], [1]⟩ := fun y hy => by simp at hy; subst hy; rfl
      have HQ : Hid (RwI w2 (sx + 1) (.slice none 0 0) []) := Lib.hid (RowE.nil _ _)
      have sc := x1_ok
      go_wp2_with fail
      with_reducible refine (scn_v 1 _ HR2.out HQ.out (by decide) (by decide) (by decide) (by decide) hwf2 (by simp) sc hz2).mono ?_
      rintro e w3 ⟨u1, u2, u3, uv, rfl, RN, RV, g3⟩
      obtain ⟨b5, d5, rfl⟩ := RN.a.len
      obtain ⟨b6, d6, rfl⟩ := RN.i.len
      obtain ⟨b7, d7, rfl⟩ := RN.r.len
      obtain ⟨b8, d8, rfl⟩ := RV.len
      change LrR w3 (sx + 1) (.slice b5 0 d5) (.slice b6 3 d6) (.slice b7 0 d7) ⟨[], [1, 3, 2], []⟩ at RN
      change RwI w3 (sx + 1) (.slice b8 1 d8) [2] at RV
      have gA := (Grew.refl w3).alloc (.cells #[.slice b5 0 d5, .slice b6 3 d6, .slice b7 0 d7] 27)
      have M := Own.new w3 27 #[.slice b5 0 d5, .slice b6 3 d6, .slice b7 0 d7]
      have HRM := Lib.hid (RN.grew gA)
      have HRV := Lib.hid (RV.grew gA)
      have HG4 := Lib.hid ((HG2.out.trans g3).trans gA)
      have hz4 : sx + 1 ≤ w3.heap.size := Nat.le_trans hz2 g3.size
      have hz5 := gA.size
      obtain ⟨sm, hsm⟩ : ∃ sm, w3.heap.size = sm := ⟨_, rfl⟩
      rw [hsm] at M hz4 hz5
      clear sc HQ hwf2 RN RV gA g3 X2 x0 x1 x2 x3 x4 x5 HG2 HR2 hz2
      go_upto_region 11 with fail
      try rw [hsm]
      clear hsm
      generalize World.alloc w3 _ = w4 at *
      obtain ⟨m0, m1, m2, m3, m4, m5⟩ := M.three
      have t1 : remX ⟨[], [1, 3, 2], []⟩ 3 = ⟨[], [1, 2], []⟩ := by kernel_rfl
      have t2 : remE ⟨[], [1, 3, 2], []⟩ 3 = 0 := by kernel_rfl
      have hsm2 : SmP ⟨[], [1, 3, 2], []⟩ := ⟨by decide, by decide, by decide⟩
      have hwf2 : WfR ⟨[], [1, 3, 2], []⟩ := fun y hy => by simp at hy
      have hz6 : sx + 1 ≤ w4.heap.size := by omega
      go_wp2_with fail
      with_reducible refine (rem_v 3 HRM.out hsm2 hwf2 t1 t2 hz6).mono ?_
      rintro e w5 ⟨r1, r2, r3, rfl, RN, g5⟩
      obtain ⟨e5, f5, rfl⟩ := RN.a.len
      obtain ⟨e6, f6, rfl⟩ := RN.i.len
      obtain ⟨e7, f7, rfl⟩ := RN.r.len
      change LrR w5 (sx + 1) (.slice e5 0 f5) (.slice e6 2 f6) (.slice e7 0 f7) ⟨[], [1, 2], []⟩ at RN
      have gA := (Grew.refl w5).alloc (.cells #[.slice e5 0 f5, .slice e6 2 f6, .slice e7 0 f7] 27)
      have Q := Mine.Own.new w5 27 #[.slice e5 0 f5, .slice e6 2 f6, .slice e7 0 f7]
      have M2 := M.grew (g5.trans gA)
      have HRQ := Lib.hid (RN.grew gA)
      have HRM2 := Lib.hid (HRM.out.grew (g5.trans gA))
      have HRV2 := Lib.hid (HRV.out.grew (g5.trans gA))
      have HG6 := Lib.hid (HG4.out.trans (g5.trans gA))
      have hz7 : sx + 1 ≤ (w5.alloc (.cells #[.slice e5 0 f5, .slice e6 2 f6, .slice e7 0 f7] 27)).heap.size := Nat.le_trans hz6 (Nat.le_trans g5.size gA.size)
      obtain ⟨sr, hsr⟩ : ∃ sr, w5.heap.size = sr := ⟨_, rfl⟩
      rw [hsr] at Q
      clear t1 t2 hsm2 hwf2 RN g5 gA M HRM HRV HG4 m0 m1 m2 m3 m4 m5
      go_upto_region 12 with fail
      try rw [hsr]
      clear hsr
      generalize World.alloc w5 _ = w6 at *
      obtain ⟨m0, m1, m2, m3, m4, m5⟩ := M2.three
      obtain ⟨q0, q1, q2, q3, q4, q5⟩ := Q.three
      obtain ⟨gv, rfl, -, pv⟩ := rowI_at HRV2.out (show 0 < [(2 : Int)].length by decide)
      obtain ⟨gi, rfl, -, pi⟩ := rowI_at HRM2.out.i (show 0 < [(1 : Int), 3, 2].length by decide)
      change w6.cell? ⟨gv, 0, none⟩ = some (.int .i64 2) at pv
      change w6.cell? ⟨gi, 0, none⟩ = some (.int .i64 1) at pi
      have c1 : okB ⟨[], [1, 2], []⟩ = true := by kernel_rfl
      have hsm3 : SmP ⟨[], [1, 2], []⟩ := ⟨by decide, by decide, by decide⟩
      have hwf3 : WfR ⟨[], [1, 2], []⟩ := fun y hy => by simp at hy
      go_wp2_with fail
      with_reducible refine (pchk_v _ _ _ _ _ HRQ.out hsm3 hwf3 c1).mono ?_
      rintro e w7 ⟨rfl, g7⟩
      have HG7 := Lib.hid (HG6.out.trans g7)
      clear c1 hsm3 hwf3 m0 m1 m2 m3 m4 m5 q0 q1 q2 q3 q4 q5 pv pi M2 Q HRM2 HRV2 HRQ
      have c2 : okB ⟨[], [], [1]⟩ = false := by kernel_rfl
      have hsm4 : SmP ⟨[], [], [1]⟩ := ⟨by decide, by decide, by decide⟩
      have hwf4 : WfR ⟨[], [], [1]⟩ := fun y hy => by simp at hy; subst hy; rfl
      have g8 := (Grew.refl w7).alloc (.cells #[.int .i64 1] 3)
      have R8 : LrR (w7.alloc (.cells #[.int .i64 1] 3)) w7.heap.size (.slice none 0 0) (.slice none 0 0) (.slice (some ⟨w7.heap.size, 0, none⟩) 1 1) ⟨[], [], [1]⟩ :=
        ⟨RowE.nil _ _, RowE.nil _ _, RowE.lit (L := [1]) w7 #[.int .i64 1] (by simp [enc1]) (by simp) (by simp [maxLen]) (Nat.le_refl _)⟩
      have HR8 := Lib.hid R8
      have HG8 := Lib.hid (HG7.out.trans g8)
      clear R8 g7 g8
      go_wp2_with fail
      with_reducible refine (pchk_v _ _ _ _ _ HR8.out hsm4 hwf4 c2).mono ?_
      rintro e w9 ⟨rfl, g9⟩
      clear c2 hsm4 hwf4 HR8
      have c3 : balX ⟨[1, 2], [], []⟩ = ⟨[1], [2], []⟩ := by kernel_rfl
      have hwf5 : WfR ⟨[1, 2], [], []⟩ := fun y hy => by simp at hy
      have gB := (Grew.refl w9).alloc (.cells #[.int .i64 1, .int .i64 2] 3)
      have RB : LrR (w9.alloc (.cells #[.int .i64 1, .int .i64 2] 3)) w9.heap.size (.slice (some ⟨w9.heap.size, 0, none⟩) 2 2) (.slice none 0 0) (.slice none 0 0) ⟨[1, 2], [], []⟩ :=
        ⟨RowE.lit (L := [1, 2]) w9 #[.int .i64 1, .int .i64 2] (by simp [enc1]) (by simp) (by simp [maxLen]) (Nat.le_refl _), RowE.nil _ _, RowE.nil _ _⟩
      have HRB := Lib.hid RB
      have HGB := Lib.hid ((HG8.out.trans g9).trans gB)
      clear RB g9 gB
      go_wp2_with fail
      with_reducible refine (bal_v HRB.out (by decide) (by decide) hwf5 c3 (Nat.zero_le _)).mono ?_
      rintro e w10 ⟨b1, b2, b3, rfl, RN, g10⟩
      obtain ⟨e8, f8, rfl⟩ := RN.a.len
      obtain ⟨e9, f9, rfl⟩ := RN.i.len
      obtain ⟨e10, f10, rfl⟩ := RN.r.len
      try rw [show ([2] : List Int).length = 1 from rfl]
      try rw [show ([1] : List Int).length = 1 from rfl]
      have HGE := Lib.hid (HGB.out.trans g10)
      clear RN g10 c3 hwf5
      have hfd : (Instr.field 27 (lruV (.slice e8 1 f8) (.slice e9 1 f9) (.slice e10 0 f10)) 1).run Try.prog w10 = .ok (.slice e9 1 f9) w10 := by kernel_rfl
      go_wp2
      go_ret
      exact ⟨rfl, HGE.out⟩
end Go.Proofs.Yteaofieijginhaa
