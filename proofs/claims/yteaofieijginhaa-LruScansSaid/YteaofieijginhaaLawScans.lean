/- LruScans holds: the program's scan chooses the frames that the reference's chooses, and leaves the same lists. -/
import Derived.Test.YteaofieijginhaaLp13
import Derived.Test.YteaofieijginhaaMadeInts
namespace Go.Proofs.Yteaofieijginhaa
open Go.ChangeShapes Go.WideShapes Go.ChangeAt Go.RowKit Go.Mine

theorem scnN_len {H L : List Int} {n : Int} : ∀ (k : Nat) (s : Lr × List Int), (scnN (hlB H) L n k s).1.a.length = s.1.a.length ∧ (scnN (hlB H) L n k s).1.i.length ≤ s.1.i.length + k
  | 0, _ => ⟨rfl, Nat.le_refl _⟩
  | k + 1, s => by
    unfold scnN
    split
    · obtain ⟨h1, h2, -, -⟩ := scnS_len (H := H) (f := L.getD k 0) (s := s)
      obtain ⟨h3, h4⟩ := scnN_len (H := H) (L := L) (n := n) k (scnS (hlB H) (L.getD k 0) s)
      exact ⟨h3.trans h1, by omega⟩
    · exact ⟨rfl, by omega⟩
theorem scnF_len {x : Lr} {H : List Int} {n : Int} (ha : x.a.length ≤ 13) (hi : x.i.length ≤ 13) (hr : x.r.length ≤ 13) : SmP (scnF x n (hlB H)).1 ∧ (scnF x n (hlB H)).2.length ≤ 100000 := by
  have hv := scnF_v (x := x) (n := n) (h := hlB H)
  refine ⟨?_, by omega⟩
  unfold scnF
  split
  · exact ⟨by show x.a.length ≤ 1000; omega, by show x.i.length ≤ 1000; omega, by show x.r.length ≤ 1000; omega⟩
  · obtain ⟨h1, h2⟩ := scnN_len (H := H) (L := x.i) (n := n) x.i.length (x, [])
    have h3 := scnN_r (h := hlB H) (L := x.i) (n := n) x.i.length (x, [])
    have h4 : ((x, []) : Lr × List Int).1 = x := rfl
    rw [h4] at h1 h2 h3
    exact ⟨by omega, by omega, by omega⟩
set_option maxRecDepth 100000 in
set_option maxHeartbeats 4000000 in
theorem scans_core (A : Option Addr) (c : Nat) (xs : List Int) (n0 : Int) (w : World) (hr : IntRow w A xs) (hm : xs.length ≤ maxLen) (hn : (Lit.int .i64 n0).wf = true) :
    Calls Try.prog 4 #[.slice A xs.length c, .int .i64 n0] w (RetG (.bool true) w) := by
  have tp := Tp.made hr hm c 25
  clear hr hn
  generalize hX : xs.length = X at *
  clear hX
  go_enter Try.func4, Try.ntmps4
  go_wp2_with fail
  have G0 : w.grownBy (w.alloc (.cells #[.slice A X c, .int .i64 0] 25)) (some w.heap.size) := grown_alloc (grown_refl _ _) _
  generalize World.alloc w _ = w0 at *
  have hsz0 : w.heap.size + 1 ≤ w0.heap.size := tp.lt
  with_reducible refine (drawn_x _ _ _ tp hsz0).mono ?_
  rintro e w1 ⟨va, vi, vr, x, rfl, hln, hwf, R, T1, g1⟩
  obtain ⟨aa, ca, rfl⟩ := R.a.len
  obtain ⟨ai, ci, rfl⟩ := R.i.len
  obtain ⟨ar, cr, rfl⟩ := R.r.len
  obtain ⟨na, hna⟩ : ∃ na, x.a.length = na := ⟨_, rfl⟩
  obtain ⟨ni, hni⟩ : ∃ ni, x.i.length = ni := ⟨_, rfl⟩
  obtain ⟨nr, hnr⟩ : ∃ nr, x.r.length = nr := ⟨_, rfl⟩
  rw [hna, hni, hnr] at R ⊢
  clear hna hni hnr
  have G1 := (Grew.refl w).past (grown_trans G0 g1) (Nat.le_refl _)
  have kb : Grew w1 (w1.alloc (.cells #[.slice aa na ca, .slice ai ni ci, .slice ar nr cr] 27)) := (Grew.refl _).alloc _
  have O := Mine.Own.new w1 27 #[.slice aa na ca, .slice ai ni ci, .slice ar nr cr]
  obtain ⟨sb, hsb⟩ : ∃ sb, w1.heap.size = sb := ⟨_, rfl⟩
  rw [hsb] at O
  have R2 := (R.grew kb).wider hsz0
  have tp2 := T1.grew kb
  have hsb2 : w.heap.size + 1 ≤ sb := by rw [← hsb]; exact Nat.le_trans hsz0 g1.size
  have hs2 : w.heap.size + 1 ≤ (w1.alloc (.cells #[.slice aa na ca, .slice ai ni ci, .slice ar nr cr] 27)).heap.size := Nat.le_trans hsz0 (Nat.le_trans g1.size kb.size)
  have G2 := G1.trans kb
  have HWF := Lib.hid hwf
  have HLN := Lib.hid hln
  clear R tp G0 g1 T1 G1 hln hsz0 kb hwf
  go_upto_region 3 with fail
  try rw [hsb]
  clear hsb
  generalize World.alloc w1 _ = w2 at *
  go_wp2_with fail
  with_reducible refine (ints_x _ _ _ _ _ _ (by omega) (by omega) (by omega) (by omega) (by omega) (by omega) tp2 hs2).mono ?_
  rintro e w3 ⟨vh, H, rfl, hHl, hHb, Q, T3, g3⟩
  have hcl := cut_lt n0 12 (by omega)
  obtain ⟨kc, hkc⟩ : ∃ kc, cut n0 12 = kc := ⟨_, rfl⟩
  rw [hkc] at hcl
  have HKC := Lib.hid hkc
  have hkc0 : 0 ≤ kc := hcl.1
  have hkc1 : kc < 12 := hcl.2
  have O3 := O.past g3 (by omega)
  have HR3 := Lib.hid (R2.past g3 (Nat.lt_succ_self _))
  have HG3 := Lib.hid (G2.past g3 (Nat.le_refl _))
  have HQ := Lib.hid Q
  have hHl2 : H.length ≤ 1000 := by have : (4 : Int).toNat = 4 := rfl; omega
  have HHW := Lib.hid (show ∀ y ∈ H, (Lit.int .i64 y).wf = true from fun y hy => by have := hHb y hy; exact WalkArith.wf_i64 (by omega))
  have hw3 : w.heap.size + 1 ≤ w3.heap.size := Nat.le_trans hs2 g3.size
  clear hcl hkc O R2 G2 g3 T3 tp2 Q hHb hHl
  go_wp2_with fail
  with_reducible refine (cut_any _ _ _ (by omega) (by omega)).mono ?_
  rintro e w4 ⟨rfl, rfl⟩
  rw [HKC.out]
  have hwk : IntKind.i64.wrap (kc - 1) = kc - 1 := IntWalk.i64_in _ (by omega)
  obtain ⟨z, hz⟩ : ∃ z, scnF x (kc - 1) (hlB H) = z := ⟨_, rfl⟩
  obtain ⟨y, V⟩ := z
  have hl1 : x.a.length ≤ 1000 := by have := HLN.out.1; omega
  have hl2 : x.i.length ≤ 400 := by have := HLN.out.2.1; omega
  have hl2b : x.i.length ≤ 500 := by omega
  have hl3 : x.r.length ≤ 1000 := by have := HLN.out.2.2; omega
  have hsm := scnF_len (H := H) (n := kc - 1) HLN.out.1 HLN.out.2.1 HLN.out.2.2
  rw [hz] at hsm
  have HSM := Lib.hid hsm.1
  have hVl : V.length ≤ 100000 := hsm.2
  have HZ := Lib.hid hz
  obtain ⟨o0, o1, o2, o3, o4, o5⟩ := O3.three
  clear hsm hz
  go_wp2_with fail
  with_reducible refine (scn_v (kc - 1) _ HR3.out HQ.out hl1 hl2 hl3 hHl2 HWF.out HHW.out HZ.out hw3).mono ?_
  rintro e w5 ⟨u1, u2, u3, uv, rfl, RN, RV, g5⟩
  obtain ⟨a5, c5, rfl⟩ := RN.a.len
  obtain ⟨a6, c6, rfl⟩ := RN.i.len
  obtain ⟨a7, c7, rfl⟩ := RN.r.len
  obtain ⟨m1, hm1⟩ : ∃ n, y.a.length = n := ⟨_, rfl⟩
  obtain ⟨m2, hm2⟩ : ∃ n, y.i.length = n := ⟨_, rfl⟩
  obtain ⟨m3, hm3⟩ : ∃ n, y.r.length = n := ⟨_, rfl⟩
  have HM := Lib.hid (And.intro hm1 (And.intro hm2 hm3))
  rw [hm1, hm2, hm3] at RN ⊢
  clear hm1 hm2 hm3
  have gb := (Grew.refl w5).alloc (.cells #[.slice a5 m1 c5, .slice a6 m2 c6, .slice a7 m3 c7] 27)
  have P := Mine.Own.new w5 27 #[.slice a5 m1 c5, .slice a6 m2 c6, .slice a7 m3 c7]
  have O6 := O3.grew (g5.trans gb)
  have HR6 := Lib.hid (HR3.out.grew (g5.trans gb))
  have HQ6 := Lib.hid (HQ.out.grew (g5.trans gb))
  have HG6 := Lib.hid (HG3.out.trans (g5.trans gb))
  have HN6 := Lib.hid (RN.grew gb)
  have HV6 := Lib.hid (RV.grew gb)
  have hw6 : w.heap.size + 1 ≤ (w5.alloc (.cells #[.slice a5 m1 c5, .slice a6 m2 c6, .slice a7 m3 c7] 27)).heap.size := Nat.le_trans hw3 (Nat.le_trans g5.size gb.size)
  obtain ⟨s6, hs6⟩ : ∃ s, w5.heap.size = s := ⟨_, rfl⟩
  rw [hs6] at P
  clear RN RV g5 gb O3 HR3 HQ HG3 o0 o1 o2 o3 o4 o5 hw3
  go_upto_region 6 with fail
  try rw [hs6]
  clear hs6
  generalize World.alloc w5 _ = w6 at *
  obtain ⟨o0, o1, o2, o3, o4, o5⟩ := O6.three
  have SC : Calls Try.prog 27 #[lruV (.slice aa na ca) (.slice ai ni ci) (.slice ar nr cr), .int .i64 (kc - 1), vh] w6 (RetSc y V (w.heap.size + 1) w6) := by
    have := scan_any (C := w2.heap.size) _ _ _ _ x (kc - 1) w6 HR6.out HQ6.out hl1 hl2b hl3 hHl2 hw6
    rw [HZ.out] at this
    exact this
  have HSC := Lib.hid SC
  clear SC
  go_wp2_with fail
  with_reducible refine (HSC.out).mono ?_
  rintro e w7 ⟨r1, r2, r3, rv, rfl, RN, RV, g7⟩
  obtain ⟨b5, d5, rfl⟩ := RN.a.len
  obtain ⟨b6, d6, rfl⟩ := RN.i.len
  obtain ⟨b7, d7, rfl⟩ := RN.r.len
  rw [HM.out.1, HM.out.2.1, HM.out.2.2] at RN ⊢
  have gb := (Grew.refl w7).alloc (.cells #[.slice b5 m1 d5, .slice b6 m2 d6, .slice b7 m3 d7] 27)
  have Q8 := Mine.Own.new w7 27 #[.slice b5 m1 d5, .slice b6 m2 d6, .slice b7 m3 d7]
  have P8 := P.grew (g7.trans gb)
  have HG8 := Lib.hid (HG6.out.trans (g7.trans gb))
  have HN8 := Lib.hid (HN6.out.grew (g7.trans gb))
  have HV8 := Lib.hid (HV6.out.grew (g7.trans gb))
  have HM8 := Lib.hid (RN.grew gb)
  have HW8 := Lib.hid (RV.grew gb)
  obtain ⟨s8, hs8⟩ : ∃ s, w7.heap.size = s := ⟨_, rfl⟩
  rw [hs8] at Q8
  clear RN RV g7 gb P HN6 HV6 HG6 HR6 HQ6 HSC O6 o0 o1 o2 o3 o4 o5
  go_upto_region 7 with fail
  try rw [hs8]
  clear hs8
  generalize World.alloc w7 _ = w8 at *
  obtain ⟨p0, p1, p2, p3, p4, p5⟩ := P8.three
  obtain ⟨q0, q1, q2, q3, q4, q5⟩ := Q8.three
  go_wp2_with fail
  with_reducible refine (same_lru _ _ _ _ _ _ y _ HN8.out HM8.out HSM.out).mono ?_
  rintro e w9 ⟨rfl, g9⟩
  have HV9 := Lib.hid (HV8.out.grew g9)
  have HW9 := Lib.hid (HW8.out.grew g9)
  go_wp2_with fail
  with_reducible refine (same_ints _ _ _ HV9.out HW9.out hVl).mono ?_
  rintro e w10 ⟨rfl, g10⟩
  go_wp2_with fail
  with_reducible refine (awake_any _).mono ?_
  rintro e w11 ⟨rfl, g11⟩
  go_wp2
  go_ret
  exact ⟨rfl, HG8.out.trans (g9.trans (g10.trans g11))⟩

theorem Try.own : ownKnob Try.prog.godebug = none := by kernel_rfl
theorem Try.laidOut : laidOutB Try.prog = true := by kernel_rfl

theorem lruScans_contract (W : World) (base : Nat) (args : Array Value) (H : Type) (enc : TypeId × Value → H) (ds : List (DataW H)) (p : List MemPlace)
    (hval : ∀ (j : Nat) t v, Try.f4.params[j]? = some t → args[j]? = some v → Value.okWide Try.prog W .any base t v)
    (hA : DataW.TrodAll enc Try.prog W 0 (fun _ => true) true Try.f4.params.toList args.toList ds p) :
    (∃ d0 d1, ds = [d0, d1]) ∧ Calls Try.prog 4 args W fun e W' => e = .returned (.bool true) ∧ Below W.heap.size W W' := by
  rw [Try.params4] at hval hA
  obtain ⟨v0, v1, d0, d1, p0, p1, ha, hd, hp, h0, h1⟩ := args_2 hA
  subst ha hd
  obtain ⟨A0, c0, xs0, rfl, hr0, hm0⟩ := open_introw Try.underlying22 Try.underlying3 (by kernel_rfl) (hval 0 _ _ rfl rfl) h0
  obtain ⟨n1, rfl, -, -, hw1⟩ := open_int Try.underlying3 (hval 1 _ _ rfl rfl) h1
  exact ⟨⟨_, _, rfl⟩, (scans_core A0 c0 xs0 n1 W hr0 hm0 hw1).mono fun _ _ h => h⟩

set_option maxRecDepth 100000 in
theorem lruScans_lifted (os : Os) (started : os.Started) (H : Type) (enc : TypeId × Value → H) :
    ReturnsInHanded {} Try.checked os 4 .any (Rows.lruScansSpec.pre6 enc Try.prog Try.f4 Rows.lruScansRow.domain false) (Rows.lruScansSpec.post enc Try.prog Try.f4 false true false false) := by
  refine returnsInHanded_of_change (C := Try.checked) Try.own started (by kernel_rfl) Try.func4
    (ChangeSpec.witness6 (enc := enc) (C := Try.checked) false ⟨#[], #[.slice none 0 0, .int .i64 0], []⟩ 8 (by kernel_rfl) (by kernel_rfl) (by kernel_rfl) (by kernel_rfl)) ?_
  intro W base args ds gs before hval hW _ _
  obtain ⟨p, q, hA, hV, hrest⟩ := id hW
  obtain ⟨⟨d0, d1, rfl⟩, hc⟩ := lruScans_contract W base args H enc ds p hval hA
  obtain ⟨rfl, -⟩ := trodVars_none hV
  refine hc.mono fun e W' ⟨he, hb⟩ => ⟨_, he, ?_⟩
  exact law_close (tb := 4) Try.laidOut (by rw [Try.params4]; decide +kernel) Try.underlying4 rfl rfl hW rfl rfl rfl hb

theorem lruScans_holds : Rows.LruScansSaid :=
  OpenClaim.holds_of_wide 4 Try.f4 rfl rfl rfl rfl rfl rfl rfl ⟨rfl, rfl, rfl, rfl, rfl⟩ rfl rfl rfl rfl rfl (by kernel_rfl) Try.func4 (by kernel_rfl)
    (of_decide_eq_true (by kernel_rfl)) (by unfold Func.isWrapper; first | (rw [if_pos (by decide +kernel)]; kernel_rfl) | (rw [if_neg (by decide +kernel)]; exact ⟨rfl, rfl⟩))
    (fun os started H enc _ => lruScans_lifted os started H enc)
end Go.Proofs.Yteaofieijginhaa
