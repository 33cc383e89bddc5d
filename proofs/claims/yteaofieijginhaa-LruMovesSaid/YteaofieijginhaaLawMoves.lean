/- LruMoves holds: adding, removing, touching and balancing make of lists what the reference makes of them, or lead to the same error. -/
import Derived.Test.YteaofieijginhaaLp13
import Derived.Deep.RegionHeld3
namespace Go.Proofs.Yteaofieijginhaa
open Go.ChangeShapes Go.WideShapes Go.ChangeAt Go.RowKit Go.Mine

theorem addX_len {x : Lr} {f : Int} {act : Bool} (h : x.a.length ≤ 13 ∧ x.i.length ≤ 13 ∧ x.r.length ≤ 13) : SmP (addX x f act) := by
  unfold addX
  split
  · cases act
    · exact ⟨by show x.a.length ≤ 1000; omega, by show x.i.length + 1 ≤ 1000; omega, by show x.r.length ≤ 1000; omega⟩
    · exact ⟨by show x.a.length + 1 ≤ 1000; omega, by show x.i.length ≤ 1000; omega, by show x.r.length ≤ 1000; omega⟩
  · exact ⟨by omega, by omega, by omega⟩
theorem remX_len {x : Lr} {f : Int} (h : x.a.length ≤ 13 ∧ x.i.length ≤ 13 ∧ x.r.length ≤ 13) : SmP (remX x f) := by
  have h1 := wol_len x.a f
  have h2 := wol_len x.i f
  have h3 := wol_len x.r f
  unfold remX
  split
  · exact ⟨by show (wol x.a f).length ≤ 1000; omega, by show (wol x.i f).length ≤ 1000; omega, by show (wol x.r f).length ≤ 1000; omega⟩
  · exact ⟨by omega, by omega, by omega⟩
theorem touX_len {x : Lr} {f : Int} (h : x.a.length ≤ 13 ∧ x.i.length ≤ 13 ∧ x.r.length ≤ 13) : SmP (touX x f) := by
  have h2 := wol_len x.i f
  have h3 := wol_len x.r f
  have h4 := inl_len x.r f
  unfold touX
  split
  · cases decide (f ∈ x.r)
    · exact ⟨by show x.a.length ≤ 1000; omega, by show x.i.length ≤ 1000; omega, by show (inl x.r f).length ≤ 1000; omega⟩
    · cases decide (f ∈ x.i)
      · exact ⟨by show x.a.length ≤ 1000; omega, by show x.i.length ≤ 1000; omega, by show x.r.length ≤ 1000; omega⟩
      · exact ⟨by show x.a.length + 1 ≤ 1000; omega, by show (wol x.i f).length ≤ 1000; omega, by show (wol x.r f).length ≤ 1000; omega⟩
  · exact ⟨by omega, by omega, by omega⟩
theorem balN_len : ∀ (n : Nat) (x : Lr), (balN n x).a.length + (balN n x).i.length = x.a.length + x.i.length ∧ (balN n x).r.length ≤ x.r.length
  | 0, _ => ⟨rfl, Nat.le_refl _⟩
  | n + 1, x => by
    unfold balN
    split
    · rename_i h
      obtain ⟨h1, h2⟩ := balS_len (x := x) (by omega)
      obtain ⟨h3, h4⟩ := balN_len n (balS x)
      exact ⟨h3.trans h1, Nat.le_trans h4 h2⟩
    · exact ⟨rfl, Nat.le_refl _⟩
theorem balX_len {x : Lr} (h : x.a.length ≤ 13 ∧ x.i.length ≤ 13 ∧ x.r.length ≤ 13) : SmP (balX x) := by
  unfold balX
  cases okB x
  · exact ⟨by show x.a.length ≤ 1000; omega, by show x.i.length ≤ 1000; omega, by show x.r.length ≤ 1000; omega⟩
  · obtain ⟨h1, h2⟩ := balN_len x.a.length x
    exact ⟨by show (balN x.a.length x).a.length ≤ 1000; omega, by show (balN x.a.length x).i.length ≤ 1000; omega, by show (balN x.a.length x).r.length ≤ 1000; omega⟩
theorem bal_q {y : Lr} {B : Nat} (va vi vr : Value) (x : Lr) (w : World) (R : LrR w B va vi vr x) (hs2 : x.a.length + x.i.length ≤ 1000) (hs3 : x.r.length ≤ 1000) (hB : B ≤ w.heap.size) (h : balX x = y) : Calls Try.prog 22 #[lruV va vi vr] w (RetLr y B w) := h ▸ balance_any va vi vr x w R hs2 hs3 hB
def MvCut (w : World) (B b sb : Nat) (x : Lr) (aa : Option Addr) (na ca : Nat) (ai : Option Addr) (ni ci : Nat) (ar : Option Addr) (nr cr : Nat) (fv : Value) (wx : World) : Prop := ∃ f : Int, fv = .int .i64 f ∧
  LrR wx B (.slice aa na ca) (.slice ai ni ci) (.slice ar nr cr) x ∧ Mine.Own wx sb 27 #[.slice aa na ca, .slice ai ni ci, .slice ar nr cr] ∧ Tp B wx b ∧ w.heap.size + 1 ≤ wx.heap.size ∧ Grew w wx
set_option maxRecDepth 100000 in
set_option maxHeartbeats 16000000 in
theorem moves_core (A : Option Addr) (c : Nat) (xs : List Int) (w : World) (hr : IntRow w A xs) (hm : xs.length ≤ maxLen) :
    Calls Try.prog 3 #[.slice A xs.length c] w (RetG (.bool true) w) := by
  have tp := Tp.made hr hm c 25
  clear hr
  generalize hX : xs.length = X at *
  clear hX
  go_enter Try.func3, Try.ntmps3
  go_wp2_with fail
  have G0 : w.grownBy (w.alloc (.cells #[.slice A X c, .int .i64 0] 25)) (some w.heap.size) := grown_alloc (grown_refl _ _) _
  generalize World.alloc w _ = w0 at *
  have hsz0 : w.heap.size + 1 ≤ w0.heap.size := tp.lt
  with_reducible refine (drawn_x _ _ _ tp hsz0).mono ?_
  rintro e w1 ⟨va, vi, vr, x, rfl, hln, hwf, R, T1, g1⟩
  obtain ⟨aa, ca, rfl⟩ := R.a.len
  obtain ⟨ai, ci, rfl⟩ := R.i.len
  obtain ⟨ar, cr, rfl⟩ := R.r.len
  obtain ⟨na, hna⟩ : ∃ na, x.a.length = na := ⟨_, rfl⟩
  obtain ⟨ni, hni⟩ : ∃ ni, x.i.length = ni := ⟨_, rfl⟩
  obtain ⟨nr, hnr⟩ : ∃ nr, x.r.length = nr := ⟨_, rfl⟩
  rw [hna, hni, hnr] at R ⊢
  clear hna hni hnr
  have G1 := (Grew.refl w).past (grown_trans G0 g1) (Nat.le_refl _)
  have kb : Grew w1 (w1.alloc (.cells #[.slice aa na ca, .slice ai ni ci, .slice ar nr cr] 27)) := (Grew.refl _).alloc _
  have O := Mine.Own.new w1 27 #[.slice aa na ca, .slice ai ni ci, .slice ar nr cr]
  obtain ⟨sb, hsb⟩ : ∃ sb, w1.heap.size = sb := ⟨_, rfl⟩
  rw [hsb] at O
  have R2 := (R.grew kb).wider hsz0
  have tp2 := T1.grew kb
  have hsb2 : w.heap.size + 1 ≤ sb := by rw [← hsb]; exact Nat.le_trans hsz0 g1.size
  have hs2 : w.heap.size + 1 ≤ (w1.alloc (.cells #[.slice aa na ca, .slice ai ni ci, .slice ar nr cr] 27)).heap.size := Nat.le_trans hsz0 (Nat.le_trans g1.size kb.size)
  have G2 := G1.trans kb
  have HWF := Lib.hid hwf
  have HLN := Lib.hid hln
  clear R tp G0 g1 T1 G1 hln hsz0 kb hwf
  go_upto_region 3 with fail
  try rw [hsb]
  clear hsb
  generalize World.alloc w1 _ = w2 at *
  go_wp2_with fail
  with_reducible refine (next_x _ _ _ _ (by omega) (by omega) tp2).mono ?_
  rintro e w3 ⟨q, q0, q1, rfl, tp3, g3⟩
  have hwq : IntKind.i64.wrap (1 + q) = 1 + q := IntWalk.i64_in _ (by omega)
  have O3 := O.past g3 (by omega)
  have R3 := R2.past g3 (Nat.lt_succ_self _)
  have G3 := G2.past g3 (Nat.le_refl _)
  have hw3 := Nat.le_trans hs2 g3.size
  clear O R2 G2 g3 tp2 hs2
  go_wp2_with fail
  with_reducible refine (next_x _ _ _ _ (by omega) (by omega) tp3).mono ?_
  rintro e w4 ⟨p, p0, p1, rfl, tp4, g4⟩
  have O4 := O3.past g4 (by omega)
  have R4 := R3.past g4 (Nat.lt_succ_self _)
  have G4 := G3.past g4 (Nat.le_refl _)
  have hw4 := Nat.le_trans hw3 g4.size
  clear O3 R3 G3 g4 tp3 hw3
  go_upto_if 29 with fail
  go_cut [5] (fun fv wx => MvCut w (w.heap.size + 1) w.heap.size sb x aa na ca ai ni ci ar nr cr fv wx)
  case first =>
    by_cases hp : p = 0
    · subst hp
      go_wp2_with fail
      with_reducible refine (odd_x _ _ _ tp4 hw4).mono ?_
      rintro e w5 ⟨z, rfl, tp5, g5⟩
      go_wp2
      go_meet
      exact ⟨z, rfl, R4.past g5 (Nat.lt_succ_self _), O4.past g5 (by omega), tp5, Nat.le_trans hw4 g5.size, G4.past g5 (Nat.le_refl _)⟩
    · have hpb : (p == 0) = false := beqF hp
      go_wp2
      go_meet
      exact ⟨1 + q, rfl, R4, O4, tp4, hw4, G4⟩
  case rest =>
    clear O4 R4 G4 tp4 hw4
    obtain ⟨f, rfl, R, O, tp, hwz, G⟩ := hcut
    go_wp2_with fail
    with_reducible refine (next_x _ _ _ _ (by omega) (by omega) tp).mono ?_
    rintro e w5 ⟨p, p0, p1, rfl, tp5, g5⟩
    have hO := O.past g5 (by omega)
    have HR := Lib.hid (R.past g5 (Nat.lt_succ_self _))
    have HG := Lib.hid (G.past g5 (Nat.le_refl _))
    have hz5 := Nat.le_trans hwz g5.size
    clear O R G g5 tp tp5 hwz
    obtain ⟨act, hact⟩ : ∃ act, (p == 0) = act := ⟨_, rfl⟩
    obtain ⟨xa, hxa⟩ : ∃ y, addX x f act = y := ⟨_, rfl⟩
    obtain ⟨ea, hea⟩ : ∃ y, addE x f = y := ⟨_, rfl⟩
    obtain ⟨xr, hxr⟩ : ∃ y, remX x f = y := ⟨_, rfl⟩
    obtain ⟨er, her⟩ : ∃ y, remE x f = y := ⟨_, rfl⟩
    obtain ⟨xt, hxt⟩ : ∃ y, touX x f = y := ⟨_, rfl⟩
    obtain ⟨xb, hxb⟩ : ∃ y, balX x = y := ⟨_, rfl⟩
    have HSA := Lib.hid (hxa ▸ addX_len HLN.out)
    have HSR := Lib.hid (hxr ▸ remX_len HLN.out)
    have HST := Lib.hid (hxt ▸ touX_len HLN.out)
    have HSB := Lib.hid (hxb ▸ balX_len HLN.out)
    have HXA := Lib.hid hxa
    have HEA := Lib.hid hea
    have HXR := Lib.hid hxr
    have HER := Lib.hid her
    have HXT := Lib.hid hxt
    have HXB := Lib.hid hxb
    have HSX := Lib.hid (show SmP x from ⟨by have := HLN.out.1; omega, by have := HLN.out.2.1; omega, by have := HLN.out.2.2; omega⟩)
    have hl1 : x.a.length + x.i.length ≤ 1000 := by have := HLN.out.1; have := HLN.out.2.1; omega
    have hl2 : x.r.length ≤ 1000 := by have := HLN.out.2.2; omega
    clear hxa hea hxr her hxt hxb
    obtain ⟨o0, o1, o2, o3, o4, o5⟩ := hO.three
    go_upto_region 7 with fail
    clear hact
    go_wp2_with fail
    with_reducible refine (add_v f act HR.out HSX.out HWF.out HXA.out HEA.out hz5).mono ?_
    rintro e v1 ⟨u1, u2, u3, rfl, RN, g⟩
    obtain ⟨a1a, c1a, rfl⟩ := RN.a.len
    obtain ⟨a1b, c1b, rfl⟩ := RN.i.len
    obtain ⟨a1c, c1c, rfl⟩ := RN.r.len
    obtain ⟨n1a, h1⟩ : ∃ n, xa.a.length = n := ⟨_, rfl⟩
    obtain ⟨n1b, h2⟩ : ∃ n, xa.i.length = n := ⟨_, rfl⟩
    obtain ⟨n1c, h3⟩ : ∃ n, xa.r.length = n := ⟨_, rfl⟩
    rw [h1, h2, h3] at RN ⊢
    clear h1 h2 h3
    have gb := g.trans ((Grew.refl v1).alloc (.cells #[.slice a1a n1a c1a, .slice a1b n1b c1b, .slice a1c n1c c1c] 27))
    have P1 := Mine.Own.new v1 27 #[.slice a1a n1a c1a, .slice a1b n1b c1b, .slice a1c n1c c1c]
    have HN1 := Lib.hid (RN.grew ((Grew.refl v1).alloc (.cells #[.slice a1a n1a c1a, .slice a1b n1b c1b, .slice a1c n1c c1c] 27)))
    replace hO := hO.grew gb
    replace HR := Lib.hid (HR.out.grew gb)
    replace HG := Lib.hid (HG.out.trans gb)
    replace hz5 := Nat.le_trans hz5 gb.size
    obtain ⟨s1, hs⟩ : ∃ s, v1.heap.size = s := ⟨_, rfl⟩
    rw [hs] at P1
    clear g gb RN o0 o1 o2 o3 o4 o5
    go_upto_region 8 with fail
    try rw [hs]
    clear hs
    generalize World.alloc v1 _ = w11 at *
    obtain ⟨o0, o1, o2, o3, o4, o5⟩ := hO.three
    go_wp2_with fail
    with_reducible refine (add_q _ _ _ x f act _ HR.out HSX.out hz5 HXA.out HEA.out).mono ?_
    rintro e v2 ⟨u1, u2, u3, rfl, RN, g⟩
    obtain ⟨a2a, c2a, rfl⟩ := RN.a.len
    obtain ⟨a2b, c2b, rfl⟩ := RN.i.len
    obtain ⟨a2c, c2c, rfl⟩ := RN.r.len
    obtain ⟨n2a, h1⟩ : ∃ n, xa.a.length = n := ⟨_, rfl⟩
    obtain ⟨n2b, h2⟩ : ∃ n, xa.i.length = n := ⟨_, rfl⟩
    obtain ⟨n2c, h3⟩ : ∃ n, xa.r.length = n := ⟨_, rfl⟩
    rw [h1, h2, h3] at RN ⊢
    clear h1 h2 h3
    have gb := g.trans ((Grew.refl v2).alloc (.cells #[.slice a2a n2a c2a, .slice a2b n2b c2b, .slice a2c n2c c2c] 27))
    have P2 := Mine.Own.new v2 27 #[.slice a2a n2a c2a, .slice a2b n2b c2b, .slice a2c n2c c2c]
    have HN2 := Lib.hid (RN.grew ((Grew.refl v2).alloc (.cells #[.slice a2a n2a c2a, .slice a2b n2b c2b, .slice a2c n2c c2c] 27)))
    replace hO := hO.grew gb
    replace P1 := P1.grew gb
    replace HN1 := Lib.hid (HN1.out.grew gb)
    replace HR := Lib.hid (HR.out.grew gb)
    replace HG := Lib.hid (HG.out.trans gb)
    replace hz5 := Nat.le_trans hz5 gb.size
    obtain ⟨s2, hs⟩ : ∃ s, v2.heap.size = s := ⟨_, rfl⟩
    rw [hs] at P2
    clear g gb RN o0 o1 o2 o3 o4 o5
    go_upto_region 9 with fail
    try rw [hs]
    clear hs
    generalize World.alloc v2 _ = w12 at *
    obtain ⟨o0, o1, o2, o3, o4, o5⟩ := hO.three
    go_wp2_with fail
    with_reducible refine (rem_v f HR.out HSX.out HWF.out HXR.out HER.out hz5).mono ?_
    rintro e v3 ⟨u1, u2, u3, rfl, RN, g⟩
    obtain ⟨a3a, c3a, rfl⟩ := RN.a.len
    obtain ⟨a3b, c3b, rfl⟩ := RN.i.len
    obtain ⟨a3c, c3c, rfl⟩ := RN.r.len
    obtain ⟨n3a, h1⟩ : ∃ n, xr.a.length = n := ⟨_, rfl⟩
    obtain ⟨n3b, h2⟩ : ∃ n, xr.i.length = n := ⟨_, rfl⟩
    obtain ⟨n3c, h3⟩ : ∃ n, xr.r.length = n := ⟨_, rfl⟩
    rw [h1, h2, h3] at RN ⊢
    clear h1 h2 h3
    have gb := g.trans ((Grew.refl v3).alloc (.cells #[.slice a3a n3a c3a, .slice a3b n3b c3b, .slice a3c n3c c3c] 27))
    have P3 := Mine.Own.new v3 27 #[.slice a3a n3a c3a, .slice a3b n3b c3b, .slice a3c n3c c3c]
    have HN3 := Lib.hid (RN.grew ((Grew.refl v3).alloc (.cells #[.slice a3a n3a c3a, .slice a3b n3b c3b, .slice a3c n3c c3c] 27)))
    replace hO := hO.grew gb
    replace P1 := P1.grew gb
    replace HN1 := Lib.hid (HN1.out.grew gb)
    replace P2 := P2.grew gb
    replace HN2 := Lib.hid (HN2.out.grew gb)
    replace HR := Lib.hid (HR.out.grew gb)
    replace HG := Lib.hid (HG.out.trans gb)
    replace hz5 := Nat.le_trans hz5 gb.size
    obtain ⟨s3, hs⟩ : ∃ s, v3.heap.size = s := ⟨_, rfl⟩
    rw [hs] at P3
    clear g gb RN o0 o1 o2 o3 o4 o5
    go_upto_region 10 with fail
    try rw [hs]
    clear hs
    generalize World.alloc v3 _ = w13 at *
    obtain ⟨o0, o1, o2, o3, o4, o5⟩ := hO.three
    go_wp2_with fail
    with_reducible refine (rem_q _ _ _ x f _ HR.out HSX.out hz5 HXR.out HER.out).mono ?_
    rintro e v4 ⟨u1, u2, u3, rfl, RN, g⟩
    obtain ⟨a4a, c4a, rfl⟩ := RN.a.len
    obtain ⟨a4b, c4b, rfl⟩ := RN.i.len
    obtain ⟨a4c, c4c, rfl⟩ := RN.r.len
    obtain ⟨n4a, h1⟩ : ∃ n, xr.a.length = n := ⟨_, rfl⟩
    obtain ⟨n4b, h2⟩ : ∃ n, xr.i.length = n := ⟨_, rfl⟩
    obtain ⟨n4c, h3⟩ : ∃ n, xr.r.length = n := ⟨_, rfl⟩
    rw [h1, h2, h3] at RN ⊢
    clear h1 h2 h3
    have gb := g.trans ((Grew.refl v4).alloc (.cells #[.slice a4a n4a c4a, .slice a4b n4b c4b, .slice a4c n4c c4c] 27))
    have P4 := Mine.Own.new v4 27 #[.slice a4a n4a c4a, .slice a4b n4b c4b, .slice a4c n4c c4c]
    have HN4 := Lib.hid (RN.grew ((Grew.refl v4).alloc (.cells #[.slice a4a n4a c4a, .slice a4b n4b c4b, .slice a4c n4c c4c] 27)))
    replace hO := hO.grew gb
    replace P1 := P1.grew gb
    replace HN1 := Lib.hid (HN1.out.grew gb)
    replace P2 := P2.grew gb
    replace HN2 := Lib.hid (HN2.out.grew gb)
    replace P3 := P3.grew gb
    replace HN3 := Lib.hid (HN3.out.grew gb)
    replace HR := Lib.hid (HR.out.grew gb)
    replace HG := Lib.hid (HG.out.trans gb)
    replace hz5 := Nat.le_trans hz5 gb.size
    obtain ⟨s4, hs⟩ : ∃ s, v4.heap.size = s := ⟨_, rfl⟩
    rw [hs] at P4
    clear g gb RN o0 o1 o2 o3 o4 o5
    go_upto_region 11 with fail
    try rw [hs]
    clear hs
    generalize World.alloc v4 _ = w14 at *
    obtain ⟨o0, o1, o2, o3, o4, o5⟩ := hO.three
    go_wp2_with fail
    with_reducible refine (tou_v f HR.out HSX.out HWF.out HXT.out HER.out hz5).mono ?_
    rintro e v5 ⟨u1, u2, u3, rfl, RN, g⟩
    obtain ⟨a5a, c5a, rfl⟩ := RN.a.len
    obtain ⟨a5b, c5b, rfl⟩ := RN.i.len
    obtain ⟨a5c, c5c, rfl⟩ := RN.r.len
    obtain ⟨n5a, h1⟩ : ∃ n, xt.a.length = n := ⟨_, rfl⟩
    obtain ⟨n5b, h2⟩ : ∃ n, xt.i.length = n := ⟨_, rfl⟩
    obtain ⟨n5c, h3⟩ : ∃ n, xt.r.length = n := ⟨_, rfl⟩
    rw [h1, h2, h3] at RN ⊢
    clear h1 h2 h3
    have gb := g.trans ((Grew.refl v5).alloc (.cells #[.slice a5a n5a c5a, .slice a5b n5b c5b, .slice a5c n5c c5c] 27))
    have P5 := Mine.Own.new v5 27 #[.slice a5a n5a c5a, .slice a5b n5b c5b, .slice a5c n5c c5c]
    have HN5 := Lib.hid (RN.grew ((Grew.refl v5).alloc (.cells #[.slice a5a n5a c5a, .slice a5b n5b c5b, .slice a5c n5c c5c] 27)))
    replace hO := hO.grew gb
    replace P1 := P1.grew gb
    replace HN1 := Lib.hid (HN1.out.grew gb)
    replace P2 := P2.grew gb
    replace HN2 := Lib.hid (HN2.out.grew gb)
    replace P3 := P3.grew gb
    replace HN3 := Lib.hid (HN3.out.grew gb)
    replace P4 := P4.grew gb
    replace HN4 := Lib.hid (HN4.out.grew gb)
    replace HR := Lib.hid (HR.out.grew gb)
    replace HG := Lib.hid (HG.out.trans gb)
    replace hz5 := Nat.le_trans hz5 gb.size
    obtain ⟨s5, hs⟩ : ∃ s, v5.heap.size = s := ⟨_, rfl⟩
    rw [hs] at P5
    clear g gb RN o0 o1 o2 o3 o4 o5
    go_upto_region 12 with fail
    try rw [hs]
    clear hs
    generalize World.alloc v5 _ = w15 at *
    obtain ⟨o0, o1, o2, o3, o4, o5⟩ := hO.three
    go_wp2_with fail
    with_reducible refine (tou_q _ _ _ x f _ HR.out HSX.out hz5 HXT.out HER.out).mono ?_
    rintro e v6 ⟨u1, u2, u3, rfl, RN, g⟩
    obtain ⟨a6a, c6a, rfl⟩ := RN.a.len
    obtain ⟨a6b, c6b, rfl⟩ := RN.i.len
    obtain ⟨a6c, c6c, rfl⟩ := RN.r.len
    obtain ⟨n6a, h1⟩ : ∃ n, xt.a.length = n := ⟨_, rfl⟩
    obtain ⟨n6b, h2⟩ : ∃ n, xt.i.length = n := ⟨_, rfl⟩
    obtain ⟨n6c, h3⟩ : ∃ n, xt.r.length = n := ⟨_, rfl⟩
    rw [h1, h2, h3] at RN ⊢
    clear h1 h2 h3
    have gb := g.trans ((Grew.refl v6).alloc (.cells #[.slice a6a n6a c6a, .slice a6b n6b c6b, .slice a6c n6c c6c] 27))
    have P6 := Mine.Own.new v6 27 #[.slice a6a n6a c6a, .slice a6b n6b c6b, .slice a6c n6c c6c]
    have HN6 := Lib.hid (RN.grew ((Grew.refl v6).alloc (.cells #[.slice a6a n6a c6a, .slice a6b n6b c6b, .slice a6c n6c c6c] 27)))
    replace hO := hO.grew gb
    replace P1 := P1.grew gb
    replace HN1 := Lib.hid (HN1.out.grew gb)
    replace P2 := P2.grew gb
    replace HN2 := Lib.hid (HN2.out.grew gb)
    replace P3 := P3.grew gb
    replace HN3 := Lib.hid (HN3.out.grew gb)
    replace P4 := P4.grew gb
    replace HN4 := Lib.hid (HN4.out.grew gb)
    replace P5 := P5.grew gb
    replace HN5 := Lib.hid (HN5.out.grew gb)
    replace HR := Lib.hid (HR.out.grew gb)
    replace HG := Lib.hid (HG.out.trans gb)
    replace hz5 := Nat.le_trans hz5 gb.size
    obtain ⟨s6, hs⟩ : ∃ s, v6.heap.size = s := ⟨_, rfl⟩
    rw [hs] at P6
    clear g gb RN o0 o1 o2 o3 o4 o5
    go_upto_region 13 with fail
    try rw [hs]
    clear hs
    generalize World.alloc v6 _ = w16 at *
    obtain ⟨o0, o1, o2, o3, o4, o5⟩ := hO.three
    obtain ⟨ob, hob⟩ : ∃ ob, okB x = ob := ⟨_, rfl⟩
    have HOB := Lib.hid hob
    clear hob o0 o1 o2 o3 o4 o5
    replace hO := hO.drew
    replace HR := Lib.hid HR.out.drew
    replace HG := Lib.hid HG.out.drew
    replace hz5 : w.heap.size + 1 ≤ w16.drew.heap.size := hz5
    replace P1 := P1.drew
    replace HN1 := Lib.hid HN1.out.drew
    replace P2 := P2.drew
    replace HN2 := Lib.hid HN2.out.drew
    replace P3 := P3.drew
    replace HN3 := Lib.hid HN3.out.drew
    replace P4 := P4.drew
    replace HN4 := Lib.hid HN4.out.drew
    replace P5 := P5.drew
    replace HN5 := Lib.hid HN5.out.drew
    replace P6 := P6.drew
    replace HN6 := Lib.hid HN6.out.drew
    obtain ⟨o0, o1, o2, -⟩ := hO.three
    obtain ⟨p10, p11, p12, -⟩ := P1.three
    obtain ⟨p20, p21, p22, -⟩ := P2.three
    obtain ⟨p30, p31, p32, -⟩ := P3.three
    obtain ⟨p40, p41, p42, -⟩ := P4.three
    obtain ⟨p50, p51, p52, -⟩ := P5.three
    obtain ⟨p60, p61, p62, -⟩ := P6.three
    go_region_held3 (fun w' => w'.cell? ⟨sb, 0, none⟩ = some (.slice aa na ca) ∧ w'.cell? ⟨sb, 1, none⟩ = some (.slice ai ni ci) ∧ w'.cell? ⟨sb, 2, none⟩ = some (.slice ar nr cr) ∧ w'.cell? ⟨s1, 0, none⟩ = some (.slice a1a n1a c1a) ∧ w'.cell? ⟨s1, 1, none⟩ = some (.slice a1b n1b c1b) ∧ w'.cell? ⟨s1, 2, none⟩ = some (.slice a1c n1c c1c) ∧ w'.cell? ⟨s2, 0, none⟩ = some (.slice a2a n2a c2a) ∧ w'.cell? ⟨s2, 1, none⟩ = some (.slice a2b n2b c2b) ∧ w'.cell? ⟨s2, 2, none⟩ = some (.slice a2c n2c c2c) ∧ w'.cell? ⟨s3, 0, none⟩ = some (.slice a3a n3a c3a) ∧ w'.cell? ⟨s3, 1, none⟩ = some (.slice a3b n3b c3b) ∧ w'.cell? ⟨s3, 2, none⟩ = some (.slice a3c n3c c3c) ∧ w'.cell? ⟨s4, 0, none⟩ = some (.slice a4a n4a c4a) ∧ w'.cell? ⟨s4, 1, none⟩ = some (.slice a4b n4b c4b) ∧ w'.cell? ⟨s4, 2, none⟩ = some (.slice a4c n4c c4c) ∧ w'.cell? ⟨s5, 0, none⟩ = some (.slice a5a n5a c5a) ∧ w'.cell? ⟨s5, 1, none⟩ = some (.slice a5b n5b c5b) ∧ w'.cell? ⟨s5, 2, none⟩ = some (.slice a5c n5c c5c) ∧ w'.cell? ⟨s6, 0, none⟩ = some (.slice a6a n6a c6a) ∧ w'.cell? ⟨s6, 1, none⟩ = some (.slice a6b n6b c6b) ∧ w'.cell? ⟨s6, 2, none⟩ = some (.slice a6c n6c c6c))
      (refine ⟨?_, ?_, ?_, ?_, ?_, ?_, ?_, ?_, ?_, ?_, ?_, ?_, ?_, ?_, ?_, ?_, ?_, ?_, ?_, ?_, ?_⟩ <;> assumption)
      (first
       | (go_at_call 18; (with_reducible refine (pchk_v _ _ _ _ _ HR.out HSX.out HWF.out HOB.out).mono ?_); rintro e vx ⟨rfl, g⟩
          replace hO := hO.grew g
          replace P1 := P1.grew g
          replace HN1 := Lib.hid (HN1.out.grew g)
          replace P2 := P2.grew g
          replace HN2 := Lib.hid (HN2.out.grew g)
          replace P3 := P3.grew g
          replace HN3 := Lib.hid (HN3.out.grew g)
          replace P4 := P4.grew g
          replace HN4 := Lib.hid (HN4.out.grew g)
          replace P5 := P5.grew g
          replace HN5 := Lib.hid (HN5.out.grew g)
          replace P6 := P6.grew g
          replace HN6 := Lib.hid (HN6.out.grew g)
          replace HR := Lib.hid (HR.out.grew g)
          replace HG := Lib.hid (HG.out.trans g)
          replace hz5 := Nat.le_trans hz5 g.size
          clear g o0 o1 o2 p10 p11 p12 p20 p21 p22 p30 p31 p32 p40 p41 p42 p50 p51 p52 p60 p61 p62
          obtain ⟨o0, o1, o2, -⟩ := hO.three
          obtain ⟨p10, p11, p12, -⟩ := P1.three
          obtain ⟨p20, p21, p22, -⟩ := P2.three
          obtain ⟨p30, p31, p32, -⟩ := P3.three
          obtain ⟨p40, p41, p42, -⟩ := P4.three
          obtain ⟨p50, p51, p52, -⟩ := P5.three
          obtain ⟨p60, p61, p62, -⟩ := P6.three)
       | (go_at_call 19; (with_reducible refine (check_v _ _ _ _ _ HR.out HSX.out HOB.out).mono ?_); rintro e vx ⟨rfl, g⟩
          replace hO := hO.grew g
          replace P1 := P1.grew g
          replace HN1 := Lib.hid (HN1.out.grew g)
          replace P2 := P2.grew g
          replace HN2 := Lib.hid (HN2.out.grew g)
          replace P3 := P3.grew g
          replace HN3 := Lib.hid (HN3.out.grew g)
          replace P4 := P4.grew g
          replace HN4 := Lib.hid (HN4.out.grew g)
          replace P5 := P5.grew g
          replace HN5 := Lib.hid (HN5.out.grew g)
          replace P6 := P6.grew g
          replace HN6 := Lib.hid (HN6.out.grew g)
          replace HR := Lib.hid (HR.out.grew g)
          replace HG := Lib.hid (HG.out.trans g)
          replace hz5 := Nat.le_trans hz5 g.size
          clear g o0 o1 o2 p10 p11 p12 p20 p21 p22 p30 p31 p32 p40 p41 p42 p50 p51 p52 p60 p61 p62
          obtain ⟨o0, o1, o2, -⟩ := hO.three
          obtain ⟨p10, p11, p12, -⟩ := P1.three
          obtain ⟨p20, p21, p22, -⟩ := P2.three
          obtain ⟨p30, p31, p32, -⟩ := P3.three
          obtain ⟨p40, p41, p42, -⟩ := P4.three
          obtain ⟨p50, p51, p52, -⟩ := P5.three
          obtain ⟨p60, p61, p62, -⟩ := P6.three)
       | (go_at_call 20; (with_reducible refine (same_lru (.slice a1a n1a c1a) (.slice a1b n1b c1b) (.slice a1c n1c c1c) (.slice a2a n2a c2a) (.slice a2b n2b c2b) (.slice a2c n2c c2c) xa _ HN1.out HN2.out HSA.out).mono ?_); rintro e vx ⟨rfl, g⟩
          replace hO := hO.grew g
          replace P1 := P1.grew g
          replace HN1 := Lib.hid (HN1.out.grew g)
          replace P2 := P2.grew g
          replace HN2 := Lib.hid (HN2.out.grew g)
          replace P3 := P3.grew g
          replace HN3 := Lib.hid (HN3.out.grew g)
          replace P4 := P4.grew g
          replace HN4 := Lib.hid (HN4.out.grew g)
          replace P5 := P5.grew g
          replace HN5 := Lib.hid (HN5.out.grew g)
          replace P6 := P6.grew g
          replace HN6 := Lib.hid (HN6.out.grew g)
          replace HR := Lib.hid (HR.out.grew g)
          replace HG := Lib.hid (HG.out.trans g)
          replace hz5 := Nat.le_trans hz5 g.size
          clear g o0 o1 o2 p10 p11 p12 p20 p21 p22 p30 p31 p32 p40 p41 p42 p50 p51 p52 p60 p61 p62
          obtain ⟨o0, o1, o2, -⟩ := hO.three
          obtain ⟨p10, p11, p12, -⟩ := P1.three
          obtain ⟨p20, p21, p22, -⟩ := P2.three
          obtain ⟨p30, p31, p32, -⟩ := P3.three
          obtain ⟨p40, p41, p42, -⟩ := P4.three
          obtain ⟨p50, p51, p52, -⟩ := P5.three
          obtain ⟨p60, p61, p62, -⟩ := P6.three)
       | (go_at_call 20; (with_reducible refine (same_lru (.slice a3a n3a c3a) (.slice a3b n3b c3b) (.slice a3c n3c c3c) (.slice a4a n4a c4a) (.slice a4b n4b c4b) (.slice a4c n4c c4c) xr _ HN3.out HN4.out HSR.out).mono ?_); rintro e vx ⟨rfl, g⟩
          replace hO := hO.grew g
          replace P1 := P1.grew g
          replace HN1 := Lib.hid (HN1.out.grew g)
          replace P2 := P2.grew g
          replace HN2 := Lib.hid (HN2.out.grew g)
          replace P3 := P3.grew g
          replace HN3 := Lib.hid (HN3.out.grew g)
          replace P4 := P4.grew g
          replace HN4 := Lib.hid (HN4.out.grew g)
          replace P5 := P5.grew g
          replace HN5 := Lib.hid (HN5.out.grew g)
          replace P6 := P6.grew g
          replace HN6 := Lib.hid (HN6.out.grew g)
          replace HR := Lib.hid (HR.out.grew g)
          replace HG := Lib.hid (HG.out.trans g)
          replace hz5 := Nat.le_trans hz5 g.size
          clear g o0 o1 o2 p10 p11 p12 p20 p21 p22 p30 p31 p32 p40 p41 p42 p50 p51 p52 p60 p61 p62
          obtain ⟨o0, o1, o2, -⟩ := hO.three
          obtain ⟨p10, p11, p12, -⟩ := P1.three
          obtain ⟨p20, p21, p22, -⟩ := P2.three
          obtain ⟨p30, p31, p32, -⟩ := P3.three
          obtain ⟨p40, p41, p42, -⟩ := P4.three
          obtain ⟨p50, p51, p52, -⟩ := P5.three
          obtain ⟨p60, p61, p62, -⟩ := P6.three)
       | (go_at_call 20; (with_reducible refine (same_lru (.slice a5a n5a c5a) (.slice a5b n5b c5b) (.slice a5c n5c c5c) (.slice a6a n6a c6a) (.slice a6b n6b c6b) (.slice a6c n6c c6c) xt _ HN5.out HN6.out HST.out).mono ?_); rintro e vx ⟨rfl, g⟩
          replace hO := hO.grew g
          replace P1 := P1.grew g
          replace HN1 := Lib.hid (HN1.out.grew g)
          replace P2 := P2.grew g
          replace HN2 := Lib.hid (HN2.out.grew g)
          replace P3 := P3.grew g
          replace HN3 := Lib.hid (HN3.out.grew g)
          replace P4 := P4.grew g
          replace HN4 := Lib.hid (HN4.out.grew g)
          replace P5 := P5.grew g
          replace HN5 := Lib.hid (HN5.out.grew g)
          replace P6 := P6.grew g
          replace HN6 := Lib.hid (HN6.out.grew g)
          replace HR := Lib.hid (HR.out.grew g)
          replace HG := Lib.hid (HG.out.trans g)
          replace hz5 := Nat.le_trans hz5 g.size
          clear g o0 o1 o2 p10 p11 p12 p20 p21 p22 p30 p31 p32 p40 p41 p42 p50 p51 p52 p60 p61 p62
          obtain ⟨o0, o1, o2, -⟩ := hO.three
          obtain ⟨p10, p11, p12, -⟩ := P1.three
          obtain ⟨p20, p21, p22, -⟩ := P2.three
          obtain ⟨p30, p31, p32, -⟩ := P3.three
          obtain ⟨p40, p41, p42, -⟩ := P4.three
          obtain ⟨p50, p51, p52, -⟩ := P5.three
          obtain ⟨p60, p61, p62, -⟩ := P6.three)
       | (go_at_call 21; (with_reducible refine (bal_v HR.out hl1 hl2 HWF.out HXB.out hz5).mono ?_); rintro e vx ⟨b1, b2, b3, rfl, RB, g⟩
          replace hO := hO.grew g
          replace P1 := P1.grew g
          replace HN1 := Lib.hid (HN1.out.grew g)
          replace P2 := P2.grew g
          replace HN2 := Lib.hid (HN2.out.grew g)
          replace P3 := P3.grew g
          replace HN3 := Lib.hid (HN3.out.grew g)
          replace P4 := P4.grew g
          replace HN4 := Lib.hid (HN4.out.grew g)
          replace P5 := P5.grew g
          replace HN5 := Lib.hid (HN5.out.grew g)
          replace P6 := P6.grew g
          replace HN6 := Lib.hid (HN6.out.grew g)
          replace HR := Lib.hid (HR.out.grew g)
          replace HG := Lib.hid (HG.out.trans g)
          replace hz5 := Nat.le_trans hz5 g.size
          have HRB := Lib.hid RB
          clear RB
          clear g o0 o1 o2 p10 p11 p12 p20 p21 p22 p30 p31 p32 p40 p41 p42 p50 p51 p52 p60 p61 p62
          obtain ⟨o0, o1, o2, -⟩ := hO.three
          obtain ⟨p10, p11, p12, -⟩ := P1.three
          obtain ⟨p20, p21, p22, -⟩ := P2.three
          obtain ⟨p30, p31, p32, -⟩ := P3.three
          obtain ⟨p40, p41, p42, -⟩ := P4.three
          obtain ⟨p50, p51, p52, -⟩ := P5.three
          obtain ⟨p60, p61, p62, -⟩ := P6.three)
       | (go_at_call 22; (with_reducible refine (bal_q _ _ _ x _ HR.out hl1 hl2 hz5 HXB.out).mono ?_); rintro e vx ⟨d1, d2, d3, rfl, RD, g⟩
          replace hO := hO.grew g
          replace P1 := P1.grew g
          replace HN1 := Lib.hid (HN1.out.grew g)
          replace P2 := P2.grew g
          replace HN2 := Lib.hid (HN2.out.grew g)
          replace P3 := P3.grew g
          replace HN3 := Lib.hid (HN3.out.grew g)
          replace P4 := P4.grew g
          replace HN4 := Lib.hid (HN4.out.grew g)
          replace P5 := P5.grew g
          replace HN5 := Lib.hid (HN5.out.grew g)
          replace P6 := P6.grew g
          replace HN6 := Lib.hid (HN6.out.grew g)
          replace HR := Lib.hid (HR.out.grew g)
          replace HG := Lib.hid (HG.out.trans g)
          replace hz5 := Nat.le_trans hz5 g.size
          have HRD := Lib.hid RD
          replace HRB := Lib.hid (HRB.out.grew g)
          clear RD
          clear g o0 o1 o2 p10 p11 p12 p20 p21 p22 p30 p31 p32 p40 p41 p42 p50 p51 p52 p60 p61 p62
          obtain ⟨o0, o1, o2, -⟩ := hO.three
          obtain ⟨p10, p11, p12, -⟩ := P1.three
          obtain ⟨p20, p21, p22, -⟩ := P2.three
          obtain ⟨p30, p31, p32, -⟩ := P3.three
          obtain ⟨p40, p41, p42, -⟩ := P4.three
          obtain ⟨p50, p51, p52, -⟩ := P5.three
          obtain ⟨p60, p61, p62, -⟩ := P6.three)
       | (go_at_call 20; (with_reducible refine (same_lru b1 b2 b3 d1 d2 d3 xb _ HRB.out HRD.out HSB.out).mono ?_); rintro e vx ⟨rfl, g⟩
          replace hO := hO.grew g
          replace P1 := P1.grew g
          replace HN1 := Lib.hid (HN1.out.grew g)
          replace P2 := P2.grew g
          replace HN2 := Lib.hid (HN2.out.grew g)
          replace P3 := P3.grew g
          replace HN3 := Lib.hid (HN3.out.grew g)
          replace P4 := P4.grew g
          replace HN4 := Lib.hid (HN4.out.grew g)
          replace P5 := P5.grew g
          replace HN5 := Lib.hid (HN5.out.grew g)
          replace P6 := P6.grew g
          replace HN6 := Lib.hid (HN6.out.grew g)
          replace HR := Lib.hid (HR.out.grew g)
          replace HG := Lib.hid (HG.out.trans g)
          replace hz5 := Nat.le_trans hz5 g.size
          clear g o0 o1 o2 p10 p11 p12 p20 p21 p22 p30 p31 p32 p40 p41 p42 p50 p51 p52 p60 p61 p62
          obtain ⟨o0, o1, o2, -⟩ := hO.three
          obtain ⟨p10, p11, p12, -⟩ := P1.three
          obtain ⟨p20, p21, p22, -⟩ := P2.three
          obtain ⟨p30, p31, p32, -⟩ := P3.three
          obtain ⟨p40, p41, p42, -⟩ := P4.three
          obtain ⟨p50, p51, p52, -⟩ := P5.three
          obtain ⟨p60, p61, p62, -⟩ := P6.three)
       | (go_at_call 23; (with_reducible refine (awake_any _).mono ?_); rintro e vx ⟨rfl, g⟩
          replace hO := hO.grew g
          replace P1 := P1.grew g
          replace HN1 := Lib.hid (HN1.out.grew g)
          replace P2 := P2.grew g
          replace HN2 := Lib.hid (HN2.out.grew g)
          replace P3 := P3.grew g
          replace HN3 := Lib.hid (HN3.out.grew g)
          replace P4 := P4.grew g
          replace HN4 := Lib.hid (HN4.out.grew g)
          replace P5 := P5.grew g
          replace HN5 := Lib.hid (HN5.out.grew g)
          replace P6 := P6.grew g
          replace HN6 := Lib.hid (HN6.out.grew g)
          replace HR := Lib.hid (HR.out.grew g)
          replace HG := Lib.hid (HG.out.trans g)
          replace hz5 := Nat.le_trans hz5 g.size
          clear g o0 o1 o2 p10 p11 p12 p20 p21 p22 p30 p31 p32 p40 p41 p42 p50 p51 p52 p60 p61 p62
          obtain ⟨o0, o1, o2, -⟩ := hO.three
          obtain ⟨p10, p11, p12, -⟩ := P1.three
          obtain ⟨p20, p21, p22, -⟩ := P2.three
          obtain ⟨p30, p31, p32, -⟩ := P3.three
          obtain ⟨p40, p41, p42, -⟩ := P4.three
          obtain ⟨p50, p51, p52, -⟩ := P5.three
          obtain ⟨p60, p61, p62, -⟩ := P6.three))
    go_wp2
    go_ret
    exact ⟨rfl, HG.out⟩

theorem Try.own : ownKnob Try.prog.godebug = none := by kernel_rfl
theorem Try.laidOut : laidOutB Try.prog = true := by kernel_rfl

theorem lruMoves_contract (W : World) (base : Nat) (args : Array Value) (H : Type) (enc : TypeId × Value → H) (ds : List (DataW H)) (p : List MemPlace)
    (hval : ∀ (j : Nat) t v, Try.f3.params[j]? = some t → args[j]? = some v → Value.okWide Try.prog W .any base t v)
    (hA : DataW.TrodAll enc Try.prog W 0 (fun _ => true) true Try.f3.params.toList args.toList ds p) :
    (∃ d0, ds = [d0]) ∧ Calls Try.prog 3 args W fun e W' => e = .returned (.bool true) ∧ Below W.heap.size W W' := by
  rw [Try.params3] at hval hA
  obtain ⟨v0, d0, p0, ha, hd, hp, h0⟩ := args_1 hA
  subst ha hd
  obtain ⟨A0, c0, xs0, rfl, hr0, hm0⟩ := open_introw Try.underlying22 Try.underlying3 (by kernel_rfl) (hval 0 _ _ rfl rfl) h0
  exact ⟨⟨_, rfl⟩, (moves_core A0 c0 xs0 W hr0 hm0).mono fun _ _ h => h⟩

set_option maxRecDepth 100000 in
theorem lruMoves_lifted (os : Os) (started : os.Started) (H : Type) (enc : TypeId × Value → H) :
    ReturnsInHanded {} Try.checked os 3 .any (Rows.lruMovesSpec.pre6 enc Try.prog Try.f3 Rows.lruMovesRow.domain false) (Rows.lruMovesSpec.post enc Try.prog Try.f3 false true false false) := by
  refine returnsInHanded_of_change (C := Try.checked) Try.own started (by kernel_rfl) Try.func3
    (ChangeSpec.witness6 (enc := enc) (C := Try.checked) false ⟨#[], #[.slice none 0 0], []⟩ 8 (by kernel_rfl) (by kernel_rfl) (by kernel_rfl) (by kernel_rfl)) ?_
  intro W base args ds gs before hval hW _ _
  obtain ⟨p, q, hA, hV, hrest⟩ := id hW
  obtain ⟨⟨d0, rfl⟩, hc⟩ := lruMoves_contract W base args H enc ds p hval hA
  obtain ⟨rfl, -⟩ := trodVars_none hV
  refine hc.mono fun e W' ⟨he, hb⟩ => ⟨_, he, ?_⟩
  exact law_close (tb := 4) Try.laidOut (by rw [Try.params3]; decide +kernel) Try.underlying4 rfl rfl hW rfl rfl rfl hb

theorem lruMoves_holds : Rows.LruMovesSaid :=
  OpenClaim.holds_of_wide 3 Try.f3 rfl rfl rfl rfl rfl rfl rfl ⟨rfl, rfl, rfl, rfl, rfl⟩ rfl rfl rfl rfl rfl (by kernel_rfl) Try.func3 (by kernel_rfl)
    (of_decide_eq_true (by kernel_rfl)) (by unfold Func.isWrapper; first | (rw [if_pos (by decide +kernel)]; kernel_rfl) | (rw [if_neg (by decide +kernel)]; exact ⟨rfl, rfl⟩))
    (fun os started H enc _ => lruMoves_lifted os started H enc)
end Go.Proofs.Yteaofieijginhaa
