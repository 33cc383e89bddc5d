/- RadixWrites holds: what becomes of a tree by setting entries and marks, or which error there is. -/
import Derived.Test.YtdlhihllmidfeaaWr7
import Derived.Test.YtdlhihllmidfeaaRx15
import Derived.Test.YtdlhihllmidfeaaOdd
import Derived.Deep.RegionHeld3
import Derived.Deep.DeepCutAuto
import Derived.Laws.IdiomArrays
namespace Go.Proofs.Ytdlhihllmidfeaa
open Go.ChangeShapes Go.WideShapes Go.ChangeAt Go.RowKit Go.Mine

theorem open_arr3 {H : Type} {enc : TypeId × Value → H} {P : Program} {W : World} {r : Reach} {b0 base : Nat} {spare : Nat → Bool} {held : Bool} {t e : TypeId} {v : Value} {d : DataW H} {ps : List MemPlace}
    (ht : P.underlying t = some (.array 3 e)) (he : P.underlying e = some (.int .i64)) (hce : P.cellsOf e = 1) (hct : P.cellsOf t = 3) (hval : Value.okWide P W r b0 t v) (hd : DataW.Trod enc P W base spare held t v d ps) :
    ∃ a b c, v = .agg #[.int .i64 a, .int .i64 b, .int .i64 c] := by
  simp only [Value.okWide, ht] at hval
  obtain ⟨cs, rfl, hs, -⟩ := hval
  rw [hct] at hs
  obtain ⟨l⟩ := cs
  rcases l with _ | ⟨x, _ | ⟨y, _ | ⟨z, _ | ⟨u, l⟩⟩⟩⟩
  case cons.cons.cons.nil =>
    obtain ⟨fuel, hf⟩ := hd
    have hf2 : DataW.trod enc P W base spare held fuel t [x, y, z] = some (d, ps) := hf
    obtain ⟨y0, y1, y2, n, -, h0, h1, h2⟩ := trod_array3 ht hce hf2
    obtain ⟨a, e0, -, -⟩ := DataW.trod_int he h0
    obtain ⟨b, e1, -, -⟩ := DataW.trod_int he h1
    obtain ⟨c, e2, -, -⟩ := DataW.trod_int he h2
    simp only [List.cons.injEq, and_true] at e0 e1 e2
    subst e0 e1 e2
    exact ⟨a, b, c, rfl⟩
  all_goals simp at hs
set_option maxRecDepth 100000 in
set_option maxHeartbeats 16000000 in
theorem writes_core (A : Option Addr) (c : Nat) (xs : List Int) (n0 n1 n2 : Int) (A2 : Option Addr) (c2 : Nat) (xs2 : List Int) (w : World) (hr : IntRow w A xs) (hm : xs.length ≤ maxLen) (hr2 : IntRow w A2 xs2) (hm2 : xs2.length ≤ maxLen) :
    Calls Try.prog 4 #[.slice A xs.length c, .agg #[.int .i64 n0, .int .i64 n1, .int .i64 n2], .slice A2 xs2.length c2] w (RetG (.bool true) w) := by
  have gA := (Grew.refl w).alloc (.cells #[.int .i64 n0, .int .i64 n1, .int .i64 n2] 23)
  have HR := Lib.hid (introw_grew hr gA)
  have HM := Lib.hid hm
  have HR2 := Lib.hid hr2
  have HM2 := Lib.hid hm2
  obtain ⟨X, hX⟩ : ∃ X, xs.length = X := ⟨_, rfl⟩
  have HX := Lib.hid hX
  obtain ⟨X2, hX2⟩ : ∃ X, xs2.length = X := ⟨_, rfl⟩
  have HX2 := Lib.hid hX2
  rw [hX, hX2]
  clear hr hm hr2 hm2 hX hX2
  go_enter Try.func4, Try.ntmps4
  go_wp2_with fail
  have HD := Lib.hid (show Calls Try.prog 10 #[.slice A X c, .agg #[.int .i64 n0, .int .i64 n1, .int .i64 n2]] (w.alloc (.cells #[.int .i64 n0, .int .i64 n1, .int .i64 n2] 23)) (RetTL (w.alloc (.cells #[.int .i64 n0, .int .i64 n1, .int .i64 n2] 23))) from by
    have := drawn_x A c xs n0 n1 n2 _ HR.out HM.out
    rw [HX.out] at this
    exact this)
  with_reducible refine (HD.out).mono ?_
  rintro e w1 ⟨H, s, x, mm, L, rfl, T, g1⟩
  obtain ⟨a, j, c', rfl⟩ := T.slice
  replace gA := gA.trans g1
  have gt := (Grew.refl w1).alloc (.cells #[.int .i64 H, .slice a j c', .int .i64 x, .int .i64 mm] 28)
  have Ot := Own.new w1 28 #[.int .i64 H, .slice a j c', .int .i64 x, .int .i64 mm]
  have G2 := gA.trans gt
  have hA1 := gA.size
  have HT := Lib.hid T
  clear gA g1 T HD HR HM HX
  go_upto_region 2 with fail
  generalize hw2 : World.alloc w1 _ = w2 at *
  have hz2 := gt.size
  obtain ⟨tb, htb⟩ : ∃ tb, w1.heap.size = tb := ⟨_, rfl⟩
  rw [htb] at Ot hz2 hA1 ⊢
  clear hw2
  have tp := TapN.made HR2.out HM2.out rfl G2 c2 32
  have gl := (Grew.refl w2).alloc (.cells #[.slice A2 xs2.length c2, .int .i64 0] 32)
  have O3 := Ot.grew gl
  have G3 := G2.trans gl
  have K3 := Keeps.of (gt.trans gl)
  rw [HX2.out] at tp O3 G3 K3
  have hOt := Ot.lt
  clear Ot G2 gl gt HR2 HM2 HX2
  go_upto_region 3 with fail
  generalize World.alloc w2 _ = w3 at *
  obtain ⟨tk, htk2⟩ : ∃ tk, w2.heap.size = tk := ⟨_, rfl⟩
  rw [htk2] at tp ⊢
  have htb1 : tb < tk := by omega
  have htb2 : w.heap.size ≤ tk := by omega
  obtain ⟨o0, hT0⟩ := TvX.old (tb := tb) (tk := tk) HT.out (by omega) (by omega) K3
  have HTX := Lib.hid hT0
  have HO := Lib.hid O3
  have HG := Lib.hid G3
  have HTP := Lib.hid tp
  clear htb hz2 hOt htk2 hT0 O3 G3 K3 tp HT
  go_wp2_with fail
  go_loopw [9] (fun kv wr => ∃ (k : Nat) (H : Int) (a : Option Addr) (j c' : Nat) (x mm : Int) (o : Option Fen), kv = .int .i64 k ∧ k ≤ 6 ∧ Own wr tb 28 #[.int .i64 H, .slice a j c', .int .i64 x, .int .i64 mm] ∧ TvX tb tk wr H (.slice a j c') x mm o ∧ TapN w.heap.size wr tk ∧ Grew w wr) (fun kv _ => 6 - (intOf kv).toNat)
  case atStart => exact ⟨0, H, a, j, c', x, mm, o0, rfl, by omega, HO.out, HTX.out, HTP.out, HG.out⟩
  case round =>
    clear HO HTX HTP HG
    obtain ⟨k, H, a, j, c', x, mm, o, rfl, hk, O, TX, tp, gA⟩ := hrel
    obtain ⟨wo, rfl⟩ : ∃ wo : World, wo = wr := ⟨_, rfl⟩
    by_cases hlt : k < 6
    · have hltb : decide ((k : Int) < 6) = true := decide_eq_true (by omega)
      go_wp2_with fail
      with_reducible refine (end_n _ _ _ tp).mono ?_
      rintro e w4 ⟨q, rfl, tp4, g4⟩
      replace O := O.grew g4
      replace TX := TX.step (KeepX.of g4)
      replace gA := gA.trans g4
      clear tp g4
      cases q
      · skip
        have gm := (Grew.refl w4).alloc (.cells #[.int .i64 0, .int .i64 1, .int .i64 4, .int .i64 5, .int .i64 16, .int .i64 63, .int .i64 64, .int .i64 255, .int .i64 256, .int .i64 (-1)] 3)
        have Om := Own.new w4 3 #[.int .i64 0, .int .i64 1, .int .i64 4, .int .i64 5, .int .i64 16, .int .i64 63, .int .i64 64, .int .i64 255, .int .i64 256, .int .i64 (-1)]
        have lk4 := tp4.lt
        have tp5 := tp4.grew gm
        replace O := O.grew gm
        replace gA := gA.trans gm
        replace TX := TX.step (KeepX.of gm)
        clear tp4 gm
        go_wp2_with fail
        with_reducible refine (next_n _ _ _ _ (by omega) (by omega) tp5).mono ?_
        rintro e w5 ⟨q, q0, q1, rfl, tp4, g6⟩
        replace O := O.past g6 (by omega)
        replace gA := gA.past g6 htb2
        replace TX := TX.step (KeepX.tape (grown_trans (grown_refl _ _) g6))
        replace Om := Om.past g6 (by omega)
        obtain ⟨q, rfl⟩ := Int.eq_ofNat_of_zero_le q0
        obtain ⟨zi, hzi, -⟩ := int_at Om (by decide +kernel) q (by simp; omega)
        have lzi := Om.lt
        have lk5 := tp4.lt
        clear tp5 g6 Om q0
        go_upto_region 7 with fail
        clear hzi lzi lk4 lk5 q1
        have gm := (Grew.refl w5).alloc (.cells #[.int .i64 1, .int .i64 2, .int .i64 4, .int .i64 3, .int .i64 0] 3)
        have Om := Own.new w5 3 #[.int .i64 1, .int .i64 2, .int .i64 4, .int .i64 3, .int .i64 0]
        have lk4 := tp4.lt
        have tp5 := tp4.grew gm
        replace O := O.grew gm
        replace gA := gA.trans gm
        replace TX := TX.step (KeepX.of gm)
        clear tp4 gm
        go_wp2_with fail
        with_reducible refine (next_n _ _ _ _ (by omega) (by omega) tp5).mono ?_
        rintro e w6 ⟨q, q0, q1b, rfl, tp4, g6⟩
        replace O := O.past g6 (by omega)
        replace gA := gA.past g6 htb2
        replace TX := TX.step (KeepX.tape (grown_trans (grown_refl _ _) g6))
        replace Om := Om.past g6 (by omega)
        obtain ⟨qq, rfl⟩ := Int.eq_ofNat_of_zero_le q0
        obtain ⟨zm, hzm, -⟩ := int_at Om (by decide +kernel) qq (by simp; omega)
        have lzm := Om.lt
        have lk5 := tp4.lt
        clear tp5 g6 Om q0
        go_upto_region 8 with fail
        clear hzm lzm lk4 lk5 q1b
        go_wp2_with fail
        with_reducible refine (next_n _ _ _ _ (by omega) (by omega) tp4).mono ?_
        rintro e w7 ⟨q, q0, q1, rfl, tp5, g6⟩
        replace O := O.past g6 (by omega)
        replace gA := gA.past g6 htb2
        replace TX := TX.step (KeepX.tape g6)
        have hwv : (Lit.int .i64 (q - 2)).wf = true := WalkArith.wf_i64 (by omega)
        have HWV := Lib.hid hwv
        clear tp4 g6 hwv
        obtain ⟨t0, t1, t2, t3, -⟩ := O.four
        have lt3 := O.lt
        have hlk := tp5.lt
        have HO := Lib.hid O
        have HTX := Lib.hid TX
        have HG := Lib.hid gA
        have HTP := Lib.hid tp5
        clear O TX gA tp5
        obtain ⟨e1, he1⟩ : ∃ e, (setR o zi (q - 2)).2 = e := ⟨_, rfl⟩
        obtain ⟨e3, he3⟩ : ∃ e, (mrkR o zi zm true).2 = e := ⟨_, rfl⟩
        obtain ⟨e5, he5⟩ : ∃ e, (mrkR o zi zm false).2 = e := ⟨_, rfl⟩
        have HE1 := Lib.hid he1
        have HE3 := Lib.hid he3
        have HE5 := Lib.hid he5
        clear he1 he3 he5
        go_upto_region 9 with fail
        obtain ⟨v, hv⟩ : ∃ v, q - 2 = v := ⟨_, rfl⟩
        rw [hv] at HE1 HWV ⊢
        clear hv q0 q1
        go_wp2_with fail
        with_reducible refine (set_p H _ _ _ zi v o _ HTX.out.at HWV.out).mono ?_
        rintro e u1 ⟨k1, s1, x1, m1, rfl, n1, g1⟩
        rw [HE1.out]
        obtain ⟨a1, j1, c1, rfl⟩ := n1.node.slice
        have f1 := g1.alloc (.cells #[.int .i64 k1, .slice a1 j1 c1, .int .i64 x1, .int .i64 m1] 28)
        have B1 := Own.new u1 28 #[.int .i64 k1, .slice a1 j1 c1, .int .i64 x1, .int .i64 m1]
        have HN1 := Lib.hid ((n1.mono (q := fun b => tk < b) (fun b hb _ => Nat.lt_of_lt_of_le hlk hb)).grew ((Grew.refl u1).alloc (.cells #[.int .i64 k1, .slice a1 j1 c1, .int .i64 x1, .int .i64 m1] 28)))
        have hu1 : tk < u1.heap.size := Nat.lt_of_lt_of_le hlk g1.size
        replace HTX := Lib.hid (HTX.out.step (KeepX.of f1))
        replace HO := Lib.hid (HO.out.grew f1)
        replace HG := Lib.hid (HG.out.trans f1)
        replace HTP := Lib.hid (HTP.out.grew f1)
        clear t0 t1 t2 t3 lt3 hlk n1 g1 f1
        go_upto_region 10 with fail
        generalize hv1 : World.alloc u1 _ = v1 at *
        obtain ⟨b1, hb1⟩ : ∃ b, u1.heap.size = b := ⟨_, rfl⟩
        rw [hb1] at B1 hu1 ⊢
        have HB1 := Lib.hid B1
        clear hv1 hb1 B1
        obtain ⟨t0, t1, t2, t3, -⟩ := HO.out.four
        have lt3 := HO.out.lt
        have hlk := HTP.out.lt
        go_wp2_with fail
        with_reducible refine (set_q H _ _ _ zi v o _ HTX.out.at HWV.out).mono ?_
        rintro e u2 ⟨k2, s2, x2, m2, rfl, n2, g2⟩
        rw [HE1.out]
        obtain ⟨a2, j2, c2, rfl⟩ := n2.node.slice
        have f2 := g2.alloc (.cells #[.int .i64 k2, .slice a2 j2 c2, .int .i64 x2, .int .i64 m2] 28)
        have B2 := Own.new u2 28 #[.int .i64 k2, .slice a2 j2 c2, .int .i64 x2, .int .i64 m2]
        have HN2 := Lib.hid ((n2.mono (q := fun b => tk < b) (fun b hb _ => Nat.lt_of_lt_of_le hlk hb)).grew ((Grew.refl u2).alloc (.cells #[.int .i64 k2, .slice a2 j2 c2, .int .i64 x2, .int .i64 m2] 28)))
        have hu2 : tk < u2.heap.size := Nat.lt_of_lt_of_le hlk g2.size
        replace HTX := Lib.hid (HTX.out.step (KeepX.of f2))
        replace HO := Lib.hid (HO.out.grew f2)
        replace HG := Lib.hid (HG.out.trans f2)
        replace HTP := Lib.hid (HTP.out.grew f2)
        replace HB1 := Lib.hid (HB1.out.grew f2)
        replace HN1 := Lib.hid (HN1.out.grew f2)
        clear t0 t1 t2 t3 lt3 hlk n2 g2 f2
        go_upto_region 11 with fail
        generalize hv2 : World.alloc u2 _ = v2 at *
        obtain ⟨b2, hb2⟩ : ∃ b, u2.heap.size = b := ⟨_, rfl⟩
        rw [hb2] at B2 hu2 ⊢
        have HB2 := Lib.hid B2
        clear hv2 hb2 B2
        obtain ⟨t0, t1, t2, t3, -⟩ := HO.out.four
        have lt3 := HO.out.lt
        have hlk := HTP.out.lt
        go_wp2_with fail
        with_reducible refine (mark_p H _ _ _ zi zm o _ HTX.out.at).mono ?_
        rintro e u3 ⟨k3, s3, x3, m3, rfl, n3, g3⟩
        rw [HE3.out]
        obtain ⟨a3, j3, c3, rfl⟩ := n3.node.slice
        have f3 := g3.alloc (.cells #[.int .i64 k3, .slice a3 j3 c3, .int .i64 x3, .int .i64 m3] 28)
        have B3 := Own.new u3 28 #[.int .i64 k3, .slice a3 j3 c3, .int .i64 x3, .int .i64 m3]
        have HN3 := Lib.hid ((n3.mono (q := fun b => tk < b) (fun b hb _ => Nat.lt_of_lt_of_le hlk hb)).grew ((Grew.refl u3).alloc (.cells #[.int .i64 k3, .slice a3 j3 c3, .int .i64 x3, .int .i64 m3] 28)))
        have hu3 : tk < u3.heap.size := Nat.lt_of_lt_of_le hlk g3.size
        replace HTX := Lib.hid (HTX.out.step (KeepX.of f3))
        replace HO := Lib.hid (HO.out.grew f3)
        replace HG := Lib.hid (HG.out.trans f3)
        replace HTP := Lib.hid (HTP.out.grew f3)
        replace HB1 := Lib.hid (HB1.out.grew f3)
        replace HN1 := Lib.hid (HN1.out.grew f3)
        replace HB2 := Lib.hid (HB2.out.grew f3)
        replace HN2 := Lib.hid (HN2.out.grew f3)
        clear t0 t1 t2 t3 lt3 hlk n3 g3 f3
        go_upto_region 12 with fail
        generalize hv3 : World.alloc u3 _ = v3 at *
        obtain ⟨b3, hb3⟩ : ∃ b, u3.heap.size = b := ⟨_, rfl⟩
        rw [hb3] at B3 hu3 ⊢
        have HB3 := Lib.hid B3
        clear hv3 hb3 B3
        obtain ⟨t0, t1, t2, t3, -⟩ := HO.out.four
        have lt3 := HO.out.lt
        have hlk := HTP.out.lt
        go_wp2_with fail
        with_reducible refine (mark_q H _ _ _ zi zm o _ HTX.out.at).mono ?_
        rintro e u4 ⟨k4, s4, x4, m4, rfl, n4, g4⟩
        rw [HE3.out]
        obtain ⟨a4, j4, c4, rfl⟩ := n4.node.slice
        have f4 := g4.alloc (.cells #[.int .i64 k4, .slice a4 j4 c4, .int .i64 x4, .int .i64 m4] 28)
        have B4 := Own.new u4 28 #[.int .i64 k4, .slice a4 j4 c4, .int .i64 x4, .int .i64 m4]
        have HN4 := Lib.hid ((n4.mono (q := fun b => tk < b) (fun b hb _ => Nat.lt_of_lt_of_le hlk hb)).grew ((Grew.refl u4).alloc (.cells #[.int .i64 k4, .slice a4 j4 c4, .int .i64 x4, .int .i64 m4] 28)))
        have hu4 : tk < u4.heap.size := Nat.lt_of_lt_of_le hlk g4.size
        replace HTX := Lib.hid (HTX.out.step (KeepX.of f4))
        replace HO := Lib.hid (HO.out.grew f4)
        replace HG := Lib.hid (HG.out.trans f4)
        replace HTP := Lib.hid (HTP.out.grew f4)
        replace HB1 := Lib.hid (HB1.out.grew f4)
        replace HN1 := Lib.hid (HN1.out.grew f4)
        replace HB2 := Lib.hid (HB2.out.grew f4)
        replace HN2 := Lib.hid (HN2.out.grew f4)
        replace HB3 := Lib.hid (HB3.out.grew f4)
        replace HN3 := Lib.hid (HN3.out.grew f4)
        clear t0 t1 t2 t3 lt3 hlk n4 g4 f4
        go_upto_region 13 with fail
        generalize hv4 : World.alloc u4 _ = v4 at *
        obtain ⟨b4, hb4⟩ : ∃ b, u4.heap.size = b := ⟨_, rfl⟩
        rw [hb4] at B4 hu4 ⊢
        have HB4 := Lib.hid B4
        clear hv4 hb4 B4
        obtain ⟨t0, t1, t2, t3, -⟩ := HO.out.four
        have lt3 := HO.out.lt
        have hlk := HTP.out.lt
        go_wp2_with fail
        with_reducible refine (unmark_p H _ _ _ zi zm o _ HTX.out.at).mono ?_
        rintro e u5 ⟨k5, s5, x5, m5, rfl, n5, g5⟩
        rw [HE5.out]
        obtain ⟨a5, j5, c5, rfl⟩ := n5.node.slice
        have f5 := g5.alloc (.cells #[.int .i64 k5, .slice a5 j5 c5, .int .i64 x5, .int .i64 m5] 28)
        have B5 := Own.new u5 28 #[.int .i64 k5, .slice a5 j5 c5, .int .i64 x5, .int .i64 m5]
        have HN5 := Lib.hid ((n5.mono (q := fun b => tk < b) (fun b hb _ => Nat.lt_of_lt_of_le hlk hb)).grew ((Grew.refl u5).alloc (.cells #[.int .i64 k5, .slice a5 j5 c5, .int .i64 x5, .int .i64 m5] 28)))
        have hu5 : tk < u5.heap.size := Nat.lt_of_lt_of_le hlk g5.size
        replace HTX := Lib.hid (HTX.out.step (KeepX.of f5))
        replace HO := Lib.hid (HO.out.grew f5)
        replace HG := Lib.hid (HG.out.trans f5)
        replace HTP := Lib.hid (HTP.out.grew f5)
        replace HB1 := Lib.hid (HB1.out.grew f5)
        replace HN1 := Lib.hid (HN1.out.grew f5)
        replace HB2 := Lib.hid (HB2.out.grew f5)
        replace HN2 := Lib.hid (HN2.out.grew f5)
        replace HB3 := Lib.hid (HB3.out.grew f5)
        replace HN3 := Lib.hid (HN3.out.grew f5)
        replace HB4 := Lib.hid (HB4.out.grew f5)
        replace HN4 := Lib.hid (HN4.out.grew f5)
        clear t0 t1 t2 t3 lt3 hlk n5 g5 f5
        go_upto_region 14 with fail
        generalize hv5 : World.alloc u5 _ = v5 at *
        obtain ⟨b5, hb5⟩ : ∃ b, u5.heap.size = b := ⟨_, rfl⟩
        rw [hb5] at B5 hu5 ⊢
        have HB5 := Lib.hid B5
        clear hv5 hb5 B5
        obtain ⟨t0, t1, t2, t3, -⟩ := HO.out.four
        have lt3 := HO.out.lt
        have hlk := HTP.out.lt
        go_wp2_with fail
        with_reducible refine (unmark_q H _ _ _ zi zm o _ HTX.out.at).mono ?_
        rintro e u6 ⟨k6, s6, x6, m6, rfl, n6, g6⟩
        rw [HE5.out]
        obtain ⟨a6, j6, c6, rfl⟩ := n6.node.slice
        have f6 := g6.alloc (.cells #[.int .i64 k6, .slice a6 j6 c6, .int .i64 x6, .int .i64 m6] 28)
        have B6 := Own.new u6 28 #[.int .i64 k6, .slice a6 j6 c6, .int .i64 x6, .int .i64 m6]
        have HN6 := Lib.hid ((n6.mono (q := fun b => tk < b) (fun b hb _ => Nat.lt_of_lt_of_le hlk hb)).grew ((Grew.refl u6).alloc (.cells #[.int .i64 k6, .slice a6 j6 c6, .int .i64 x6, .int .i64 m6] 28)))
        have hu6 : tk < u6.heap.size := Nat.lt_of_lt_of_le hlk g6.size
        replace HTX := Lib.hid (HTX.out.step (KeepX.of f6))
        replace HO := Lib.hid (HO.out.grew f6)
        replace HG := Lib.hid (HG.out.trans f6)
        replace HTP := Lib.hid (HTP.out.grew f6)
        replace HB1 := Lib.hid (HB1.out.grew f6)
        replace HN1 := Lib.hid (HN1.out.grew f6)
        replace HB2 := Lib.hid (HB2.out.grew f6)
        replace HN2 := Lib.hid (HN2.out.grew f6)
        replace HB3 := Lib.hid (HB3.out.grew f6)
        replace HN3 := Lib.hid (HN3.out.grew f6)
        replace HB4 := Lib.hid (HB4.out.grew f6)
        replace HN4 := Lib.hid (HN4.out.grew f6)
        replace HB5 := Lib.hid (HB5.out.grew f6)
        replace HN5 := Lib.hid (HN5.out.grew f6)
        clear t0 t1 t2 t3 lt3 hlk n6 g6 f6
        go_upto_region 15 with fail
        generalize hv6 : World.alloc u6 _ = v6 at *
        obtain ⟨b6, hb6⟩ : ∃ b, u6.heap.size = b := ⟨_, rfl⟩
        rw [hb6] at B6 hu6 ⊢
        have HB6 := Lib.hid B6
        clear hv6 hb6 B6
        obtain ⟨t0, t1, t2, t3, -⟩ := HO.out.four
        have lt3 := HO.out.lt
        have hlk := HTP.out.lt
        obtain ⟨b10, b11, b12, b13, -⟩ := HB1.out.four
        have lb1 := HB1.out.lt
        obtain ⟨b20, b21, b22, b23, -⟩ := HB2.out.four
        have lb2 := HB2.out.lt
        obtain ⟨b30, b31, b32, b33, -⟩ := HB3.out.four
        have lb3 := HB3.out.lt
        obtain ⟨b40, b41, b42, b43, -⟩ := HB4.out.four
        have lb4 := HB4.out.lt
        obtain ⟨b50, b51, b52, b53, -⟩ := HB5.out.four
        have lb5 := HB5.out.lt
        obtain ⟨b60, b61, b62, b63, -⟩ := HB6.out.four
        have lb6 := HB6.out.lt
        go_wp2_with fail
        with_reducible refine (same_ops HN1.out HN2.out).mono ?_
        rintro e y1 ⟨rfl, f⟩
        replace HTX := Lib.hid (HTX.out.step (KeepX.of f))
        replace HO := Lib.hid (HO.out.grew f)
        replace HG := Lib.hid (HG.out.trans f)
        replace HTP := Lib.hid (HTP.out.grew f)
        replace HB1 := Lib.hid (HB1.out.grew f)
        replace HN1 := Lib.hid (HN1.out.grew f)
        replace HB2 := Lib.hid (HB2.out.grew f)
        replace HN2 := Lib.hid (HN2.out.grew f)
        replace HB3 := Lib.hid (HB3.out.grew f)
        replace HN3 := Lib.hid (HN3.out.grew f)
        replace HB4 := Lib.hid (HB4.out.grew f)
        replace HN4 := Lib.hid (HN4.out.grew f)
        replace HB5 := Lib.hid (HB5.out.grew f)
        replace HN5 := Lib.hid (HN5.out.grew f)
        replace HB6 := Lib.hid (HB6.out.grew f)
        replace HN6 := Lib.hid (HN6.out.grew f)
        clear t0 t1 t2 t3 lt3 hlk f b10 b11 b12 b13 lb1 b20 b21 b22 b23 lb2 b30 b31 b32 b33 lb3 b40 b41 b42 b43 lb4 b50 b51 b52 b53 lb5 b60 b61 b62 b63 lb6
        obtain ⟨t0, t1, t2, t3, -⟩ := HO.out.four
        have lt3 := HO.out.lt
        have hlk := HTP.out.lt
        obtain ⟨b10, b11, b12, b13, -⟩ := HB1.out.four
        have lb1 := HB1.out.lt
        obtain ⟨b20, b21, b22, b23, -⟩ := HB2.out.four
        have lb2 := HB2.out.lt
        obtain ⟨b30, b31, b32, b33, -⟩ := HB3.out.four
        have lb3 := HB3.out.lt
        obtain ⟨b40, b41, b42, b43, -⟩ := HB4.out.four
        have lb4 := HB4.out.lt
        obtain ⟨b50, b51, b52, b53, -⟩ := HB5.out.four
        have lb5 := HB5.out.lt
        obtain ⟨b60, b61, b62, b63, -⟩ := HB6.out.four
        have lb6 := HB6.out.lt
        go_wp2_with fail
        with_reducible refine (same_ops HN3.out HN4.out).mono ?_
        rintro e y2 ⟨rfl, f⟩
        replace HTX := Lib.hid (HTX.out.step (KeepX.of f))
        replace HO := Lib.hid (HO.out.grew f)
        replace HG := Lib.hid (HG.out.trans f)
        replace HTP := Lib.hid (HTP.out.grew f)
        replace HB1 := Lib.hid (HB1.out.grew f)
        replace HN1 := Lib.hid (HN1.out.grew f)
        replace HB2 := Lib.hid (HB2.out.grew f)
        replace HN2 := Lib.hid (HN2.out.grew f)
        replace HB3 := Lib.hid (HB3.out.grew f)
        replace HN3 := Lib.hid (HN3.out.grew f)
        replace HB4 := Lib.hid (HB4.out.grew f)
        replace HN4 := Lib.hid (HN4.out.grew f)
        replace HB5 := Lib.hid (HB5.out.grew f)
        replace HN5 := Lib.hid (HN5.out.grew f)
        replace HB6 := Lib.hid (HB6.out.grew f)
        replace HN6 := Lib.hid (HN6.out.grew f)
        clear t0 t1 t2 t3 lt3 hlk f b10 b11 b12 b13 lb1 b20 b21 b22 b23 lb2 b30 b31 b32 b33 lb3 b40 b41 b42 b43 lb4 b50 b51 b52 b53 lb5 b60 b61 b62 b63 lb6
        obtain ⟨t0, t1, t2, t3, -⟩ := HO.out.four
        have lt3 := HO.out.lt
        have hlk := HTP.out.lt
        obtain ⟨b10, b11, b12, b13, -⟩ := HB1.out.four
        have lb1 := HB1.out.lt
        obtain ⟨b20, b21, b22, b23, -⟩ := HB2.out.four
        have lb2 := HB2.out.lt
        obtain ⟨b30, b31, b32, b33, -⟩ := HB3.out.four
        have lb3 := HB3.out.lt
        obtain ⟨b40, b41, b42, b43, -⟩ := HB4.out.four
        have lb4 := HB4.out.lt
        obtain ⟨b50, b51, b52, b53, -⟩ := HB5.out.four
        have lb5 := HB5.out.lt
        obtain ⟨b60, b61, b62, b63, -⟩ := HB6.out.four
        have lb6 := HB6.out.lt
        go_wp2_with fail
        with_reducible refine (same_ops HN5.out HN6.out).mono ?_
        rintro e y3 ⟨rfl, f⟩
        replace HTX := Lib.hid (HTX.out.step (KeepX.of f))
        replace HO := Lib.hid (HO.out.grew f)
        replace HG := Lib.hid (HG.out.trans f)
        replace HTP := Lib.hid (HTP.out.grew f)
        replace HB1 := Lib.hid (HB1.out.grew f)
        replace HN1 := Lib.hid (HN1.out.grew f)
        replace HB2 := Lib.hid (HB2.out.grew f)
        replace HN2 := Lib.hid (HN2.out.grew f)
        replace HB3 := Lib.hid (HB3.out.grew f)
        replace HN3 := Lib.hid (HN3.out.grew f)
        replace HB4 := Lib.hid (HB4.out.grew f)
        replace HN4 := Lib.hid (HN4.out.grew f)
        replace HB5 := Lib.hid (HB5.out.grew f)
        replace HN5 := Lib.hid (HN5.out.grew f)
        replace HB6 := Lib.hid (HB6.out.grew f)
        replace HN6 := Lib.hid (HN6.out.grew f)
        clear t0 t1 t2 t3 lt3 hlk f b10 b11 b12 b13 lb1 b20 b21 b22 b23 lb2 b30 b31 b32 b33 lb3 b40 b41 b42 b43 lb4 b50 b51 b52 b53 lb5 b60 b61 b62 b63 lb6
        obtain ⟨t0, t1, t2, t3, -⟩ := HO.out.four
        have lt3 := HO.out.lt
        have hlk := HTP.out.lt
        obtain ⟨b10, b11, b12, b13, -⟩ := HB1.out.four
        have lb1 := HB1.out.lt
        obtain ⟨b20, b21, b22, b23, -⟩ := HB2.out.four
        have lb2 := HB2.out.lt
        obtain ⟨b30, b31, b32, b33, -⟩ := HB3.out.four
        have lb3 := HB3.out.lt
        obtain ⟨b40, b41, b42, b43, -⟩ := HB4.out.four
        have lb4 := HB4.out.lt
        obtain ⟨b50, b51, b52, b53, -⟩ := HB5.out.four
        have lb5 := HB5.out.lt
        obtain ⟨b60, b61, b62, b63, -⟩ := HB6.out.four
        have lb6 := HB6.out.lt
        go_wp2_with fail
        with_reducible refine (next_n _ _ _ _ (by omega) (by omega) HTP.out).mono ?_
        rintro e y4 ⟨q3, q30, q31, rfl, tp8, g8⟩
        have K8 := KeepX.tape (tb := tb) g8
        replace HTX := Lib.hid (HTX.out.step K8)
        replace HN2 := Lib.hid (TreeF.keepX htb1 HN2.out K8)
        replace HN4 := Lib.hid (TreeF.keepX htb1 HN4.out K8)
        replace HO := Lib.hid (HO.out.past g8 (by omega))
        replace HB2 := Lib.hid (HB2.out.past g8 (by omega))
        replace HB4 := Lib.hid (HB4.out.past g8 (by omega))
        replace HG := Lib.hid (HG.out.past g8 htb2)
        replace HTP := Lib.hid tp8
        clear t0 t1 t2 t3 lt3 hlk b10 b11 b12 b13 lb1 b20 b21 b22 b23 lb2 b30 b31 b32 b33 lb3 b40 b41 b42 b43 lb4 b50 b51 b52 b53 lb5 b60 b61 b62 b63 lb6 g8 tp8 HN1 HN3 HN5 HN6 HB1 HB3 HB5 HB6 K8
        obtain ⟨t0, t1, t2, t3, t4, t5, t6, t7⟩ := HO.out.four
        obtain ⟨b20, b21, b22, b23, -⟩ := HB2.out.four
        obtain ⟨b40, b41, b42, b43, -⟩ := HB4.out.four
        have lt3 := HO.out.lt
        have lb2 := HB2.out.lt
        have lb4 := HB4.out.lt
        have hsz4 : w.heap.size ≤ tb := by have := HG.out.size; omega
        by_cases z3 : q3 = 0
        · subst z3
          by_cases z1 : e1 = 0
          · subst z1
            go_wp2_with fail
            generalize hwz : World.setCell (World.setCell (World.setCell (World.setCell _ _ _) _ _) _ _) _ _ = wz
            have OE := store4 HO.out hwz
            have GE := grew4' HG.out hwz (by omega)
            have KX := KeepX.store (tk := tk) hwz
            have TE := TvX.new htb1 (TreeF.keepX htb1 HN2.out KX)
            have GB : y4.grownBy wz (some tb) := by
              rw [← hwz]
              exact grown_set (p := ⟨tb, 3, none⟩) (grown_set (p := ⟨tb, 2, none⟩) (grown_set (p := ⟨tb, 1, none⟩) (grown_set (p := ⟨tb, 0, none⟩) (grown_refl _ _) (.inl rfl) _) (.inl rfl) _) (.inl rfl) _) (.inl rfl) _
            have PE : TapN w.heap.size wz tk := HTP.out.kept GB hsz4 (by omega)
            clear hwz
            go_roundw
            case rel => exact ⟨k + 1, k2, _, _, _, _, _, some _, by go_num, by omega, OE, TE, PE, GE⟩
            case measure => simp [intOf]; omega
          · have z1b : (e1 == 0) = false := by simpa using z1
            clear z1
            by_cases z2 : e3 = 0
            · subst z2
              go_wp2_with fail
              generalize hwz : World.setCell (World.setCell (World.setCell (World.setCell _ _ _) _ _) _ _) _ _ = wz
              have OE := store4 HO.out hwz
              have GE := grew4' HG.out hwz (by omega)
              have KX := KeepX.store (tk := tk) hwz
              have TE := TvX.new htb1 (TreeF.keepX htb1 HN4.out KX)
              have GB : y4.grownBy wz (some tb) := by
                rw [← hwz]
                exact grown_set (p := ⟨tb, 3, none⟩) (grown_set (p := ⟨tb, 2, none⟩) (grown_set (p := ⟨tb, 1, none⟩) (grown_set (p := ⟨tb, 0, none⟩) (grown_refl _ _) (.inl rfl) _) (.inl rfl) _) (.inl rfl) _) (.inl rfl) _
              have PE : TapN w.heap.size wz tk := HTP.out.kept GB hsz4 (by omega)
              clear hwz
              go_roundw
              case rel => exact ⟨k + 1, k4, _, _, _, _, _, some _, by go_num, by omega, OE, TE, PE, GE⟩
              case measure => simp [intOf]; omega
            · have z2b : (e3 == 0) = false := by simpa using z2
              clear z2
              go_wp2_with fail
              go_roundw
              case rel => exact ⟨k + 1, H, _, _, _, _, _, o, by go_num, by omega, HO.out, HTX.out, HTP.out, HG.out⟩
              case measure => simp [intOf]; omega
        · have z3b : (q3 == 0) = false := by simpa using z3
          clear z3
          by_cases z2 : e3 = 0
          · subst z2
            go_wp2_with fail
            generalize hwz : World.setCell (World.setCell (World.setCell (World.setCell _ _ _) _ _) _ _) _ _ = wz
            have OE := store4 HO.out hwz
            have GE := grew4' HG.out hwz (by omega)
            have KX := KeepX.store (tk := tk) hwz
            have TE := TvX.new htb1 (TreeF.keepX htb1 HN4.out KX)
            have GB : y4.grownBy wz (some tb) := by
              rw [← hwz]
              exact grown_set (p := ⟨tb, 3, none⟩) (grown_set (p := ⟨tb, 2, none⟩) (grown_set (p := ⟨tb, 1, none⟩) (grown_set (p := ⟨tb, 0, none⟩) (grown_refl _ _) (.inl rfl) _) (.inl rfl) _) (.inl rfl) _) (.inl rfl) _
            have PE : TapN w.heap.size wz tk := HTP.out.kept GB hsz4 (by omega)
            clear hwz
            go_roundw
            case rel => exact ⟨k + 1, k4, _, _, _, _, _, some _, by go_num, by omega, OE, TE, PE, GE⟩
            case measure => simp [intOf]; omega
          · have z2b : (e3 == 0) = false := by simpa using z2
            clear z2
            go_wp2_with fail
            go_roundw
            case rel => exact ⟨k + 1, H, _, _, _, _, _, o, by go_num, by omega, HO.out, HTX.out, HTP.out, HG.out⟩
            case measure => simp [intOf]; omega
      · skip
        go_wp2_with fail
        with_reducible refine (awake_any _).mono ?_
        rintro e w9 ⟨rfl, g9⟩
        go_wp2
        go_ret
        exact ⟨rfl, gA.trans g9⟩
    · have hltb : decide ((k : Int) < 6) = false := decide_eq_false (by omega)
      go_wp2_with fail
      with_reducible refine (awake_any _).mono ?_
      rintro e w9 ⟨rfl, g9⟩
      go_wp2
      go_ret
      exact ⟨rfl, gA.trans g9⟩

theorem Try.own : ownKnob Try.prog.godebug = none := by kernel_rfl
theorem Try.laidOut : laidOutB Try.prog = true := by kernel_rfl

theorem radixWrites_contract (W : World) (base : Nat) (args : Array Value) (H : Type) (enc : TypeId × Value → H) (ds : List (DataW H)) (p : List MemPlace)
    (hval : ∀ (j : Nat) t v, Try.f4.params[j]? = some t → args[j]? = some v → Value.okWide Try.prog W .any base t v)
    (hA : DataW.TrodAll enc Try.prog W 0 (fun _ => true) true Try.f4.params.toList args.toList ds p) :
    (∃ d0 d1 d2, ds = [d0, d1, d2]) ∧ Calls Try.prog 4 args W fun e W' => e = .returned (.bool true) ∧ Below W.heap.size W W' := by
  rw [Try.params4] at hval hA
  obtain ⟨v0, v1, v2, d0, d1, d2, p0, p1, p2, ha, hd, hp, h0, h1, h2⟩ := args_3 hA
  subst ha hd
  obtain ⟨A0, c0, xs0, rfl, hr0, hm0⟩ := open_introw Try.underlying22 Try.underlying3 (by kernel_rfl) (hval 0 _ _ rfl rfl) h0
  obtain ⟨p1, q1, r1, rfl⟩ := open_arr3 Try.underlying23 Try.underlying3 (by kernel_rfl) (by kernel_rfl) (hval 1 _ _ rfl rfl) h1
  obtain ⟨A2, c2, xs2, rfl, hr2, hm2⟩ := open_introw Try.underlying22 Try.underlying3 (by kernel_rfl) (hval 2 _ _ rfl rfl) h2
  exact ⟨⟨_, _, _, rfl⟩, (writes_core A0 c0 xs0 p1 q1 r1 A2 c2 xs2 W hr0 hm0 hr2 hm2).mono fun _ _ h => h⟩

set_option maxRecDepth 100000 in
theorem radixWrites_lifted (os : Os) (started : os.Started) (H : Type) (enc : TypeId × Value → H) :
    ReturnsInHanded {} Try.checked os 4 .any (Rows.radixWritesSpec.pre6 enc Try.prog Try.f4 Rows.radixWritesRow.domain false) (Rows.radixWritesSpec.post enc Try.prog Try.f4 false true false false) := by
  refine returnsInHanded_of_change (C := Try.checked) Try.own started (by kernel_rfl) Try.func4
    (ChangeSpec.witness6 (enc := enc) (C := Try.checked) false ⟨#[], #[.slice none 0 0, .agg #[.int .i64 0, .int .i64 0, .int .i64 0], .slice none 0 0], []⟩ 8 (by kernel_rfl) (by kernel_rfl) (by kernel_rfl) (by kernel_rfl)) ?_
  intro W base args ds gs before hval hW _ _
  obtain ⟨p, q, hA, hV, hrest⟩ := id hW
  obtain ⟨⟨d0, d1, d2, rfl⟩, hc⟩ := radixWrites_contract W base args H enc ds p hval hA
  obtain ⟨rfl, -⟩ := trodVars_none hV
  refine hc.mono fun e W' ⟨he, hb⟩ => ⟨_, he, ?_⟩
  exact law_close (tb := 4) Try.laidOut (by rw [Try.params4]; decide +kernel) Try.underlying4 rfl rfl hW rfl rfl rfl hb

theorem radixWrites_holds : Rows.RadixWritesSaid :=
  OpenClaim.holds_of_wide 4 Try.f4 rfl rfl rfl rfl rfl rfl rfl ⟨rfl, rfl, rfl, rfl, rfl⟩ rfl rfl rfl rfl rfl (by kernel_rfl) Try.func4 (by kernel_rfl)
    (of_decide_eq_true (by kernel_rfl)) (by unfold Func.isWrapper; first | (rw [if_pos (by decide +kernel)]; kernel_rfl) | (rw [if_neg (by decide +kernel)]; exact ⟨rfl, rfl⟩))
    (fun os started H enc _ => radixWrites_lifted os started H enc)
end Go.Proofs.Ytdlhihllmidfeaa
