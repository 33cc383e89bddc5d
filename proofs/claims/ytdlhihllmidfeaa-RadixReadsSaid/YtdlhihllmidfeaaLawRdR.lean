/- RadixReads holds: which trees are valid, what is in them, and which marks they have. -/
import Derived.Test.YtdlhihllmidfeaaSp13
import Derived.Test.YtdlhihllmidfeaaSp14
import Derived.Test.YtdlhihllmidfeaaSp15
import Derived.Test.YtdlhihllmidfeaaRx15
import Derived.Test.YtdlhihllmidfeaaOdd
import Derived.Deep.RegionHeld3
import Derived.Deep.DeepCutAuto
import Derived.Laws.IdiomArrays
namespace Go.Proofs.Ytdlhihllmidfeaa
open Go.ChangeShapes Go.WideShapes Go.ChangeAt Go.RowKit Go.Mine

theorem args_4 {H : Type} {enc : TypeId × Value → H} {P : Program} {W : World} {t u x y : TypeId} {args : Array Value} {ds : List (DataW H)} {p : List MemPlace}
    (h : DataW.TrodAll enc P W 0 (fun _ => true) true (#[t, u, x, y] : Array TypeId).toList args.toList ds p) :
    ∃ v v' v2 v3 d d' d2 d3 p1 p2 p3 p4, args = #[v, v', v2, v3] ∧ ds = [d, d', d2, d3] ∧ p = p1 ++ (p2 ++ (p3 ++ p4)) ∧ DataW.Trod enc P W 0 (fun _ => true) true t v d p1 ∧ DataW.Trod enc P W 0 (fun _ => true) true u v' d' p2 ∧
      DataW.Trod enc P W 0 (fun _ => true) true x v2 d2 p3 ∧ DataW.Trod enc P W 0 (fun _ => true) true y v3 d3 p4 := by
  obtain ⟨l⟩ := args
  obtain ⟨v, vs, d, ds', p1, q, e1, rfl, rfl, h1, h2⟩ := args_cons h
  obtain ⟨v', vs', d', ds2, p2, q2, e2, rfl, rfl, h3, h4⟩ := args_cons h2
  obtain ⟨v2, vs2, d2, ds3, p3, q3, e3, rfl, rfl, h5, h6⟩ := args_cons h4
  obtain ⟨v3, vs3, d3, ds4, p4, q4, e4, rfl, rfl, h7, h8⟩ := args_cons h6
  obtain ⟨rfl, rfl⟩ := args_nil h8
  have e5 : l = [v, v', v2, v3] := by simpa [e2, e3, e4] using e1
  subst e5
  have hq : q4 = [] := h8
  subst hq
  exact ⟨v, v', v2, v3, d, d', d2, d3, p1, p2, p3, p4 ++ [], rfl, rfl, rfl, h1, h3, h5, by rw [List.append_nil]; exact h7⟩
theorem open_arr3 {H : Type} {enc : TypeId × Value → H} {P : Program} {W : World} {r : Reach} {b0 base : Nat} {spare : Nat → Bool} {held : Bool} {t e : TypeId} {v : Value} {d : DataW H} {ps : List MemPlace}
    (ht : P.underlying t = some (.array 3 e)) (he : P.underlying e = some (.int .i64)) (hce : P.cellsOf e = 1) (hct : P.cellsOf t = 3) (hval : Value.okWide P W r b0 t v) (hd : DataW.Trod enc P W base spare held t v d ps) :
    ∃ a b c, v = .agg #[.int .i64 a, .int .i64 b, .int .i64 c] := by
  simp only [Value.okWide, ht] at hval
  obtain ⟨cs, rfl, hs, -⟩ := hval
  rw [hct] at hs
  obtain ⟨l⟩ := cs
  rcases l with _ | ⟨x, _ | ⟨y, _ | ⟨z, _ | ⟨u, l⟩⟩⟩⟩
  case cons.cons.cons.nil =>
    obtain ⟨fuel, hf⟩ := hd
    have hf2 : DataW.trod enc P W base spare held fuel t [x, y, z] = some (d, ps) := hf
    obtain ⟨y0, y1, y2, n, -, h0, h1, h2⟩ := trod_array3 ht hce hf2
    obtain ⟨a, e0, -, -⟩ := DataW.trod_int he h0
    obtain ⟨b, e1, -, -⟩ := DataW.trod_int he h1
    obtain ⟨c, e2, -, -⟩ := DataW.trod_int he h2
    simp only [List.cons.injEq, and_true] at e0 e1 e2
    subst e0 e1 e2
    exact ⟨a, b, c, rfl⟩
  all_goals simp at hs
theorem introw_two (w : World) (i m : Int) (t : TypeId) (hi : (Lit.int .i64 i).wf = true) (hm : (Lit.int .i64 m).wf = true) : IntRow (w.alloc (.cells #[.int .i64 i, .int .i64 m] t)) (some ⟨w.heap.size, 0, none⟩) [i, m] := by
  have O := (Own.new w t #[.int .i64 i, .int .i64 m])
  obtain ⟨c0, c1, -, -⟩ := O.two
  refine ⟨.inr ⟨_, 0, rfl, O.lt, fun k hk => ?_⟩, fun x hx => ?_⟩
  · have : k = 0 ∨ k = 1 := by have : k < 2 := hk; omega
    rcases this with rfl | rfl
    · exact c0
    · exact c1
  · simp only [List.mem_cons, List.not_mem_nil, or_false] at hx
    rcases hx with rfl | rfl <;> assumption
set_option maxRecDepth 100000 in
set_option maxHeartbeats 8000000 in
theorem reads_core (A : Option Addr) (c : Nat) (xs : List Int) (n0 n1 n2 i m : Int) (w : World) (hr : IntRow w A xs) (hm : xs.length ≤ maxLen) (hi : (Lit.int .i64 i).wf = true) (hmm : (Lit.int .i64 m).wf = true) :
    Calls Try.prog 3 #[.slice A xs.length c, .agg #[.int .i64 n0, .int .i64 n1, .int .i64 n2], .int .i64 i, .int .i64 m] w (RetG (.bool true) w) := by
  have gA := (Grew.refl w).alloc (.cells #[.int .i64 n0, .int .i64 n1, .int .i64 n2] 23)
  have HR := Lib.hid (introw_grew hr gA)
  have HM := Lib.hid hm
  have HI := Lib.hid hi
  have HMM := Lib.hid hmm
  obtain ⟨X, hX⟩ : ∃ X, xs.length = X := ⟨_, rfl⟩
  have HX := Lib.hid hX
  rw [hX]
  clear hr hm hi hmm hX
  go_enter Try.func3, Try.ntmps3
  go_wp2_with fail
  have HD := Lib.hid (show Calls Try.prog 10 #[.slice A X c, .agg #[.int .i64 n0, .int .i64 n1, .int .i64 n2]] (w.alloc (.cells #[.int .i64 n0, .int .i64 n1, .int .i64 n2] 23)) (RetTL (w.alloc (.cells #[.int .i64 n0, .int .i64 n1, .int .i64 n2] 23))) from by
    have := drawn_x A c xs n0 n1 n2 _ HR.out HM.out
    rw [HX.out] at this
    exact this)
  with_reducible refine (HD.out).mono ?_
  rintro e w1 ⟨H, s, x, mm, L, rfl, T, g1⟩
  obtain ⟨a, j, c', rfl⟩ := T.slice
  replace gA := gA.trans g1
  have gt := (Grew.refl w1).alloc (.cells #[.int .i64 H, .slice a j c', .int .i64 x, .int .i64 mm] 28)
  have Ot := Own.new w1 28 #[.int .i64 H, .slice a j c', .int .i64 x, .int .i64 mm]
  have G2 := gA.trans gt
  have hA1 := gA.size
  have HT := Lib.hid T
  clear gA g1 T HD HR HM HX
  go_upto_region 2 with fail
  generalize hw2 : World.alloc w1 _ = w2 at *
  have hz2 := gt.size
  obtain ⟨tb, htb⟩ : ∃ tb, w1.heap.size = tb := ⟨_, rfl⟩
  rw [htb] at Ot hz2 hA1 ⊢
  clear hw2
  have gl := (Grew.refl w2).alloc (.cells #[.int .i64 i, .int .i64 m] 3)
  have tp := Tp.made (introw_two w2 i m 3 HI.out HMM.out) (show 2 ≤ maxLen by decide) 2 32
  have gl2 := gl.alloc (.cells #[.slice (some ⟨w2.heap.size, 0, none⟩) 2 2, .int .i64 0] 32)
  have O3 := Ot.grew gl2
  have G3 := G2.trans gl2
  have K3 := Keeps.of (gt.trans gl2)
  rw [World.size_alloc] at tp
  have htk : tb ≤ w2.heap.size := hz2
  have hOt := Ot.lt
  clear Ot G2 gl gl2 gt
  go_wp2_with fail
  have htp : Tp (w2.heap.size + 1 + 1) ((w2.alloc (.cells #[.int .i64 i, .int .i64 m] 3)).alloc (.cells #[.slice (some ⟨w2.heap.size, 0, none⟩) 2 2, .int .i64 0] 32)) (w2.heap.size + 1) := tp
  clear tp
  generalize World.alloc (World.alloc w2 _) _ = w3 at *
  obtain ⟨tk, htk2⟩ : ∃ tk, w2.heap.size + 1 = tk := ⟨_, rfl⟩
  rw [htk2] at htp ⊢
  have htb1 : tb < tk := by omega
  have htb2 : w.heap.size ≤ tk := by omega
  have hA1t : w1.heap.size = tb := htb
  clear htb hz2 hOt htk
  with_reducible refine (odd_w _ _ _ htp (Nat.succ_le_of_lt htp.lt)).mono ?_
  rintro e w4 ⟨k, kw, rfl, tp4, g4⟩
  replace O3 := O3.past g4 (by omega)
  replace G3 := G3.past g4 htb2
  replace K3 := K3.past g4 (by omega)
  clear htp g4
  have tp5 := tp4.alloc (.cells #[.int .i64 0, .int .i64 1, .int .i64 2, .int .i64 4, .int .i64 3, .int .i64 8, .int .i64 (-1)] 3)
  have gm := (Grew.refl w4).alloc (.cells #[.int .i64 0, .int .i64 1, .int .i64 2, .int .i64 4, .int .i64 3, .int .i64 8, .int .i64 (-1)] 3)
  have Om := Own.new w4 3 #[.int .i64 0, .int .i64 1, .int .i64 2, .int .i64 4, .int .i64 3, .int .i64 8, .int .i64 (-1)]
  have lk4 := tp4.lt
  replace O3 := O3.grew gm
  replace G3 := G3.trans gm
  replace K3 := K3.trans (Keeps.of gm)
  clear tp4 gm
  go_wp2_with fail
  with_reducible refine (next_x _ _ _ _ (by omega) (by omega) tp5).mono ?_
  rintro e w5 ⟨q, q0, q1, rfl, tp6, g6⟩
  replace O3 := O3.past g6 (by omega)
  replace G3 := G3.past g6 htb2
  replace K3 := K3.past g6 (by omega)
  replace Om := Om.past g6 (by omega)
  obtain ⟨q, rfl⟩ := Int.eq_ofNat_of_zero_le q0
  obtain ⟨mk, hmk, -⟩ := int_at Om (by decide +kernel) q (by simp; omega)
  have lm := Om.lt
  clear tp5 g6 tp6 Om
  have T5 := HT.out.keeps K3
  have HT5 := Lib.hid T5
  obtain ⟨t0, t1, t2, t3, -⟩ := O3.four
  have lt3 := O3.lt
  have HO3 := Lib.hid O3
  have HG3 := Lib.hid G3
  clear T5 O3 G3 K3 HT
  go_wp2_with fail
  with_reducible refine (next_l H _ _ _ k mk L _ HT5.out).mono ?_
  rintro e w6 ⟨⟨oi, ob⟩, rfl, ho, g6⟩
  clear hmk lm lk4
  replace HT5 := Lib.hid (HT5.out.grew g6)
  replace HO3 := Lib.hid (HO3.out.grew g6)
  replace HG3 := Lib.hid (HG3.out.trans g6)
  clear t0 t1 t2 t3 lt3 g6
  obtain ⟨t0, t1, t2, t3, -⟩ := HO3.out.four
  have lt3 := HO3.out.lt
  go_wp2_with fail
  with_reducible refine (nextq_l H _ _ _ k mk L _ HT5.out).mono ?_
  rintro e w7 ⟨o2, rfl, ho2, g6⟩
  obtain rfl : o2 = (oi, ob) := ho2.uniq ho
  replace HT5 := Lib.hid (HT5.out.grew g6)
  replace HO3 := Lib.hid (HO3.out.grew g6)
  replace HG3 := Lib.hid (HG3.out.trans g6)
  clear t0 t1 t2 t3 lt3 g6 ho ho2
  obtain ⟨b, hb⟩ := valid_l H _ _ _ L _ HT5.out
  have HV := Lib.hid hb
  clear hb
  obtain ⟨t0, t1, t2, t3, -⟩ := HO3.out.four
  have lt3 := HO3.out.lt
  have HLN := Lib.hid HT5.out.len
  cases b
  all_goals
    go_upto_region 7 with fail
    have HT6 := Lib.hid (HT5.out.grew (Grew.refl w7).drew)
    have HO6 := Lib.hid HO3.out.drew
    have HG6 := Lib.hid HG3.out.drew
    have HGV := Lib.hid (Grew.refl w7).drew
    go_region_held3 (fun w' => w'.cell? ⟨tb, 0, none⟩ = some (.int .i64 H) ∧ w'.cell? ⟨tb, 1, none⟩ = some (.slice a j c') ∧ w'.cell? ⟨tb, 2, none⟩ = some (.int .i64 x) ∧ w'.cell? ⟨tb, 3, none⟩ = some (.int .i64 mm))
      (refine ⟨?_, ?_, ?_, ?_⟩ <;> (repeat (first | (with_reducible assumption) | (with_reducible refine far_drew ?_))))
      (first
        | (go_at_call 15; (with_reducible refine ((HV.out _ HGV.out).1).mono ?_); rintro e wu ⟨rfl, g⟩
           replace HT6 := Lib.hid (HT6.out.grew g)
           replace HO6 := Lib.hid (HO6.out.grew g)
           replace HG6 := Lib.hid (HG6.out.trans g)
           replace HGV := Lib.hid (HGV.out.trans g)
           clear t0 t1 t2 t3 lt3 g
           obtain ⟨t0, t1, t2, t3, -⟩ := HO6.out.four
           have lt3 := HO6.out.lt)
        | (go_at_call 16; (with_reducible refine ((HV.out _ HGV.out).2).mono ?_); rintro e wu ⟨rfl, g⟩
           replace HT6 := Lib.hid (HT6.out.grew g)
           replace HO6 := Lib.hid (HO6.out.grew g)
           replace HG6 := Lib.hid (HG6.out.trans g)
           replace HGV := Lib.hid (HGV.out.trans g)
           clear t0 t1 t2 t3 lt3 g
           obtain ⟨t0, t1, t2, t3, -⟩ := HO6.out.four
           have lt3 := HO6.out.lt)
        | (go_at_call 17; (with_reducible refine (get_l H _ _ _ k L _ HT6.out).mono ?_); rintro e wu ⟨va, rfl, hva, g⟩
           have HVA := Lib.hid hva
           clear hva
           replace HT6 := Lib.hid (HT6.out.grew g)
           replace HO6 := Lib.hid (HO6.out.grew g)
           replace HG6 := Lib.hid (HG6.out.trans g)
           replace HGV := Lib.hid (HGV.out.trans g)
           clear t0 t1 t2 t3 lt3 g
           obtain ⟨t0, t1, t2, t3, -⟩ := HO6.out.four
           have lt3 := HO6.out.lt)
        | (go_at_call 18; (with_reducible refine (getq_l H _ _ _ k L _ HT6.out).mono ?_); rintro e wu ⟨vb, rfl, hvb, g⟩
           obtain rfl : va = vb := GetP.uniq HT6.out HVA.out hvb
           clear hvb
           replace HT6 := Lib.hid (HT6.out.grew g)
           replace HO6 := Lib.hid (HO6.out.grew g)
           replace HG6 := Lib.hid (HG6.out.trans g)
           replace HGV := Lib.hid (HGV.out.trans g)
           clear t0 t1 t2 t3 lt3 g
           obtain ⟨t0, t1, t2, t3, -⟩ := HO6.out.four
           have lt3 := HO6.out.lt)
        | (go_at_call 19; (with_reducible refine (marked_l H _ _ _ k mk L _ HT6.out).mono ?_); rintro e wu ⟨ba, rfl, hba, g⟩
           have HBA := Lib.hid hba
           clear hba
           replace HT6 := Lib.hid (HT6.out.grew g)
           replace HO6 := Lib.hid (HO6.out.grew g)
           replace HG6 := Lib.hid (HG6.out.trans g)
           replace HGV := Lib.hid (HGV.out.trans g)
           clear t0 t1 t2 t3 lt3 g
           obtain ⟨t0, t1, t2, t3, -⟩ := HO6.out.four
           have lt3 := HO6.out.lt)
        | (go_at_call 20; (with_reducible refine (markedq_l H _ _ _ k mk L _ HT6.out).mono ?_); rintro e wu ⟨bb, rfl, hbb, g⟩
           obtain rfl : ba = bb := MkdP.uniq HT6.out HBA.out hbb
           clear hbb
           replace HT6 := Lib.hid (HT6.out.grew g)
           replace HO6 := Lib.hid (HO6.out.grew g)
           replace HG6 := Lib.hid (HG6.out.trans g)
           replace HGV := Lib.hid (HGV.out.trans g)
           clear t0 t1 t2 t3 lt3 g
           obtain ⟨t0, t1, t2, t3, -⟩ := HO6.out.four
           have lt3 := HO6.out.lt))
    go_wp2_with fail
    replace HT6 := Lib.hid (HT6.out.grew (Grew.refl _).drew)
    replace HO6 := Lib.hid HO6.out.drew
    replace HG6 := Lib.hid HG6.out.drew
    replace HGV := Lib.hid HGV.out.drew
    clear HVA HBA
    have ei : (oi == oi) = true := by simp
    have eb : (ob == ob) = true := by simp
    go_region_held3 (fun w' => w'.cell? ⟨tb, 0, none⟩ = some (.int .i64 H) ∧ w'.cell? ⟨tb, 1, none⟩ = some (.slice a j c') ∧ w'.cell? ⟨tb, 2, none⟩ = some (.int .i64 x) ∧ w'.cell? ⟨tb, 3, none⟩ = some (.int .i64 mm))
      (refine ⟨?_, ?_, ?_, ?_⟩ <;> (repeat (first | (with_reducible assumption) | (with_reducible refine far_drew ?_))))
      (first
        | (go_at_call 21; (with_reducible refine (count_l H _ _ _ mk L _ HT6.out).mono ?_); rintro e wu ⟨rfl, g⟩
           replace HT6 := Lib.hid (HT6.out.grew g)
           replace HO6 := Lib.hid (HO6.out.grew g)
           replace HG6 := Lib.hid (HG6.out.trans g)
           replace HGV := Lib.hid (HGV.out.trans g)
           clear t0 t1 t2 t3 lt3 g
           obtain ⟨t0, t1, t2, t3, -⟩ := HO6.out.four
           have lt3 := HO6.out.lt)
        | (go_at_call 22; (with_reducible refine (countq_l H _ _ _ mk L _ HT6.out).mono ?_); rintro e wu ⟨rfl, g⟩
           replace HT6 := Lib.hid (HT6.out.grew g)
           replace HO6 := Lib.hid (HO6.out.grew g)
           replace HG6 := Lib.hid (HG6.out.trans g)
           replace HGV := Lib.hid (HGV.out.trans g)
           clear t0 t1 t2 t3 lt3 g
           obtain ⟨t0, t1, t2, t3, -⟩ := HO6.out.four
           have lt3 := HO6.out.lt)
        | (go_at_call 24; (with_reducible refine (entries_l H _ _ _ L _ HT6.out).mono ?_); rintro e wu ⟨ea, rfl, hea, g⟩
           obtain ⟨aa, ca, rfl⟩ := hea.len
           have HEA := Lib.hid hea
           clear hea
           replace HT6 := Lib.hid (HT6.out.grew g)
           replace HO6 := Lib.hid (HO6.out.grew g)
           replace HG6 := Lib.hid (HG6.out.trans g)
           replace HGV := Lib.hid (HGV.out.trans g)
           clear t0 t1 t2 t3 lt3 g
           obtain ⟨t0, t1, t2, t3, -⟩ := HO6.out.four
           have lt3 := HO6.out.lt)
        | (go_at_call 25; (with_reducible refine (entriesq_l H _ _ _ L _ HT6.out).mono ?_); rintro e wu ⟨eb, rfl, heb, g⟩
           obtain ⟨ab, cb, rfl⟩ := heb.len
           have HEB := Lib.hid heb
           have HEA2 := Lib.hid (HEA.out.grew g)
           clear heb
           replace HT6 := Lib.hid (HT6.out.grew g)
           replace HO6 := Lib.hid (HO6.out.grew g)
           replace HG6 := Lib.hid (HG6.out.trans g)
           replace HGV := Lib.hid (HGV.out.trans g)
           clear t0 t1 t2 t3 lt3 g
           obtain ⟨t0, t1, t2, t3, -⟩ := HO6.out.four
           have lt3 := HO6.out.lt)
        | (go_at_call 23; (with_reducible refine (sameEnt_q _ _ L _ HEA2.out HEB.out (Nat.le_trans HLN.out (by decide))).mono ?_); rintro e wu ⟨rfl, g⟩
           replace HT6 := Lib.hid (HT6.out.grew g)
           replace HO6 := Lib.hid (HO6.out.grew g)
           replace HG6 := Lib.hid (HG6.out.trans g)
           replace HGV := Lib.hid (HGV.out.trans g)
           clear t0 t1 t2 t3 lt3 g
           obtain ⟨t0, t1, t2, t3, -⟩ := HO6.out.four
           have lt3 := HO6.out.lt)
        | (go_at_call 26; (with_reducible refine (awake_any _).mono ?_); rintro e wu ⟨rfl, g⟩
           replace HT6 := Lib.hid (HT6.out.grew g)
           replace HO6 := Lib.hid (HO6.out.grew g)
           replace HG6 := Lib.hid (HG6.out.trans g)
           replace HGV := Lib.hid (HGV.out.trans g)
           clear t0 t1 t2 t3 lt3 g
           obtain ⟨t0, t1, t2, t3, -⟩ := HO6.out.four
           have lt3 := HO6.out.lt))
    go_wp2_with fail
    go_ret
    exact ⟨rfl, HG6.out⟩

theorem Try.own : ownKnob Try.prog.godebug = none := by kernel_rfl
theorem Try.laidOut : laidOutB Try.prog = true := by kernel_rfl

theorem radixReads_contract (W : World) (base : Nat) (args : Array Value) (H : Type) (enc : TypeId × Value → H) (ds : List (DataW H)) (p : List MemPlace)
    (hval : ∀ (j : Nat) t v, Try.f3.params[j]? = some t → args[j]? = some v → Value.okWide Try.prog W .any base t v)
    (hA : DataW.TrodAll enc Try.prog W 0 (fun _ => true) true Try.f3.params.toList args.toList ds p) :
    (∃ d0 d1 d2 d3, ds = [d0, d1, d2, d3]) ∧ Calls Try.prog 3 args W fun e W' => e = .returned (.bool true) ∧ Below W.heap.size W W' := by
  rw [Try.params3] at hval hA
  obtain ⟨v0, v1, v2, v3, d0, d1, d2, d3, p0, p1, p2, p3, ha, hd, hp, h0, h1, h2, h3⟩ := args_4 hA
  subst ha hd
  obtain ⟨A0, c0, xs0, rfl, hr0, hm0⟩ := open_introw Try.underlying22 Try.underlying3 (by kernel_rfl) (hval 0 _ _ rfl rfl) h0
  obtain ⟨p1, q1, r1, rfl⟩ := open_arr3 Try.underlying23 Try.underlying3 (by kernel_rfl) (by kernel_rfl) (hval 1 _ _ rfl rfl) h1
  obtain ⟨n2, rfl, -, -, hw2⟩ := open_int Try.underlying3 (hval 2 _ _ rfl rfl) h2
  obtain ⟨n3, rfl, -, -, hw3⟩ := open_int Try.underlying3 (hval 3 _ _ rfl rfl) h3
  exact ⟨⟨_, _, _, _, rfl⟩, (reads_core A0 c0 xs0 p1 q1 r1 n2 n3 W hr0 hm0 hw2 hw3).mono fun _ _ h => h⟩

set_option maxRecDepth 100000 in
theorem radixReads_lifted (os : Os) (started : os.Started) (H : Type) (enc : TypeId × Value → H) :
    ReturnsInHanded {} Try.checked os 3 .any (Rows.radixReadsSpec.pre6 enc Try.prog Try.f3 Rows.radixReadsRow.domain false) (Rows.radixReadsSpec.post enc Try.prog Try.f3 false true false false) := by
  refine returnsInHanded_of_change (C := Try.checked) Try.own started (by kernel_rfl) Try.func3
    (ChangeSpec.witness6 (enc := enc) (C := Try.checked) false ⟨#[], #[.slice none 0 0, .agg #[.int .i64 0, .int .i64 0, .int .i64 0], .int .i64 0, .int .i64 0], []⟩ 8 (by kernel_rfl) (by kernel_rfl) (by kernel_rfl) (by kernel_rfl)) ?_
  intro W base args ds gs before hval hW _ _
  obtain ⟨p, q, hA, hV, hrest⟩ := id hW
  obtain ⟨⟨d0, d1, d2, d3, rfl⟩, hc⟩ := radixReads_contract W base args H enc ds p hval hA
  obtain ⟨rfl, -⟩ := trodVars_none hV
  refine hc.mono fun e W' ⟨he, hb⟩ => ⟨_, he, ?_⟩
  exact law_close (tb := 4) Try.laidOut (by rw [Try.params3]; decide +kernel) Try.underlying4 rfl rfl hW rfl rfl rfl hb

theorem radixReads_holds : Rows.RadixReadsSaid :=
  OpenClaim.holds_of_wide 3 Try.f3 rfl rfl rfl rfl rfl rfl rfl ⟨rfl, rfl, rfl, rfl, rfl⟩ rfl rfl rfl rfl rfl (by kernel_rfl) Try.func3 (by kernel_rfl)
    (of_decide_eq_true (by kernel_rfl)) (by unfold Func.isWrapper; first | (rw [if_pos (by decide +kernel)]; kernel_rfl) | (rw [if_neg (by decide +kernel)]; exact ⟨rfl, rfl⟩))
    (fun os started H enc _ => radixReads_lifted os started H enc)
end Go.Proofs.Ytdlhihllmidfeaa
