/- 'drawn' of the laws (layer 13): proportions that need not be right. -/
import Derived.Test.YtjeelciijfpdiaaDt8
import Derived.Test.YtjeelciijfpdiaaOdd
import Derived.Deep.CutBlock
import Derived.Deep.RegionWith
import Derived.RegionTactic
namespace Go.Proofs.Ytjeelciijfpdiaa
open Go.RowKit Go.Mine

/-- Proportions in block g, their events in a row of their own behind it; a result's block, a tape. -/
structure DdW (w : World) (B b g : Nat) (wx : World) (a : Option Addr) (c : Nat) (L : List Int) (P l : Int) : Prop where
  own : Own wx g 27 #[.slice a L.length c, .int .i64 P, .int .i64 l]
  row : RowE 3 1 enc1 wx (g + 1) (.slice a L.length c) L
  res : Own wx w.heap.size 27 #[.slice none 0 0, .int .i64 0, .int .i64 0]
  tp : Tp B wx b
  gr : w.grownBy wx (some b)
section
variable {w wx wy : World} {B b g c : Nat} {a : Option Addr} {L : List Int} {P l : Int}
theorem DdW.past (h : DdW w B b g wx a c L P l) (k : wx.grownBy wy (some b)) (t : Tp B wy b) (hb : b < w.heap.size) (hg : w.heap.size < g) : DdW w B b g wy a c L P l :=
  ⟨h.own.past k (by omega), h.row.past k (by omega), h.res.past k (by omega), t, grown_trans h.gr k⟩
theorem DdW.drew (h : DdW w B b g wx a c L P l) : DdW w B b g wx.drew a c L P l := ⟨h.own.drew, h.row.drew, h.res.drew, h.tp.drew, grown_drew h.gr⟩
theorem DdW.elem {gr : Nat} (h : DdW w B b g wx (some ⟨gr, 0, none⟩) c L P l) (hB : B ≤ w.heap.size) (hg : w.heap.size < g) (z : Int) : DdW w B b g (wx.setCell ⟨gr, 0, none⟩ (.int .i64 z)) (some ⟨gr, 0, none⟩) c (L.set 0 z) P l := by
  have hgr := h.row.above gr rfl
  have e : (L.set 0 z).length = L.length := List.length_set ..
  refine ⟨?_, ?_, h.res.far (p := ⟨gr, 0, none⟩) (show w.heap.size ≠ gr by omega) _, h.tp.set (p := ⟨gr, 0, none⟩) (show B ≤ gr by omega) _, grown_set h.gr (p := ⟨gr, 0, none⟩) (.inr (show w.heap.size ≤ gr by omega)) _⟩
  · rw [e]; exact h.own.far (p := ⟨gr, 0, none⟩) (show g ≠ gr by omega) _
  · rw [e]; exact h.row.storeI 0 z
theorem DdW.num (h : DdW w B b g wx a c L P l) (hB : B ≤ w.heap.size) (hg : w.heap.size < g) (i : Nat) (hi : i = 1 ∨ i = 2) (z : Int) : ∃ P' l', DdW w B b g (wx.setCell ⟨g, i, none⟩ (.int .i64 z)) a c L P' l' := by
  rcases hi with rfl | rfl
  · exact ⟨z, l, h.own.set 1 _, h.row.putO (Nat.lt_succ_self _) 1 _, h.res.far (p := ⟨g, 1, none⟩) (by simp; omega) _, h.tp.set (p := ⟨g, 1, none⟩) (by show B ≤ g; omega) _, grown_set h.gr (p := ⟨g, 1, none⟩) (.inr (by show w.heap.size ≤ g; omega)) _⟩
  · exact ⟨P, z, h.own.set 2 _, h.row.putO (Nat.lt_succ_self _) 2 _, h.res.far (p := ⟨g, 2, none⟩) (by simp; omega) _, h.tp.set (p := ⟨g, 2, none⟩) (by show B ≤ g; omega) _, grown_set h.gr (p := ⟨g, 2, none⟩) (.inr (by show w.heap.size ≤ g; omega)) _⟩
end
theorem grown3' {w a E : World} {r : Option Nat} {b : Nat} {x y z : Value} (G : w.grownBy a r) (hw : ((a.setCell ⟨b, 0, none⟩ x).setCell ⟨b, 1, none⟩ y).setCell ⟨b, 2, none⟩ z = E) (hb : w.heap.size ≤ b) : w.grownBy E r := by
  subst hw
  exact grown_set (p := ⟨b, 2, none⟩) (grown_set (p := ⟨b, 1, none⟩) (grown_set (p := ⟨b, 0, none⟩) G (.inr hb) x) (.inr hb) y) (.inr hb) z
def DdSt (w : World) (B b g N : Nat) (wx : World) : Prop := ∃ (a : Option Addr) (c : Nat) (L : List Int) (P l : Int), L.length = N ∧ DdW w B b g wx a c L P l
def DdSw (w : World) (B b g : Nat) (wx : World) : Prop := ∃ (a : Option Addr) (c : Nat) (L : List Int) (P l : Int), L.length ≤ 6 ∧ DdW w B b g wx a c L P l
/-- It returns some proportions; they need not be right. -/
def RetDd (B b : Nat) (w : World) (e : Ending) (w' : World) : Prop := ∃ v x, e = .returned v ∧ x.e.length ≤ 6 ∧ PdR w' (fun k => w.heap.size ≤ k) v x ∧ Tp B w' b ∧ w.grownBy w' (some b)
set_option maxRecDepth 100000 in
set_option maxHeartbeats 16000000 in
theorem drawn_x {B b : Nat} {w : World} (tp : Tp B w b) (hbw : B ≤ w.heap.size) : Calls Try.prog 6 #[.pointer (some ⟨b, 0, none⟩)] w (RetDd B b w) := by
  have hb := tp.ltB
  have S0 := Own.new w 27 #[.slice none 0 0, .int .i64 0, .int .i64 0]
  have T0 := tp.alloc (.cells #[.slice none 0 0, .int .i64 0, .int .i64 0] 27)
  have G0 : w.grownBy (w.alloc (.cells #[.slice none 0 0, .int .i64 0, .int .i64 0] 27)) (some b) := grown_alloc (grown_refl _ _) _
  have hz0 : (w.alloc (.cells #[.slice none 0 0, .int .i64 0, .int .i64 0] 27)).heap.size = w.heap.size + 1 := by simp
  clear tp
  go_enter Try.func6, Try.ntmps6
  go_wp2_with fail
  with_reducible refine (next_x _ _ _ _ (by omega) (by omega) T0).mono ?_
  rintro e w1 ⟨q, q0, q1, rfl, T1, g1⟩
  have S1 := S0.past g1 (by omega)
  have G1 := grown_trans G0 g1
  have hz1 : w.heap.size + 1 ≤ w1.heap.size := by have := g1.size; omega
  obtain ⟨P, hP⟩ : ∃ P, 1 + q = P := ⟨_, rfl⟩
  have nP : IntKind.i64.wrap (1 + q) = P := (IntWalk.i64_in _ (by omega)).trans hP
  have hP1 : 1 ≤ P := by omega
  have hP2 : P ≤ 20 := by omega
  have HD1 : Hid (DdW w B b w1.heap.size (w1.alloc (.cells #[.slice none 0 0, .int .i64 P, .int .i64 0] 27)) none 0 [] P 0) := Lib.hid ⟨Own.new w1 _ _, RowE.nil _ _, S1.alloc _, T1.alloc _, grown_alloc G1 _⟩
  clear S0 T0 G0 S1 T1 G1 g1 hz0 hP q0 q1
  go_wp2_with fail
  generalize World.alloc w1 _ = w2 at *
  generalize w1.heap.size = g at *
  have hg : w.heap.size < g := hz1
  with_reducible refine (next_x _ _ _ _ (by omega) (by omega) HD1.out.tp).mono ?_
  rintro e w3 ⟨q2, q20, q21, rfl, T3, g3⟩
  have HD3 := Lib.hid (HD1.out.past g3 T3 (by omega) hg)
  have n2 : IntKind.i64.wrap (1 + q2) = 1 + q2 := IntWalk.i64_in _ (by omega)
  have HN3 := Lib.hid (HD3.out.num hbw hg 2 (.inr rfl) (1 + q2))
  obtain ⟨m0, m1, m2, m3, m4, m5⟩ := HD3.out.own.three
  clear T3 g3 HD1 hz1
  go_wp2_with fail
  obtain ⟨P', l', D4⟩ := HN3.out
  clear m0 m1 m2 m3 m4 m5 HN3 HD3
  generalize World.setCell w3 _ _ = w4 at *
  with_reducible refine (next_x _ _ _ _ (by omega) (by omega) D4.tp).mono ?_
  rintro e w5 ⟨q3, q30, q31, rfl, T5, g5⟩
  have HD5 := Lib.hid (D4.past g5 T5 (by omega) hg)
  obtain ⟨N, hN⟩ : ∃ N : Nat, 1 + q3 = N := ⟨(1 + q3).toNat, by omega⟩
  have n3 : IntKind.i64.wrap (1 + q3) = N := (IntWalk.i64_in _ (by omega)).trans hN
  have hN1 : 1 ≤ N := by omega
  have hN4 : N ≤ 4 := by omega
  clear T5 g5 D4 hN n2 q20 q21 q30 q31 nP hP1 hP2
  go_wp2_with fail
  go_loopw [4] (fun kv wr => ∃ m : Nat, kv = .int .i64 m ∧ m ≤ N ∧ DdSt w B b g (N - m) wr) (fun kv _ => (intOf kv).toNat)
  case atStart => exact ⟨N, rfl, Nat.le_refl _, none, 0, [], P', l', by simp, HD5.out⟩
  case round =>
    obtain ⟨m, rfl, hm, a, c, L, P, l, hL, S⟩ := hrel
    obtain ⟨t0, rfl⟩ : ∃ t0 : World, t0 = wr := ⟨_, rfl⟩
    by_cases hm0 : 0 < m
    · obtain ⟨m', rfl⟩ : ∃ m', m = m' + 1 := ⟨m - 1, by omega⟩
      have hmi : (0 : Int) < ((m' + 1 : Nat) : Int) := by omega
      have HL := Lib.hid hL
      have hl6 : L.length < 1000000 := by omega
      clear hL
      go_upto_region 6 with fail
      have HR0 := Lib.hid S.row.drew
      have HO0 := Lib.hid S.own.drew
      have HS0 := Lib.hid S.res.drew
      have HT0 := Lib.hid (S.tp.grew ((Grew.refl t0).drew))
      have HG0 := Lib.hid (grown_drew S.gr)
      obtain ⟨l0, l1, l2, l3, l4, l5⟩ := S.own.three
      clear S
      refine wp_region_any (by kernel_rfl) ?_
      refine wpAny_take (i := 0) (oi := ⟨some 22, _, _, _, _, _⟩) (v := ?vv1) rfl (by kernel_rfl) (by kernel_rfl) (by kernel_rfl) (fun _ _ _ h => h) (Or.inl ⟨by rfl, ?yy1⟩) ?rr1
      case yy1 => (intro w; go_simp; (try with_reducible rfl))
      try simp only [Act.put, List.setIfInBounds_toArray, List.set_cons_zero, List.set_cons_succ]
      refine wpAny_take (i := 2) (oi := ⟨some 24, _, _, _, _, _⟩) (v := ?vv2) rfl (by kernel_rfl) (by kernel_rfl) (by kernel_rfl) (fun _ _ _ h => h) (Or.inl ⟨by rfl, ?yy2⟩) ?rr2
      case yy2 => (intro w; go_simp; (try with_reducible rfl))
      try simp only [Act.put, List.setIfInBounds_toArray, List.set_cons_zero, List.set_cons_succ]
      refine wpAny_ready (rs := [1, 3]) (by kernel_rfl) (by simp) ?_
      refine AllReady.cons (o := ⟨some 23, _, _, _, _, _⟩) rfl (fun K hK => ?st17_0) (AllReady.cons (o := ⟨some 25, _, _, _, _, _⟩) rfl (fun K hK => ?st17_1) AllReady.nil)
      case st17_0 =>
        go_simp
        refine hK _ _ ?_
        clear hK K
        try simp only [Act.put, List.setIfInBounds_toArray, List.set_cons_zero, List.set_cons_succ]
        refine wpAny_ready (rs := [3]) (by kernel_rfl) (by simp) ?_
        refine AllReady.cons (o := ⟨some 25, _, _, _, _, _⟩) rfl (fun K hK => ?st7_0) AllReady.nil
        case st7_0 =>
          go_simp
          with_reducible refine (next_x _ _ _ _ (by omega) (by omega) HT0.out).mono ?_
          rintro e t1 ⟨p, p0, p1, rfl, tp1, g1⟩
          have HR1 := Lib.hid (HR0.out.past g1 (by omega))
          have HO1 := Lib.hid (HO0.out.past g1 (by omega))
          have HS1 := Lib.hid (HS0.out.past g1 (by omega))
          have HT1 := Lib.hid tp1
          have HG1 := Lib.hid (grown_trans HG0.out g1)
          have hz1 := g1.size
          clear tp1 g1 l0 l1 l2 l3 l4 l5
          obtain ⟨l0, l1, l2, l3, l4, l5⟩ := HO1.out.three
          dsimp only
          refine hK _ _ ?_
          clear hK K
          try simp only [Act.put, List.setIfInBounds_toArray, List.set_cons_zero, List.set_cons_succ]
          refine wpAny_ready (rs := [4]) (by kernel_rfl) (by simp) ?_
          refine AllReady.cons (o := ⟨some 26, _, _, _, _, _⟩) rfl (fun K hK => ?st6_0) AllReady.nil
          case st6_0 =>
            go_simp
            refine hK _ _ ?_
            clear hK K
            try simp only [Act.put, List.setIfInBounds_toArray, List.set_cons_zero, List.set_cons_succ]
            have gb := (Grew.refl t1).alloc (.cells #[.int .i64 p] 3)
            have HR2 := Lib.hid (HR1.out.grew gb)
            have HO2 := Lib.hid (HO1.out.grew gb)
            have HS2 := Lib.hid (HS1.out.grew gb)
            have HT2 := Lib.hid (HT1.out.grew gb)
            have HG2 := Lib.hid (grown_alloc HG1.out (.cells #[.int .i64 p] 3))
            have HN2 := Lib.hid (Own.new t1 3 #[.int .i64 p])
            have hz2 : g + 1 ≤ (t1.alloc (.cells #[.int .i64 p] 3)).heap.size := HO2.out.lt
            clear gb l0 l1 l2 l3 l4 l5
            obtain ⟨l0, l1, l2, l3, l4, l5⟩ := HO2.out.three
            refine wpAny_ready (rs := [5]) (by kernel_rfl) (by simp) ?_
            refine AllReady.cons (o := ⟨some 27, _, _, _, _, _⟩) rfl (fun K hK => ?st5_0) AllReady.nil
            case st5_0 =>
              refine step_append_row (w := t1.alloc (.cells #[.int .i64 p] 3)) (by rfl) (.tmp 23) (.tmp 26) 22 (by rfl) (g + 1) info_int Try.underlying22 (by decide) (by decide) enc1_len (Value.slice a L.length c) L (by rfl) HR2.out t1.heap.size 1 p (by rfl) HN2.out enc1_one (by omega) (by decide) hz2 ?_
              intro g5 cap5 t3 R5 G5 o5
              have O3 := HO2.out.keptA G5 (B := g + 1) (fun j e => HR2.out.above j e) (by omega)
              have S3 := HS2.out.keptA G5 (B := g + 1) (fun j e => HR2.out.above j e) (by omega)
              have T3 := HT2.out.keptA G5 (B := g + 1) (fun j e => HR2.out.above j e) (by omega)
              have G3 := grown_above HG2.out G5 (fun j e => by have := HR2.out.above j e; omega)
              have HQ5 := Lib.hid R5
              have HQ3 := Lib.hid (And.intro O3 (And.intro S3 (And.intro T3 G3)))
              clear R5 G5 o5 O3 S3 T3 G3 l0 l1 l2 l3 l4 l5
              obtain ⟨l0, l1, l2, l3, l4, l5⟩ := HQ3.out.1.three
              refine hK _ _ ?_
              clear hK K
              try simp only [Act.put, List.setIfInBounds_toArray, List.set_cons_zero, List.set_cons_succ]
              refine wpAny_take (i := 6) (oi := ⟨some 28, _, _, _, _, _⟩) (v := ?vv3) rfl (by kernel_rfl) (by kernel_rfl) (by kernel_rfl) (fun _ _ _ h => h) (Or.inl ⟨by rfl, ?yy3⟩) ?rr3
              case yy3 => (intro w; go_simp; (try with_reducible rfl))
              try simp only [Act.put, List.setIfInBounds_toArray, List.set_cons_zero, List.set_cons_succ]
              refine wpAny_ready (rs := [7]) (by kernel_rfl) (by simp) ?_
              refine AllReady.cons (o := ⟨none, _, _, _, _, _⟩) rfl (fun K hK => ?st4_0) AllReady.nil
              case st4_0 =>
                go_simp
                refine hK _ _ ?_
                clear hK K
                try simp only [Act.put, List.setIfInBounds_toArray, List.set_cons_zero, List.set_cons_succ]
                refine wpAny_done (by kernel_rfl) ?_ _
                (first | go_wp2 | skip)
                have R5 := HQ5.out
                obtain ⟨O3, S3, T3, G3⟩ := HQ3.out
                have O4 := O3.set 0 (.slice (some ⟨g5, 0, none⟩) (L.length + 1) cap5)
                have R6 := R5.putO (b := g) (Nat.lt_succ_self _) 0 (.slice (some ⟨g5, 0, none⟩) (L.length + 1) cap5)
                have e9 : L.length + 1 = (L ++ [p]).length := by simp
                rw [e9] at R6 O4 ⊢
                refine ⟨⟨m', by go_num, by omega, ?_⟩, by simp [intOf] <;> omega⟩
                exact ⟨_, cap5, L ++ [p], P, l, by rw [← e9, HL.out]; omega, ⟨O4, R6, S3.far (p := ⟨g, 0, none⟩) (show w.heap.size ≠ g by omega) _, T3.set (p := ⟨g, 0, none⟩) (show B ≤ g by omega) _, grown_set G3 (p := ⟨g, 0, none⟩) (.inr (show w.heap.size ≤ g by omega)) _⟩⟩
      case st17_1 =>
        go_simp
        with_reducible refine (next_x _ _ _ _ (by omega) (by omega) HT0.out).mono ?_
        rintro e t1 ⟨p, p0, p1, rfl, tp1, g1⟩
        have HR1 := Lib.hid (HR0.out.past g1 (by omega))
        have HO1 := Lib.hid (HO0.out.past g1 (by omega))
        have HS1 := Lib.hid (HS0.out.past g1 (by omega))
        have HT1 := Lib.hid tp1
        have HG1 := Lib.hid (grown_trans HG0.out g1)
        have hz1 := g1.size
        clear tp1 g1 l0 l1 l2 l3 l4 l5
        obtain ⟨l0, l1, l2, l3, l4, l5⟩ := HO1.out.three
        dsimp only
        refine hK _ _ ?_
        clear hK K
        try simp only [Act.put, List.setIfInBounds_toArray, List.set_cons_zero, List.set_cons_succ]
        refine wpAny_ready (rs := [1, 4]) (by kernel_rfl) (by simp) ?_
        refine AllReady.cons (o := ⟨some 23, _, _, _, _, _⟩) rfl (fun K hK => ?st16_0) (AllReady.cons (o := ⟨some 26, _, _, _, _, _⟩) rfl (fun K hK => ?st16_1) AllReady.nil)
        case st16_0 =>
          go_simp
          refine hK _ _ ?_
          clear hK K
          try simp only [Act.put, List.setIfInBounds_toArray, List.set_cons_zero, List.set_cons_succ]
          refine wpAny_ready (rs := [4]) (by kernel_rfl) (by simp) ?_
          refine AllReady.cons (o := ⟨some 26, _, _, _, _, _⟩) rfl (fun K hK => ?st11_0) AllReady.nil
          case st11_0 =>
            go_simp
            refine hK _ _ ?_
            clear hK K
            try simp only [Act.put, List.setIfInBounds_toArray, List.set_cons_zero, List.set_cons_succ]
            have gb := (Grew.refl t1).alloc (.cells #[.int .i64 p] 3)
            have HR2 := Lib.hid (HR1.out.grew gb)
            have HO2 := Lib.hid (HO1.out.grew gb)
            have HS2 := Lib.hid (HS1.out.grew gb)
            have HT2 := Lib.hid (HT1.out.grew gb)
            have HG2 := Lib.hid (grown_alloc HG1.out (.cells #[.int .i64 p] 3))
            have HN2 := Lib.hid (Own.new t1 3 #[.int .i64 p])
            have hz2 : g + 1 ≤ (t1.alloc (.cells #[.int .i64 p] 3)).heap.size := HO2.out.lt
            clear gb l0 l1 l2 l3 l4 l5
            obtain ⟨l0, l1, l2, l3, l4, l5⟩ := HO2.out.three
            refine wpAny_ready (rs := [5]) (by kernel_rfl) (by simp) ?_
            refine AllReady.cons (o := ⟨some 27, _, _, _, _, _⟩) rfl (fun K hK => ?st10_0) AllReady.nil
            case st10_0 =>
              refine step_append_row (w := t1.alloc (.cells #[.int .i64 p] 3)) (by rfl) (.tmp 23) (.tmp 26) 22 (by rfl) (g + 1) info_int Try.underlying22 (by decide) (by decide) enc1_len (Value.slice a L.length c) L (by rfl) HR2.out t1.heap.size 1 p (by rfl) HN2.out enc1_one (by omega) (by decide) hz2 ?_
              intro g5 cap5 t3 R5 G5 o5
              have O3 := HO2.out.keptA G5 (B := g + 1) (fun j e => HR2.out.above j e) (by omega)
              have S3 := HS2.out.keptA G5 (B := g + 1) (fun j e => HR2.out.above j e) (by omega)
              have T3 := HT2.out.keptA G5 (B := g + 1) (fun j e => HR2.out.above j e) (by omega)
              have G3 := grown_above HG2.out G5 (fun j e => by have := HR2.out.above j e; omega)
              have HQ5 := Lib.hid R5
              have HQ3 := Lib.hid (And.intro O3 (And.intro S3 (And.intro T3 G3)))
              clear R5 G5 o5 O3 S3 T3 G3 l0 l1 l2 l3 l4 l5
              obtain ⟨l0, l1, l2, l3, l4, l5⟩ := HQ3.out.1.three
              refine hK _ _ ?_
              clear hK K
              try simp only [Act.put, List.setIfInBounds_toArray, List.set_cons_zero, List.set_cons_succ]
              refine wpAny_take (i := 6) (oi := ⟨some 28, _, _, _, _, _⟩) (v := ?vv8) rfl (by kernel_rfl) (by kernel_rfl) (by kernel_rfl) (fun _ _ _ h => h) (Or.inl ⟨by rfl, ?yy8⟩) ?rr8
              case yy8 => (intro w; go_simp; (try with_reducible rfl))
              try simp only [Act.put, List.setIfInBounds_toArray, List.set_cons_zero, List.set_cons_succ]
              refine wpAny_ready (rs := [7]) (by kernel_rfl) (by simp) ?_
              refine AllReady.cons (o := ⟨none, _, _, _, _, _⟩) rfl (fun K hK => ?st9_0) AllReady.nil
              case st9_0 =>
                go_simp
                refine hK _ _ ?_
                clear hK K
                try simp only [Act.put, List.setIfInBounds_toArray, List.set_cons_zero, List.set_cons_succ]
                refine wpAny_done (by kernel_rfl) ?_ _
                (first | go_wp2 | skip)
                have R5 := HQ5.out
                obtain ⟨O3, S3, T3, G3⟩ := HQ3.out
                have O4 := O3.set 0 (.slice (some ⟨g5, 0, none⟩) (L.length + 1) cap5)
                have R6 := R5.putO (b := g) (Nat.lt_succ_self _) 0 (.slice (some ⟨g5, 0, none⟩) (L.length + 1) cap5)
                have e9 : L.length + 1 = (L ++ [p]).length := by simp
                rw [e9] at R6 O4 ⊢
                refine ⟨⟨m', by go_num, by omega, ?_⟩, by simp [intOf] <;> omega⟩
                exact ⟨_, cap5, L ++ [p], P, l, by rw [← e9, HL.out]; omega, ⟨O4, R6, S3.far (p := ⟨g, 0, none⟩) (show w.heap.size ≠ g by omega) _, T3.set (p := ⟨g, 0, none⟩) (show B ≤ g by omega) _, grown_set G3 (p := ⟨g, 0, none⟩) (.inr (show w.heap.size ≤ g by omega)) _⟩⟩
        case st16_1 =>
          go_simp
          refine hK _ _ ?_
          clear hK K
          try simp only [Act.put, List.setIfInBounds_toArray, List.set_cons_zero, List.set_cons_succ]
          have gb := (Grew.refl t1).alloc (.cells #[.int .i64 p] 3)
          have HR2 := Lib.hid (HR1.out.grew gb)
          have HO2 := Lib.hid (HO1.out.grew gb)
          have HS2 := Lib.hid (HS1.out.grew gb)
          have HT2 := Lib.hid (HT1.out.grew gb)
          have HG2 := Lib.hid (grown_alloc HG1.out (.cells #[.int .i64 p] 3))
          have HN2 := Lib.hid (Own.new t1 3 #[.int .i64 p])
          have hz2 : g + 1 ≤ (t1.alloc (.cells #[.int .i64 p] 3)).heap.size := HO2.out.lt
          clear gb l0 l1 l2 l3 l4 l5
          obtain ⟨l0, l1, l2, l3, l4, l5⟩ := HO2.out.three
          refine wpAny_ready (rs := [1]) (by kernel_rfl) (by simp) ?_
          refine AllReady.cons (o := ⟨some 23, _, _, _, _, _⟩) rfl (fun K hK => ?st15_0) AllReady.nil
          case st15_0 =>
            go_simp
            refine hK _ _ ?_
            clear hK K
            try simp only [Act.put, List.setIfInBounds_toArray, List.set_cons_zero, List.set_cons_succ]
            refine wpAny_ready (rs := [5]) (by kernel_rfl) (by simp) ?_
            refine AllReady.cons (o := ⟨some 27, _, _, _, _, _⟩) rfl (fun K hK => ?st14_0) AllReady.nil
            case st14_0 =>
              refine step_append_row (w := t1.alloc (.cells #[.int .i64 p] 3)) (by rfl) (.tmp 23) (.tmp 26) 22 (by rfl) (g + 1) info_int Try.underlying22 (by decide) (by decide) enc1_len (Value.slice a L.length c) L (by rfl) HR2.out t1.heap.size 1 p (by rfl) HN2.out enc1_one (by omega) (by decide) hz2 ?_
              intro g5 cap5 t3 R5 G5 o5
              have O3 := HO2.out.keptA G5 (B := g + 1) (fun j e => HR2.out.above j e) (by omega)
              have S3 := HS2.out.keptA G5 (B := g + 1) (fun j e => HR2.out.above j e) (by omega)
              have T3 := HT2.out.keptA G5 (B := g + 1) (fun j e => HR2.out.above j e) (by omega)
              have G3 := grown_above HG2.out G5 (fun j e => by have := HR2.out.above j e; omega)
              have HQ5 := Lib.hid R5
              have HQ3 := Lib.hid (And.intro O3 (And.intro S3 (And.intro T3 G3)))
              clear R5 G5 o5 O3 S3 T3 G3 l0 l1 l2 l3 l4 l5
              obtain ⟨l0, l1, l2, l3, l4, l5⟩ := HQ3.out.1.three
              refine hK _ _ ?_
              clear hK K
              try simp only [Act.put, List.setIfInBounds_toArray, List.set_cons_zero, List.set_cons_succ]
              refine wpAny_take (i := 6) (oi := ⟨some 28, _, _, _, _, _⟩) (v := ?vv12) rfl (by kernel_rfl) (by kernel_rfl) (by kernel_rfl) (fun _ _ _ h => h) (Or.inl ⟨by rfl, ?yy12⟩) ?rr12
              case yy12 => (intro w; go_simp; (try with_reducible rfl))
              try simp only [Act.put, List.setIfInBounds_toArray, List.set_cons_zero, List.set_cons_succ]
              refine wpAny_ready (rs := [7]) (by kernel_rfl) (by simp) ?_
              refine AllReady.cons (o := ⟨none, _, _, _, _, _⟩) rfl (fun K hK => ?st13_0) AllReady.nil
              case st13_0 =>
                go_simp
                refine hK _ _ ?_
                clear hK K
                try simp only [Act.put, List.setIfInBounds_toArray, List.set_cons_zero, List.set_cons_succ]
                refine wpAny_done (by kernel_rfl) ?_ _
                (first | go_wp2 | skip)
                have R5 := HQ5.out
                obtain ⟨O3, S3, T3, G3⟩ := HQ3.out
                have O4 := O3.set 0 (.slice (some ⟨g5, 0, none⟩) (L.length + 1) cap5)
                have R6 := R5.putO (b := g) (Nat.lt_succ_self _) 0 (.slice (some ⟨g5, 0, none⟩) (L.length + 1) cap5)
                have e9 : L.length + 1 = (L ++ [p]).length := by simp
                rw [e9] at R6 O4 ⊢
                refine ⟨⟨m', by go_num, by omega, ?_⟩, by simp [intOf] <;> omega⟩
                exact ⟨_, cap5, L ++ [p], P, l, by rw [← e9, HL.out]; omega, ⟨O4, R6, S3.far (p := ⟨g, 0, none⟩) (show w.heap.size ≠ g by omega) _, T3.set (p := ⟨g, 0, none⟩) (show B ≤ g by omega) _, grown_set G3 (p := ⟨g, 0, none⟩) (.inr (show w.heap.size ≤ g by omega)) _⟩⟩
    · obtain rfl : m = 0 := by omega
      have hL1 : 1 ≤ L.length := by omega
      have hL4 : L.length ≤ 4 := by omega
      clear HD5 hm hL
      have HS := Lib.hid S
      clear S
      go_wp2_with fail
      with_reducible refine (next_x _ _ _ _ (by omega) (by omega) HS.out.tp).mono ?_
      rintro e t1 ⟨q, q0, q1, rfl, T1, g1⟩
      have HS1 := Lib.hid (HS.out.past g1 T1 (by omega) hg)
      have hB1 : B ≤ t1.heap.size := by have := HS1.out.res.lt; omega
      clear T1 g1 HS
      go_upto_block 2 with fail
      go_cut [] from 31 to 54 (DdSw w B b g)
      case first =>
        by_cases h0 : q = 0
        · subst h0
          go_wp2_with fail
          with_reducible refine (odd_x _ _ _ HS1.out.tp hB1).mono ?_
          rintro e t2 ⟨z, rfl, T2, g2⟩
          have HS2 := Lib.hid (HS1.out.past g2 T2 (by omega) hg)
          obtain ⟨m0, m1, m2, m3, m4, m5⟩ := HS2.out.own.three
          clear T2 g2 HS1
          go_wp2_with fail
          go_meet
          obtain ⟨P2, l2, D⟩ := HS2.out.num hbw hg 1 (.inl rfl) z
          exact ⟨a, c, L, P2, l2, by omega, D⟩
        · have e0 : (q == 0) = false := by simpa using h0
          by_cases h1 : q = 1
          · subst h1
            go_wp2_with fail
            with_reducible refine (odd_x _ _ _ HS1.out.tp hB1).mono ?_
            rintro e t2 ⟨z, rfl, T2, g2⟩
            have HS2 := Lib.hid (HS1.out.past g2 T2 (by omega) hg)
            obtain ⟨m0, m1, m2, m3, m4, m5⟩ := HS2.out.own.three
            clear T2 g2 HS1
            go_wp2_with fail
            go_meet
            obtain ⟨P2, l2, D⟩ := HS2.out.num hbw hg 2 (.inr rfl) z
            exact ⟨a, c, L, P2, l2, by omega, D⟩
          · have e1 : (q == 1) = false := by simpa using h1
            by_cases h2 : q = 2
            · subst h2
              obtain ⟨gr, rfl⟩ : ∃ gr, a = some ⟨gr, 0, none⟩ := by
                obtain ⟨gr, e, -⟩ := HS1.out.row.atI.2 0 (by omega)
                exact ⟨gr, e⟩
              have hgr := HS1.out.row.above gr rfl
              obtain ⟨m0, m1, m2, m3, m4, m5⟩ := HS1.out.own.three
              have hi0 : (0 : Int) < (L.length : Int) := by omega
              have hB1d : B ≤ t1.drew.heap.size := hB1
              go_upto_region 13 with fail
              go_region_with (first
                | (go_at_call 8; (with_reducible refine (odd_x _ _ _ (by first | exact HS1.out.tp | exact HS1.out.drew.tp) (by first | exact hB1 | exact hB1d)).mono ?_); rintro e t2 ⟨z, rfl, T2, g2⟩; have HS2 := Lib.hid (DdW.past (by first | exact HS1.out | exact HS1.out.drew) g2 T2 (by omega) hg); clear m0 m1 m2 m3 m4 m5 T2 g2; obtain ⟨m0, m1, m2, m3, m4, m5⟩ := HS2.out.own.three; obtain ⟨gr', e', hgB, hgl, x0, x1⟩ := HS2.out.row.atI.2 0 (by omega); injection e' with e'; injection e' with e'; subst e'))
              all_goals
                go_wp2
                go_meet
                exact ⟨_, c, L.set 0 z, P, l, by rw [List.length_set]; omega, HS2.out.elem hbw hg z⟩
            · have e2 : (q == 2) = false := by simpa using h2
              by_cases h3 : q = 3
              · subst h3
                obtain ⟨m0, m1, m2, m3, m4, m5⟩ := HS1.out.own.three
                have gb := (Grew.refl t1).alloc (.cells #[.int .i64 1, .int .i64 1] 3)
                have HR2 := Lib.hid (HS1.out.row.grew gb)
                have HO2 := Lib.hid (HS1.out.own.grew gb)
                have HP2 := Lib.hid (HS1.out.res.grew gb)
                have HT2 := Lib.hid (HS1.out.tp.grew gb)
                have HG2 := Lib.hid (grown_alloc HS1.out.gr (.cells #[.int .i64 1, .int .i64 1] 3))
                have HLI := Lib.hid (show Lies enc1 (t1.alloc (.cells #[.int .i64 1, .int .i64 1] 3)) (some ⟨t1.heap.size, 0, none⟩) [1, 1] from .inr ⟨_, rfl, own_news (l := [.int .i64 1, .int .i64 1]) (Own.new t1 3 #[.int .i64 1, .int .i64 1])⟩)
                have hz2 : g + 1 ≤ (t1.alloc (.cells #[.int .i64 1, .int .i64 1] 3)).heap.size := HO2.out.lt
                have hl6 : L.length + ([1, 1] : List Int).length < 1000000 := by simp only [List.length_cons, List.length_nil]; omega
                clear gb
                go_wp2_with (at_builtin; go_loud (
                  refine wpList_append_src _ rfl _ _ 22 rfl (g + 1) info_int Try.underlying22 (by decide) (by decide) enc1_len (fun z => enc1_one) _ L rfl HR2.out _ _ _ [1, 1] rfl rfl HLI.out hl6 (by decide) hz2 ?_
                  intro v3 t3 R3 G3 o3
                  obtain ⟨a3, c3, rfl⟩ := R3.len
                  have O3 := HO2.out.keptA G3 (B := g + 1) (fun j e => HR2.out.above j e) (by omega)
                  have S3 := HP2.out.keptA G3 (B := g + 1) (fun j e => HR2.out.above j e) (by omega)
                  have T3 := HT2.out.keptA G3 (B := g + 1) (fun j e => HR2.out.above j e) (by omega)
                  have G4 := grown_above HG2.out G3 (fun j e => by have := HR2.out.above j e; omega)
                  have HD3 : Hid (DdW w B b g (t3.setCell ⟨g, 0, none⟩ (.slice a3 (L ++ [1, 1]).length c3)) a3 c3 (L ++ [1, 1]) P l) := Lib.hid ⟨O3.set 0 _, R3.putO (Nat.lt_succ_self _) 0 _, S3.far (p := ⟨g, 0, none⟩) (show w.heap.size ≠ g by omega) _, T3.set (p := ⟨g, 0, none⟩) (show B ≤ g by omega) _, grown_set G4 (p := ⟨g, 0, none⟩) (.inr (show w.heap.size ≤ g by omega)) _⟩
                  obtain ⟨m0, m1, m2, m3, m4, m5⟩ := O3.three
                  clear R3 G3 o3 S3 T3 G4 O3))
                go_meet
                have hd := HD3.out
                have e9 : (L ++ ([1, 1] : List Int)).length = L.length + 2 := by simp
                rw [e9] at hd
                exact ⟨a3, c3, L ++ [1, 1], P, l, by simp; omega, hd⟩
              · have e3 : (q == 3) = false := by simpa using h3
                clear h0 h1 h2 h3
                go_wp2_with fail
                go_meet
                exact ⟨a, c, L, P, l, by omega, HS1.out⟩
      case rest =>
        obtain ⟨a2, c2, L2, P2, l2, hL2, D⟩ := hcut
        obtain ⟨m0, m1, m2, m3, m4, m5⟩ := D.own.three
        obtain ⟨k0, k1, k2, k3, k4, k5⟩ := D.res.three
        have HD := Lib.hid D
        clear D HS1
        go_wp2
        generalize hw : World.setCell (World.setCell (World.setCell _ _ _) _ _) _ _ = E
        have RR := HD.out.res.store3 hw
        obtain ⟨u0, u1, u2, -⟩ := RR.three
        have hR := (HD.out.row.far3 hw (by omega)).rd
        refine bodyPost_ret (v := .agg #[.slice a2 L2.length c2, .int .i64 P2, .int .i64 l2]) (by simp [results, Try.results6, go_sem, u0, u1, u2]) rfl ?_
        refine ⟨_, ⟨L2, P2, l2⟩, rfl, hL2, ?_, HD.out.tp.far3 hw hbw, grown3' HD.out.gr hw (Nat.le_refl _)⟩
        obtain ⟨a', c', e', r⟩ := hR
        injection e' with e1 e2 e3
        subst e1 e3
        exact ⟨_, _, rfl, r.keep (Nat.le_refl _) (fun k h _ => Nat.le_trans (by omega) h) fun _ _ _ => rfl⟩
end Go.Proofs.Ytjeelciijfpdiaa
