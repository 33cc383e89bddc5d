/- Page tables (layer 17): slices.DeleteFunc with the closure of Zap, Zap of the program. -/
import Derived.Test.YtjkkhfionmdmpaaPt9
namespace Go.Proofs.Ytjkkhfionmdmpaa
open Go.RowKit Go.Mine

theorem run_slcH (w : World) (g n c i : Nat) (hi : i ≤ c) : (Instr.slice 26 (.slice (some ⟨g, 0, none⟩) n c) none (some (.int .i64 (i : Nat))) none).run Try.prog w = .ok (.slice (some ⟨g, 0, none⟩) i c) w := by
  have hu := run_underlying (w := w) Try.underlying26
  simp [Instr.slice, Instr.sliceBounds, Instr.sliceBound, asIntOf, hu, hi, Try.sizeOf30, Result.andThen, Addr.add_lit]
def RetDZ (L : List Pt) (B : Nat) (v : Value) (w : World) (e : Ending) (w' : World) : Prop := ∃ u, e = .returned u ∧ RowE 30 5 encT w' B u L ∧ w.grownBy w' v.ownBlock
set_option maxRecDepth 100000 in
set_option maxHeartbeats 4000000 in
theorem deleteZ_p {B b : Nat} {a : Option Addr} {n cp : Nat} {L : List Pt} {p v m : Int} {w : World} (R : RowE 30 5 encT w B (.slice a n cp) L) (hl : L.length ≤ 1000) (hok : okT L = true) (hC : ClZ 3 w b p v m) (h1 : 1 ≤ m) (h2 : m ≤ 9223372036854775807)
    (hb : ∀ k, (Value.slice a n cp).ownBlock = some k → k ≠ b ∧ k ≠ b + 1 ∧ k ≠ b + 2) :
    Calls Try.prog 39 #[.slice a n cp, .func (.func 40) #[] #[.pointer (some ⟨b, 0, none⟩), .pointer (some ⟨b + 1, 0, none⟩), .pointer (some ⟨b + 2, 0, none⟩)]] w (RetDZ (L.filter (fun x => !zpB p v m x)) B (.slice a n cp) w) := by
  have HR := Lib.hid R
  have HC := Lib.hid hC
  have HOK := Lib.hid hok
  have HN := Lib.hid R.nT.symm
  have hln : n ≤ 1000 := by have := R.nT; omega
  have HL := Lib.hid hl
  clear R hC hok hl
  go_enter Try.func39, Try.ntmps39
  go_wp2_with fail
  with_reducible refine (indexZ_p (RowE.rdS encT_len HR.out) HL.out HOK.out HC.out h1 h2).mono ?_
  rintro e' w1 ⟨j, rfl, g1, ⟨rfl, hall⟩ | ⟨k0, rfl, hm, hbef, hat⟩⟩
  · have HK := Lib.hid (show L.filter (fun x => !zpB p v m x) = L from List.filter_eq_self.2 fun x hx => by
      obtain ⟨k, hk, rfl⟩ := List.mem_iff_getElem.1 hx
      rw [← tD hk, hall k hk]; rfl)
    clear hall
    go_wp2
    go_ret
    exact ⟨_, rfl, by rw [HK.out]; exact HR.out.grew g1, grown_row g1.grown⟩
  · have HD := Lib.hid (DelT.first hm hbef hat)
    clear hbef hat
    rcases HR.out.shape encT_len with ⟨e9, e8⟩ | ⟨g, cap, e9, hBg, hg, hnc, hmx, -, -⟩
    · rw [e8] at hm; exact absurd hm (by simp)
    injection e9 with e9 e8 e7
    subst e9 e7
    obtain ⟨hb0, hb1, hb2⟩ := hb g rfl
    have hm1 : (k0 == (-1 : Int)) = false := beq_false_of_ne (by omega)
    have hmn : k0 < n := by rw [← HN.out]; exact hm
    have HR1 := Lib.hid (HR.out.grew g1)
    have HG1 := Lib.hid (grown_row (r := some g) g1.grown)
    have HC1 := Lib.hid (HC.out.grew g1)
    clear hm g1 e8 HR HC
    go_wp2
    go_loopw [5, 6] (fun iv jv wr => ∃ (i j : Nat) (M : List Pt), iv = .int .i64 i ∧ jv = .int .i64 j ∧ DelT (zpB p v m) L M i j ∧ RowE 30 5 encT wr B (.slice (some ⟨g, 0, none⟩) n cp) M ∧ ClZ 3 wr b p v m ∧ w.grownBy wr (some g)) (fun _ jv _ => n - (intOf jv).toNat)
    case atStart => exact ⟨k0, k0 + 1, L, rfl, by go_num, HD.out, HR1.out, HC1.out, HG1.out⟩
    case round =>
      clear HD HR1 HG1 HC1
      obtain ⟨i, j, M, rfl, rfl, hD, RM, CM, G⟩ := hrel
      obtain ⟨wo, rfl⟩ : ∃ wo : World, wo = wr := ⟨_, rfl⟩
      have hj := hD.2.2.1
      have hij := hD.2.1
      have hML := hD.1
      rw [HN.out] at hj hML
      have HD := Lib.hid hD
      clear hD
      by_cases hlt : j < n
      · have hjL : j < L.length := by rw [HN.out]; exact hlt
        have hjM : j < M.length := by rw [hML]; exact hlt
        have hiM : i < M.length := by omega
        obtain ⟨gq, oq, e7, -, hgs, c0, c1, c2, c3, c4⟩ := (RowE.rdS encT_len RM).atT hjM
        injection e7 with e7
        injection e7 with e7 e6
        subst e7 e6
        obtain ⟨gq, oq, e7, -, -, y0, y1, y2, y3, y4⟩ := (RowE.rdS encT_len RM).atT hiM
        injection e7 with e7
        injection e7 with e7 e6
        subst e7 e6
        have hrt := rtTD HOK.out hjL
        have HK := Lib.hid (fun hv => HD.out.keep hjL hv)
        have HX := Lib.hid (fun hv => HD.out.drop hjL hv)
        have hMj := HD.out.2.2.2.2 j (Nat.le_refl _) hjL
        obtain ⟨d, hd⟩ : ∃ d, L.getD j zT = d := ⟨_, rfl⟩
        rw [show M.getD j (⟨0, 0, 0, false, false⟩ : Pt) = d from hMj.trans hd] at c0 c1 c2 c3 c4
        rw [hd] at HK HX hrt
        rw [Nat.zero_add] at c0 c1 c2 c3 c4 y0 y1 y2 y3 y4
        have HRT := Lib.hid hrt
        have j0 : (0 : Int) ≤ (j : Int) := by omega
        have j1 : (j : Int) < (n : Int) := by omega
        have i0 : (0 : Int) ≤ (i : Int) := by omega
        have i1 : (i : Int) < (n : Int) := by omega
        have HRA := Lib.hid (RM.alloc (.cells #[.int .i64 d.p, .int .i64 d.v, .int .i64 d.f, .bool d.w, .bool d.a] 30))
        have HCA := Lib.hid (CM.grew ((Grew.refl wo).alloc (.cells #[.int .i64 d.p, .int .i64 d.v, .int .i64 d.f, .bool d.w, .bool d.a] 30)))
        have HGA := Lib.hid (grown_alloc G (.cells #[.int .i64 d.p, .int .i64 d.v, .int .i64 d.f, .bool d.w, .bool d.a] 30))
        have HO := Lib.hid (Own.new wo 30 #[.int .i64 d.p, .int .i64 d.v, .int .i64 d.f, .bool d.w, .bool d.a])
        obtain ⟨x0, x1, x2, x3, x4⟩ := HO.out.fiveT
        clear hd hrt hMj hML G RM CM HD y0 y1 y2 y3 y4
        cases hq : zpB p v m d
        · have HQ := Lib.hid hq
          have HKK := Lib.hid (HK.out hq)
          clear hq HK HX
          go_wp2_with fail
          with_reducible refine (zap1_p (x := d) HCA.out HRT.out h1 h2 HQ.out).mono ?_
          rintro e2 w2 ⟨rfl, g2⟩
          have HR2 := Lib.hid (HRA.out.grew g2)
          have HC2 := Lib.hid (HCA.out.grew g2)
          have HG2 := Lib.hid (grown_trans HGA.out (grown_row g2.grown))
          obtain ⟨z0, z1, z2, z3, z4⟩ := (HO.out.grew g2).fiveT
          obtain ⟨gq, oq, e7, -, -, y0, y1, y2, y3, y4⟩ := (RowE.rdS encT_len HR2.out).atT hiM
          injection e7 with e7
          injection e7 with e7 e6
          subst e7 e6
          rw [Nat.zero_add] at y0 y1 y2 y3 y4
          rcases HR2.out.shape encT_len with ⟨e5, -⟩ | ⟨gs, caps, e5, -, -, -, -, -, hfr⟩
          · exact absurd e5 (by simp)
          injection e5 with e5 e4 e3
          injection e5 with e5
          injection e5 with e5
          subst e5
          have f0 := hfr (i * 5)
          have f1 := hfr (i * 5 + 1)
          have f2 := hfr (i * 5 + 2)
          have f3 := hfr (i * 5 + 3)
          have f4 := hfr (i * 5 + 4)
          clear x0 x1 x2 x3 x4 c0 c1 c2 c3 c4 hfr e4 e3 g2 HO HRA HCA HGA
          go_wp2_with fail
          generalize hw : World.setCell (World.setCell (World.setCell (World.setCell (World.setCell w2 _ _) _ _) _ _) _ _) _ _ = E
          have HRE := Lib.hid (HR2.out.put5T hiM d hw)
          have HGE : Hid (w2.grownBy E (some g)) := Lib.hid (by
            rw [← hw]
            exact grown_set (p := ⟨g, i * 5 + 4, none⟩) (grown_set (p := ⟨g, i * 5 + 3, none⟩) (grown_set (p := ⟨g, i * 5 + 2, none⟩) (grown_set (p := ⟨g, i * 5 + 1, none⟩) (grown_set (p := ⟨g, i * 5, none⟩) (grown_refl _ _) (.inl rfl) _) (.inl rfl) _) (.inl rfl) _) (.inl rfl) _) (.inl rfl) _)
          clear hw y0 y1 y2 y3 y4 z0 z1 z2 z3 z4 f0 f1 f2 f3 f4
          go_wp2
          exact ⟨⟨i + 1, j + 1, M.set i d, by go_num, by go_num, HKK.out, HRE.out, HC2.out.by_ HGE.out (fun k e => by injection e with e; subst e; exact ⟨hb0, hb1, hb2⟩), grown_trans HG2.out HGE.out⟩, by simp [intOf] <;> omega⟩
        · have HQ := Lib.hid hq
          have HKK := Lib.hid (HX.out hq)
          clear hq HK HX
          go_wp2_with fail
          with_reducible refine (zap1_p (x := d) HCA.out HRT.out h1 h2 HQ.out).mono ?_
          rintro e2 w2 ⟨rfl, g2⟩
          have HR2 := Lib.hid (HRA.out.grew g2)
          have HC2 := Lib.hid (HCA.out.grew g2)
          have HG2 := Lib.hid (grown_trans HGA.out (grown_row g2.grown))
          clear x0 x1 x2 x3 x4 c0 c1 c2 c3 c4 g2 HO HRA HCA HGA
          go_wp2
          exact ⟨⟨i, j + 1, M, rfl, by go_num, HKK.out, HR2.out, HC2.out, HG2.out⟩, by simp [intOf] <;> omega⟩
      · obtain rfl : j = n := by omega
        have hDD := HD.out
        rw [← HN.out] at hDD
        obtain ⟨e1, e2⟩ := hDD.last
        have HE := Lib.hid e1
        have hnc2 : j ≤ cp := by rw [← HN.out]; exact hnc
        have hic : i ≤ cp := by omega
        have hij2 : i ≤ j := by omega
        have hcl := fun ty => run_clear_pt wo ty g (i * 5) (j - i) (cp - i) (by omega)
          (fun k hk => by
            have hx := (row_ownN RM).2.2.2.2
            obtain ⟨cur, hO, hsz, -⟩ := hx
            exact some_ownN hO (by omega))
          (fun k hk => by
            obtain ⟨cur, hO, hsz, -⟩ := (row_ownN RM).2.2.2.2
            exact hO.frozen _)
        have hsl := run_slcE wo (some ⟨g, 0, none⟩) j cp i hij2
        rw [if_neg (show ¬cp = i by omega)] at hsl
        simp only [Option.map_some, Addr.add_lit, Nat.zero_add] at hsl
        have hsh := fun w => run_slcH w g j cp i hic
        have HRM := Lib.hid RM
        have HG := Lib.hid G
        have HL2 : Hid (i = (M.take i).length) := Lib.hid (by rw [List.length_take]; omega)
        have R1 := RM.cut encT_len (k := i) (by omega)
        have HR1 := Lib.hid R1
        clear e1 hDD HD RM G CM R1
        go_wp2
        go_ret
        refine ⟨_, rfl, ?_, grown_setCells (.inl rfl) _ _ _ HG.out⟩
        rw [← HE.out]
        have R1 := HR1.out
        generalize M.take i = K at *
        have hi9 := HL2.out
        subst hi9
        exact RowE.wiped encT_len _ _ _ R1 (Nat.le_refl _)
set_option maxRecDepth 100000 in
set_option maxHeartbeats 4000000 in
theorem zap_p {B : Nat} {v : Value} {L : List Pt} {p q m : Int} {w : World} (h : RdS 5 encT w B v L) (hl : L.length ≤ 1000) (hm : m ≤ 9223372036854775807) : Calls Try.prog 19 #[v, .int .i64 p, .int .i64 q, .int .i64 m] w (RetPt (zapT L p q m) w) := by
  have HZ := Lib.hid (((h.alloc (.cells #[.int .i64 p] 3)).alloc (.cells #[.int .i64 q] 3)).alloc (.cells #[.int .i64 m] 3))
  have O0 := ((Own.new w 3 #[.int .i64 p]).alloc (.cells #[.int .i64 q] 3)).alloc (.cells #[.int .i64 m] 3)
  have O1 := (Own.new (w.alloc (.cells #[.int .i64 p] 3)) 3 #[.int .i64 q]).alloc (.cells #[.int .i64 m] 3)
  have O2 := Own.new ((w.alloc (.cells #[.int .i64 p] 3)).alloc (.cells #[.int .i64 q] 3)) 3 #[.int .i64 m]
  have G := (((Grew.refl w).alloc (.cells #[.int .i64 p] 3)).alloc (.cells #[.int .i64 q] 3)).alloc (.cells #[.int .i64 m] 3)
  have hz1 : (w.alloc (.cells #[.int .i64 p] 3)).heap.size = w.heap.size + 1 := by simp
  have hz2 : ((w.alloc (.cells #[.int .i64 p] 3)).alloc (.cells #[.int .i64 q] 3)).heap.size = w.heap.size + 2 := by simp
  have hz3 : (((w.alloc (.cells #[.int .i64 p] 3)).alloc (.cells #[.int .i64 q] 3)).alloc (.cells #[.int .i64 m] 3)).heap.size = w.heap.size + 3 := by simp
  rw [hz1] at O1
  rw [hz2] at O2
  have HC := Lib.hid (show ClZ 3 _ w.heap.size p q m from ⟨O0, O1, O2⟩)
  have HG := Lib.hid G
  clear h O0 O1 O2 G hz1 hz2
  go_enter Try.func19, Try.ntmps19
  go_upto_region 1 with fail
  generalize World.alloc (World.alloc (World.alloc w _) _) _ = w1 at *
  obtain ⟨b, hb⟩ : ∃ b, w.heap.size = b := ⟨_, rfl⟩
  have hbw : w.heap.size ≤ b := by omega
  rw [hb] at HC hz3 ⊢
  have HB := Lib.hid hb
  clear hb
  go_wp2_with fail
  with_reducible refine (clone_r HZ.out hl).mono ?_
  rintro e9 w2 ⟨v2, rfl, R2, g2⟩
  obtain ⟨ra, rc, rfl⟩ := R2.len
  have HR2 := Lib.hid R2
  have HZ2 := Lib.hid (HZ.out.grew g2)
  have HC2 := Lib.hid (HC.out.grew g2)
  have HG2 := Lib.hid (HG.out.trans g2)
  obtain ⟨m0, -⟩ := HC2.out.2.2.one
  clear R2 g2 HZ HC HG
  by_cases h1 : 1 ≤ m
  · have hd : decide (m < 1) = false := decide_eq_false (by omega)
    cases hk : okT L
    · have HE := Lib.hid (zapT_0 (p := p) (v := q) (c := m) hk)
      have HK := Lib.hid hk
      clear hk
      go_wp2_with fail
      with_reducible refine (check_p HZ2.out hl HK.out).mono ?_
      rintro e9 w3 ⟨rfl, g3⟩
      go_wp2
      go_ret
      exact ⟨_, rfl, by rw [HE.out]; exact (RowE.rdS encT_len (HR2.out.grew g3)).wider (by omega), HG2.out.trans g3⟩
    · have HE := Lib.hid (zapT_y (p := p) (v := q) h1 hk)
      have HK := Lib.hid hk
      clear hk
      go_wp2_with fail
      with_reducible refine (check_p HZ2.out hl HK.out).mono ?_
      rintro e9 w3 ⟨rfl, g3⟩
      have HR3 := Lib.hid (HR2.out.grew g3)
      have HC3 := Lib.hid (HC2.out.grew g3)
      have HG3 := Lib.hid (HG2.out.trans g3)
      clear g3 m0
      go_wp2_with fail
      with_reducible refine (deleteZ_p HR3.out hl HK.out HC3.out h1 hm (fun k e => by have := HR3.out.above k e; omega)).mono ?_
      rintro e9 w4 ⟨u, rfl, R4, g4⟩
      go_wp2
      go_ret
      exact ⟨_, rfl, by rw [HE.out]; exact (RowE.rdS encT_len R4).wider (by omega), Grew.keptA (B := w.heap.size) HG3.out g4 (fun x e => by have := HR3.out.above x e; omega) (Nat.le_refl _)⟩
  · have HE := Lib.hid (zapT_n (L := L) (p := p) (v := q) h1)
    have hd : decide (m < 1) = true := decide_eq_true (by omega)
    have hd2 : m < 1 := by omega
    go_wp2
    go_ret
    exact ⟨_, rfl, by rw [HE.out]; exact (RowE.rdS encT_len HR2.out).wider (by omega), HG2.out⟩
end Go.Proofs.Ytjkkhfionmdmpaa
