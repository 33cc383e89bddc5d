/- Lists of frames (layer 8): the reference's Balance: contract. -/
import Derived.Test.YteaofieijginhaaLf4
namespace Go.Proofs.Yteaofieijginhaa
open Go.RowKit Go.Mine

/-- It returns the lists y. -/
def RetLr (y : Lr) (B : Nat) (w : World) (e : Ending) (w' : World) : Prop := ∃ va vi vr, e = .returned (lruV va vi vr) ∧ LrR w' B va vi vr y ∧ Grew w w'
/-- A row that came in, or one of the call's own behind block sx + 1. -/
def RwO (w : World) (B sx : Nat) (wr : World) (v : Value) (L : List Int) : Prop := RwI w B v L ∨ RwI wr (sx + 2) v L
section
variable {w wr w' : World} {B sx : Nat} {v : Value} {L : List Int}
theorem RwO.at_ (h : RwO w B sx wr v L) (G : Grew w wr) (hB : B ≤ sx) : RwI wr B v L := h.elim (fun h => h.grew G) fun h => h.wider (by omega)
theorem RwO.grew (h : RwO w B sx wr v L) (G : Grew wr w') : RwO w B sx w' v L := h.elim .inl fun h => .inr (h.grew G)
theorem RwO.drew (h : RwO w B sx wr v L) : RwO w B sx wr.drew v L := h.elim .inl fun h => .inr h.drew
theorem RwO.far3 {b : Nat} {x y z : Value} (h : RwO w B sx wr v L) (hw : ((wr.setCell ⟨b, 0, none⟩ x).setCell ⟨b, 1, none⟩ y).setCell ⟨b, 2, none⟩ z = w') (hb : b < sx + 2) : RwO w B sx w' v L := h.elim .inl fun h => .inr (h.far3 hw hb)
theorem RwO.keptA {r : Option Nat} (h : RwO w B sx wr v L) (g : wr.grownBy w' r) (hr : ∀ k, r = some k → v.ownBlock ≠ some k) : RwO w B sx w' v L := h.elim .inl fun h => .inr (RowE.keptG h g hr)
end
theorem last_at {L : List Int} {k : Nat} (h : L.length = k + 1) : L.getD k 0 = L.getLastD 0 ∧ L.take k = L.dropLast := by
  refine ⟨?_, ?_⟩
  · rw [List.getLastD_eq_getLast?, List.getLast?_eq_getElem?, h]; simp [List.getD]
  · rw [List.dropLast_eq_take, h]; rfl
theorem balS_len {x : Lr} (h : 0 < x.a.length) : (balS x).a.length + (balS x).i.length = x.a.length + x.i.length ∧ (balS x).r.length ≤ x.r.length := by
  unfold balS
  cases decide (x.a.getLastD 0 ∈ x.r)
  · refine ⟨?_, Nat.le_refl _⟩
    show x.a.dropLast.length + (x.i.length + 1) = _
    rw [List.length_dropLast]; omega
  · refine ⟨?_, wol_len _ _⟩
    show x.a.dropLast.length + 1 + x.i.length = _
    rw [List.length_dropLast]; omega
def BalRel (w : World) (sx B N : Nat) (x : Lr) (nv : Value) (wr : World) : Prop := ∃ (n : Nat) (cur : Lr) (a3 : Option Addr) (c3 : Nat) (a4 : Option Addr) (c4 : Nat) (a5 : Option Addr) (c5 : Nat), nv = .int .i64 n ∧ n ≤ N ∧ balN n cur = balN N x ∧ cur.a.length + cur.i.length ≤ 1000 ∧ cur.r.length ≤ 1000 ∧
  RwO w B sx wr (.slice a3 cur.a.length c3) cur.a ∧ RwO w B sx wr (.slice a4 cur.i.length c4) cur.i ∧ RwO w B sx wr (.slice a5 cur.r.length c5) cur.r ∧
  Own wr sx 27 #[.slice a3 cur.a.length c3, .slice a4 cur.i.length c4, .slice a5 cur.r.length c5] ∧ Own wr (sx + 1) 27 n3 ∧ Grew w wr
/-- What stands behind one step: the box holds the lists y. -/
def BalCut (w : World) (sx B : Nat) (y : Lr) (wr : World) : Prop := ∃ (a3 : Option Addr) (c3 : Nat) (a4 : Option Addr) (c4 : Nat) (a5 : Option Addr) (c5 : Nat),
  RwO w B sx wr (.slice a3 y.a.length c3) y.a ∧ RwO w B sx wr (.slice a4 y.i.length c4) y.i ∧ RwO w B sx wr (.slice a5 y.r.length c5) y.r ∧
  Own wr sx 27 #[.slice a3 y.a.length c3, .slice a4 y.i.length c4, .slice a5 y.r.length c5] ∧ Own wr (sx + 1) 27 n3 ∧ Grew w wr
set_option maxRecDepth 100000 in
set_option maxHeartbeats 8000000 in
theorem balance_any {B : Nat} (va vi vr : Value) (x : Lr) (w : World) (R : LrR w B va vi vr x) (hs2 : x.a.length + x.i.length ≤ 1000) (hs3 : x.r.length ≤ 1000) (hB : B ≤ w.heap.size) : Calls Try.prog 22 #[lruV va vi vr] w (RetLr (balX x) B w) := by
  have hs : SmP x := ⟨by omega, by omega, hs3⟩
  obtain ⟨aa, ca, rfl⟩ := R.a.len
  obtain ⟨ai, ci, rfl⟩ := R.i.len
  obtain ⟨ar, cr, rfl⟩ := R.r.len
  obtain ⟨na, hna⟩ : ∃ na, x.a.length = na := ⟨_, rfl⟩
  obtain ⟨ni, hni⟩ : ∃ ni, x.i.length = ni := ⟨_, rfl⟩
  obtain ⟨nr, hnr⟩ : ∃ nr, x.r.length = nr := ⟨_, rfl⟩
  rw [hna, hni, hnr] at R ⊢
  have W0 : Grew w ((w.alloc (.cells #[(.slice aa na ca), (.slice ai ni ci), (.slice ar nr cr)] 27)).alloc (.cells n3 27)) := ((Grew.refl w).alloc _).alloc _
  obtain ⟨sx, hsx⟩ : ∃ sx, w.heap.size = sx := ⟨_, rfl⟩
  have X : Own ((w.alloc (.cells #[(.slice aa na ca), (.slice ai ni ci), (.slice ar nr cr)] 27)).alloc (.cells n3 27)) sx 27 #[(.slice aa na ca), (.slice ai ni ci), (.slice ar nr cr)] := hsx ▸ (Own.new w 27 #[(.slice aa na ca), (.slice ai ni ci), (.slice ar nr cr)]).alloc _
  have S : Own ((w.alloc (.cells #[(.slice aa na ca), (.slice ai ni ci), (.slice ar nr cr)] 27)).alloc (.cells n3 27)) (sx + 1) 27 n3 := hsx ▸ Own.new2 w (.cells #[(.slice aa na ca), (.slice ai ni ci), (.slice ar nr cr)] 27) 27 n3
  have HR := Lib.hid R
  have HS := Lib.hid hs
  have HB := Lib.hid hB
  have HSX := Lib.hid hsx
  clear R hs
  cases h0 : okB x
  · have HX := Lib.hid (show balX x = x from by unfold balX; rw [h0])
    clear hna hni hnr
    obtain ⟨x0, x1, x2, x3, x4, x5⟩ := X.three
    go_enter Try.func22, Try.ntmps22
    try rw [hsx]
    go_wp2_with fail
    with_reducible refine (check_v _ _ _ _ _ (HR.out.grew W0) HS.out h0).mono ?_
    rintro e_w1 w1 ⟨rfl, g1⟩
    replace X := X.grew g1
    replace S := S.grew g1
    replace W0 := W0.trans g1
    clear g1 x0 x1 x2 x3 x4 x5
    obtain ⟨x0, x1, x2, x3, x4, x5⟩ := X.three
    obtain ⟨s0, s1, s2, s3, s4, s5⟩ := S.three
    go_wp2
    generalize hw : World.setCell _ _ _ = wz
    have RR := S.store3 hw
    have gB := W0.far3 hw (by have := HSX.out; omega)
    obtain ⟨u0, u1, u2, u3, u4, u5⟩ := RR.three
    refine bodyPost_ret (v := lruV (.slice aa na ca) (.slice ai ni ci) (.slice ar nr cr)) (by simp [results, Try.results22, go_sem, u0, u1, u2]) rfl ⟨_, _, _, rfl, by rw [HX.out]; exact HR.out.grew gB, gB⟩
  · have HX := Lib.hid (show balX x = balN na x from by unfold balX; rw [h0, ← hna])
    have hna1 : na ≤ 1000 := by omega
    have HN := Lib.hid (And.intro hna (And.intro hni hnr))
    have hsum : na + ni ≤ 1000 := by omega
    have hnr1 : nr ≤ 1000 := by omega
    clear hna hni hnr hs2 hs3
    obtain ⟨x0, x1, x2, x3, x4, x5⟩ := X.three
    go_enter Try.func22, Try.ntmps22
    try rw [hsx]
    go_wp2_with fail
    with_reducible refine (check_v _ _ _ _ _ (HR.out.grew W0) HS.out h0).mono ?_
    rintro e_w1 w1 ⟨rfl, g1⟩
    replace X := X.grew g1
    replace S := S.grew g1
    replace W0 := W0.trans g1
    clear g1 x0 x1 x2 x3 x4 x5
    obtain ⟨x0, x1, x2, x3, x4, x5⟩ := X.three
    have hB2 : B ≤ sx := by have := HB.out; have := HSX.out; omega
    have HXo := Lib.hid X
    have HSo := Lib.hid S
    have HGo := Lib.hid W0
    go_wp2_with fail
    go_loopw [3] (BalRel w sx B na x) (fun nv _ => (intOf nv).toNat)
    case atStart =>
      obtain ⟨e1, e2, e3⟩ := HN.out
      exact ⟨na, x, aa, ca, ai, ci, ar, cr, rfl, Nat.le_refl _, rfl, by omega, by omega, by rw [e1]; exact .inl HR.out.a, by rw [e2]; exact .inl HR.out.i, by rw [e3]; exact .inl HR.out.r, by rw [e1, e2, e3]; exact HXo.out, HSo.out, HGo.out⟩
    case round =>
      clear X S W0 HXo HSo HGo x0 x1 x2 x3 x4 x5
      obtain ⟨n, cur, a3, c3, a4, c4, a5, c5, rfl, hn, hbal, hlen, hrl, RA, RI, RR, X, S, W0⟩ := hrel
      obtain ⟨wo, rfl⟩ : ∃ wo : World, wo = wr := ⟨_, rfl⟩
      obtain ⟨x0, x1, x2, x3, x4, x5⟩ := X.three
      by_cases hn0 : n = 0
      · subst hn0
        rw [show ((0 : Nat) : Int) = 0 from rfl]
        have HX2 := Lib.hid (show balX x = cur from by rw [HX.out, ← hbal]; rfl)
        clear hbal
        obtain ⟨s0, s1, s2, s3, s4, s5⟩ := S.three
        go_wp2
        generalize hw : World.setCell _ _ _ = wz
        have RS := S.store3 hw
        have RA2 := RA.far3 hw (by omega)
        have RI2 := RI.far3 hw (by omega)
        have RR2 := RR.far3 hw (by omega)
        have gB := W0.far3 hw (by have := HSX.out; omega)
        obtain ⟨u0, u1, u2, u3, u4, u5⟩ := RS.three
        refine bodyPost_ret (v := lruV (.slice a3 cur.a.length c3) (.slice a4 cur.i.length c4) (.slice a5 cur.r.length c5)) (by simp [results, Try.results22, go_sem, u0, u1, u2]) rfl ⟨_, _, _, rfl, by rw [HX2.out]; exact ⟨RA2.at_ gB hB2, RI2.at_ gB hB2, RR2.at_ gB hB2⟩, gB⟩
      · obtain ⟨m, rfl⟩ : ∃ m, n = m + 1 := ⟨n - 1, by omega⟩
        have m0 : (0 : Int) < (m : Int) + 1 := by omega
        by_cases hl : cur.i.length < cur.a.length
        · have hbal2 : balN m (balS cur) = balN na x := by rw [← hbal]; unfold balN; rw [if_pos hl]; cases m <;> rfl
          have hsl := balS_len (x := cur) (by omega)
          obtain ⟨k, hk⟩ : ∃ k, cur.a.length = k + 1 := ⟨cur.a.length - 1, by omega⟩
          have hcl : cur.a.length ≤ c3 ∧ True := by
            rcases (RA.at_ W0 hB2).shape enc1_len with ⟨e, hz⟩ | ⟨g', c', e, -, -, hc, -⟩
            · rw [hz] at hk; simp at hk
            · injection e with e1 e2 e3; exact ⟨by omega, trivial⟩
          obtain ⟨la1, la2⟩ := last_at hk
          have RAw := RA.at_ W0 hB2
          obtain ⟨g, rfl, hg, xk⟩ := rowI_at RAw (k := k) (by omega)
          have HCU : Hid (RwI wo B (.slice (some ⟨g, 0, none⟩) k c3) (cur.a.take k)) := Lib.hid (RowE.cut enc1_len RAw (by omega))
          rw [la1] at xk
          rw [la2] at HCU
          have hDl : cur.a.dropLast.length = k := by rw [List.length_dropLast]; omega
          obtain ⟨f, hf⟩ : ∃ f, cur.a.getLastD 0 = f := ⟨_, rfl⟩
          obtain ⟨D, hD⟩ : ∃ D, cur.a.dropLast = D := ⟨_, rfl⟩
          have hbs := Lib.hid (show balS cur = match decide (f ∈ cur.r) with | true => ⟨f :: D, cur.i, wol cur.r f⟩ | false => ⟨D, f :: cur.i, cur.r⟩ from by rw [← hf, ← hD]; rfl)
          rw [hf] at xk
          rw [hD] at HCU hDl
          rw [hk] at x0 X hlen hl hcl
          have hk2 : (k : Int) ≤ (c3 : Int) := by omega
          have hl2 : (cur.i.length : Int) < (k : Int) + 1 := by omega
          have hk0 : (0 : Int) ≤ (k : Int) := by omega
          have hk1 : (k : Int) < (k : Int) + 1 := by omega
          have hk3 : (k : Int) ≤ 1000 := by omega
          have hm3 : (m : Int) ≤ 1000 := by omega
          have hm4 : (0 : Int) ≤ (m : Int) := by omega
          have HB3 := Lib.hid hbal2
          have HSL := Lib.hid hsl
          have HRI := Lib.hid RI
          have HRR := Lib.hid RR
          have HX0 := Lib.hid X
          have HS0 := Lib.hid S
          have HW0 := Lib.hid W0
          have HRL := Lib.hid hrl
          have HIL := Lib.hid (show cur.i.length ≤ 1000 by omega)
          have HDL := Lib.hid (show ([] : List Int).length + D.length < 1000000 by simp; omega)
          have HDL2 := Lib.hid (show D.length ≤ 1000 by omega)
          have hsz : sx + 2 ≤ wo.heap.size := S.lt
          have HMN := Lib.hid (show m ≤ na by omega)
          have HLEN := Lib.hid (show (balS cur).a.length + (balS cur).i.length ≤ 1000 by rw [hsl.1, hk]; exact hlen)
          have HRL2 := Lib.hid (show (balS cur).r.length ≤ 1000 from Nat.le_trans hsl.2 hrl)
          clear hbal hbal2 hsl RA RI RR RAw X S W0 la1 la2 hf hD hrl hg hcl hlen hn hDl
          go_upto_block 1 with fail
          go_cut [4, 5] from 13 to 64 (fun _ _ wx => BalCut w sx B (balS cur) wx)
          case first =>
            go_wp2_with (at_builtin; go_loud (refine wpList_append_ints _ rfl (.const (.slice none 0 0)) (.tmp 40) 22 rfl (sx + 2) info_I und_I (by decide) _ [] rfl (RowE.nil _ _) _ D rfl HCU.out HDL.out (by decide) hsz ?_; intro v6 w6 R6 G6 o6); have g6 := below_of_grown G6; have X6 := HX0.out.grew g6; have S6 := HS0.out.grew g6; have W6 := HW0.out.trans g6; have HRI6 := Lib.hid (HRI.out.grew g6); have HRR6 := Lib.hid (HRR.out.grew g6); have R6' : RwI w6 (sx + 2) v6 D := (by simpa using R6); have HR6 := Lib.hid R6'; clear G6 g6 o6 R6 R6' x0 x1 x2 x3 x4 x5 xk; obtain ⟨x0, x1, x2, x3, x4, x5⟩ := X6.three)
            obtain ⟨a6, c6, rfl⟩ := HR6.out.len
            cases hfr : decide (f ∈ cur.r)
            · skip
              with_reducible refine (at_w _ f _ (HRR6.out.at_ W6 hB2) HRL.out hfr).mono ?_
              rintro e w7 ⟨z, rfl, -, hz, rfl⟩
              have hz1 : ¬0 ≤ z := fun h => absurd (hz.1 h) (by simp)
              clear hz
              obtain ⟨MI, hMI⟩ : ∃ MI, f :: cur.i = MI := ⟨_, rfl⟩
              have HMI := Lib.hid hMI
              have HBS : Hid (balS cur = ⟨D, MI, cur.r⟩) := Lib.hid (by rw [hbs.out, hfr, ← hMI])
              clear hMI
              go_upto_region 10 with fail
              replace X6 := X6.drew
              replace S6 := S6.drew
              replace W6 := W6.drew
              replace HRI6 := Lib.hid HRI6.out.drew
              replace HRR6 := Lib.hid HRR6.out.drew
              replace HR6 := Lib.hid HR6.out.drew
              clear x0 x1 x2 x3 x4 x5
              obtain ⟨x0, x1, x2, x3, x4, x5⟩ := X6.three
              obtain ⟨s0, s1, s2, s3, s4, s5⟩ := S6.three
              have hz0 : sx + 2 ≤ w6.drew.heap.size := S6.lt
              go_region_with
                (first
                  | (go_at_call 36; (with_reducible refine (front_v (M := MI) _ f _ (HRI6.out.at_ W6 hB2) HIL.out HMI.out).mono ?_); rintro e w8 ⟨v8, rfl, R8, g1⟩; obtain ⟨a8, c8, rfl⟩ := R8.len; have hz8 : sx + 2 ≤ w8.heap.size := (by have := S6.lt; have := g1.size; omega); have HR8 := Lib.hid (R8.wider hz0); replace X6 := X6.grew g1; replace S6 := S6.grew g1; replace W6 := W6.trans g1; replace HRI6 := Lib.hid (HRI6.out.grew g1); replace HRR6 := Lib.hid (HRR6.out.grew g1); replace HR6 := Lib.hid (HR6.out.grew g1); have hz0 : sx + 2 ≤ w8.heap.size := hz8; clear g1 R8 x0 x1 x2 x3 x4 x5 s0 s1 s2 s3 s4 s5; obtain ⟨x0, x1, x2, x3, x4, x5⟩ := X6.three; obtain ⟨s0, s1, s2, s3, s4, s5⟩ := S6.three))
              all_goals (first | go_wp2 | skip)
              all_goals go_meet
              all_goals
                generalize hw10 : World.setCell (World.setCell (World.setCell _ _ _) _ _) _ _ = wt
                rw [HBS.out]
                exact ⟨_, _, _, _, _, _, .inr (HR6.out.far3 hw10 (by omega)), .inr (HR8.out.far3 hw10 (by omega)), HRR6.out.far3 hw10 (by omega), X6.store3 hw10, S6.far3 hw10 (show sx + 1 ≠ sx by omega), W6.far3 hw10 (by have := HSX.out; omega)⟩
            · skip
              with_reducible refine (at_w _ f _ (HRR6.out.at_ W6 hB2) HRL.out hfr).mono ?_
              rintro e w7 ⟨z, rfl, -, hz, rfl⟩
              have hz1 : 0 ≤ z := hz.2 rfl
              clear hz
              obtain ⟨MA, hMA⟩ : ∃ MA, f :: D = MA := ⟨_, rfl⟩
              obtain ⟨MR, hMR⟩ : ∃ MR, wol cur.r f = MR := ⟨_, rfl⟩
              have HMA := Lib.hid hMA
              have HMR := Lib.hid hMR
              have HBS : Hid (balS cur = ⟨MA, cur.i, MR⟩) := Lib.hid (by rw [hbs.out, hfr, ← hMA, ← hMR])
              clear hMA hMR
              go_upto_region 9 with fail
              replace X6 := X6.drew
              replace S6 := S6.drew
              replace W6 := W6.drew
              replace HRI6 := Lib.hid HRI6.out.drew
              replace HRR6 := Lib.hid HRR6.out.drew
              replace HR6 := Lib.hid HR6.out.drew
              clear x0 x1 x2 x3 x4 x5
              obtain ⟨x0, x1, x2, x3, x4, x5⟩ := X6.three
              obtain ⟨s0, s1, s2, s3, s4, s5⟩ := S6.three
              have hz0 : sx + 2 ≤ w6.drew.heap.size := S6.lt
              go_region_with
                (first
                  | (go_at_call 36; (with_reducible refine (front_v (M := MA) _ f _ HR6.out HDL2.out HMA.out).mono ?_); rintro e w8 ⟨v8, rfl, R8, g1⟩; obtain ⟨a8, c8, rfl⟩ := R8.len; have hz8 : sx + 2 ≤ w8.heap.size := (by have := S6.lt; have := g1.size; omega); have HR8 := Lib.hid (R8.wider hz0); replace X6 := X6.grew g1; replace S6 := S6.grew g1; replace W6 := W6.trans g1; replace HRI6 := Lib.hid (HRI6.out.grew g1); replace HRR6 := Lib.hid (HRR6.out.grew g1); replace HR6 := Lib.hid (HR6.out.grew g1); have hz0 : sx + 2 ≤ w8.heap.size := hz8; clear g1 R8 x0 x1 x2 x3 x4 x5 s0 s1 s2 s3 s4 s5; obtain ⟨x0, x1, x2, x3, x4, x5⟩ := X6.three; obtain ⟨s0, s1, s2, s3, s4, s5⟩ := S6.three)
                  | (go_at_call 39; (with_reducible refine (without_q (M := MR) _ f _ (HRR6.out.at_ W6 hB2) HRL.out HMR.out).mono ?_); rintro e w9 ⟨v9, rfl, R9, g1⟩; obtain ⟨a9, c9, rfl⟩ := R9.len; have hz9 : sx + 2 ≤ w9.heap.size := (by have := S6.lt; have := g1.size; omega); have HR9 := Lib.hid (R9.wider hz0); replace HR8 := Lib.hid (HR8.out.grew g1); replace X6 := X6.grew g1; replace S6 := S6.grew g1; replace W6 := W6.trans g1; replace HRI6 := Lib.hid (HRI6.out.grew g1); replace HRR6 := Lib.hid (HRR6.out.grew g1); replace HR6 := Lib.hid (HR6.out.grew g1); have hz0 : sx + 2 ≤ w9.heap.size := hz9; clear g1 R9 x0 x1 x2 x3 x4 x5 s0 s1 s2 s3 s4 s5; obtain ⟨x0, x1, x2, x3, x4, x5⟩ := X6.three; obtain ⟨s0, s1, s2, s3, s4, s5⟩ := S6.three))
              all_goals (first | go_wp2 | skip)
              all_goals go_meet
              all_goals
                generalize hw10 : World.setCell (World.setCell (World.setCell _ _ _) _ _) _ _ = wt
                rw [HBS.out]
                exact ⟨_, _, _, _, _, _, .inr (HR8.out.far3 hw10 (by omega)), HRI6.out.far3 hw10 (by omega), .inr (HR9.out.far3 hw10 (by omega)), X6.store3 hw10, S6.far3 hw10 (show sx + 1 ≠ sx by omega), W6.far3 hw10 (by have := HSX.out; omega)⟩
          case rest =>
            clear HX0 HS0 HW0 HRI HRR HCU x0 x1 x2 x3 x4 x5 xk
            obtain ⟨b3, d3, b4, d4, b5, d5, RA, RI, RR, X, S, W0⟩ := hcut
            have HF := Lib.hid (show BalRel w sx B na x (.int .i64 m) wc from ⟨m, balS cur, b3, d3, b4, d4, b5, d5, rfl, HMN.out, HB3.out, HLEN.out, HRL2.out, RA, RI, RR, X, S, W0⟩)
            clear RA RI RR X S W0
            go_wp2
            exact ⟨HF.out, by simp [intOf]; try omega⟩
        · have HX2 := Lib.hid (show balX x = cur from by rw [HX.out, ← hbal]; unfold balN; rw [if_neg hl])
          have hl2 : ¬(cur.i.length : Int) < (cur.a.length : Int) := by omega
          clear hbal
          obtain ⟨s0, s1, s2, s3, s4, s5⟩ := S.three
          go_wp2
          generalize hw : World.setCell _ _ _ = wz
          have RS := S.store3 hw
          have RA2 := RA.far3 hw (by omega)
          have RI2 := RI.far3 hw (by omega)
          have RR2 := RR.far3 hw (by omega)
          have gB := W0.far3 hw (by have := HSX.out; omega)
          obtain ⟨u0, u1, u2, u3, u4, u5⟩ := RS.three
          refine bodyPost_ret (v := lruV (.slice a3 cur.a.length c3) (.slice a4 cur.i.length c4) (.slice a5 cur.r.length c5)) (by simp [results, Try.results22, go_sem, u0, u1, u2]) rfl ⟨_, _, _, rfl, by rw [HX2.out]; exact ⟨RA2.at_ gB hB2, RI2.at_ gB hB2, RR2.at_ gB hB2⟩, gB⟩
end Go.Proofs.Yteaofieijginhaa
