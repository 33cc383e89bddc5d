/- Lists of frames (layer 8): the reference's Scan: contract. -/
import Derived.Test.YteaofieijginhaaLf5
namespace Go.Proofs.Yteaofieijginhaa
open Go.RowKit Go.Mine

/-- It returns the lists y and the frames V. -/
def RetSc (y : Lr) (V : List Int) (B : Nat) (w : World) (e : Ending) (w' : World) : Prop := ∃ va vi vr vv, e = .returned (.tuple #[lruV va vi vr, vv]) ∧ LrR w' B va vi vr y ∧ RwI w' B vv V ∧ Grew w w'
def hlB (H : List Int) : Int → Bool := fun f => decide (f ∈ H)
theorem scnS_len {H : List Int} {f : Int} {s : Lr × List Int} : (scnS (hlB H) f s).1.a.length = s.1.a.length ∧ (scnS (hlB H) f s).1.i.length ≤ s.1.i.length + 1 ∧ (scnS (hlB H) f s).1.r.length ≤ s.1.r.length ∧ (scnS (hlB H) f s).2.length ≤ s.2.length + 1 := by
  unfold scnS
  cases hlB H f
  · cases decide (f ∈ s.1.r)
    · exact ⟨rfl, by show s.1.i.length ≤ s.1.i.length + 1; omega, Nat.le_refl _, by show (s.2 ++ [f]).length ≤ s.2.length + 1; simp⟩
    · have a2 := wol_len s.1.i f
      exact ⟨rfl, by show (wol s.1.i f).length + 1 ≤ s.1.i.length + 1; omega, wol_len _ _, by show s.2.length ≤ s.2.length + 1; omega⟩
  · exact ⟨rfl, by show s.1.i.length ≤ s.1.i.length + 1; omega, Nat.le_refl _, by show s.2.length ≤ s.2.length + 1; omega⟩
/-- Two slices do not share a block. -/
def Sep (r u : Value) : Prop := ∀ b, r.ownBlock = some b → u.ownBlock ≠ some b
theorem sep_nil (u : Value) : Sep (.slice none 0 0) u := fun b h => by simp [Value.ownBlock] at h
theorem sep_new {w wr : World} {B C : Nat} {r v : Value} {L M : List Int} (h : RwI wr B r L) (k : RwI w C v M) (hC : wr.heap.size ≤ C) : Sep r v := fun b e1 e2 => by have := h.lt b e1; have := k.above b e2; omega
theorem sep_app {wr : World} {C : Nat} {r u : Value} {M : List Int} {g n c : Nat} (h : Sep r u) (k : RwI wr C u M) (o : r.ownBlock = some g ∨ wr.heap.size ≤ g) : Sep (.slice (some ⟨g, 0, none⟩) n c) u := fun b e1 e2 => by
  have e : g = b := by simpa [Value.ownBlock] using e1
  subst e
  rcases o with o | o
  · exact h g o e2
  · have := k.lt g e2; omega
/-- The box holds the lists cur; the victims so far are V. -/
def ScnSt (w : World) (sx B : Nat) (vf : Value) (cur : Lr) (V : List Int) (vv : Value) (wr : World) : Prop := ∃ (a3 : Option Addr) (c3 : Nat) (a4 : Option Addr) (c4 : Nat) (a5 : Option Addr) (c5 : Nat) (r : Value), r = vv ∧ RwI wr (sx + 2) r V ∧ (Sep r (.slice a3 cur.a.length c3) ∧ Sep r (.slice a4 cur.i.length c4) ∧ Sep r (.slice a5 cur.r.length c5) ∧ Sep r vf) ∧
  RwO w B sx wr (.slice a3 cur.a.length c3) cur.a ∧ RwO w B sx wr (.slice a4 cur.i.length c4) cur.i ∧ RwO w B sx wr (.slice a5 cur.r.length c5) cur.r ∧
  Own wr sx 27 #[.slice a3 cur.a.length c3, .slice a4 cur.i.length c4, .slice a5 cur.r.length c5] ∧ Own wr (sx + 1) 27 n3 ∧ Grew w wr
def ScnRel (w : World) (sx B : Nat) (hb : Int → Bool) (L : List Int) (n : Int) (E : Lr × List Int) (af : Option Addr) (cf : Nat) (vv iv : Value) (wr : World) : Prop := ∃ (k : Nat) (cur : Lr) (V : List Int), iv = .int .i64 ((k : Int) - 1) ∧ k ≤ L.length ∧ scnN hb L n k (cur, V) = E ∧
  cur.a.length ≤ 1000 ∧ cur.i.length + k ≤ 2 * L.length ∧ cur.r.length ≤ 1000 ∧ V.length + k ≤ L.length ∧ RwI wr (sx + 2) (.slice af L.length cf) L ∧ ScnSt w sx B (.slice af L.length cf) cur V vv wr
set_option maxRecDepth 100000 in
set_option maxHeartbeats 16000000 in
theorem scan_any {B C : Nat} {H : List Int} (va vi vr vh : Value) (x : Lr) (n : Int) (w : World) (R : LrR w B va vi vr x) (Q : RwI w C vh H) (hs1 : x.a.length ≤ 1000) (hs2 : x.i.length ≤ 500) (hs3 : x.r.length ≤ 1000) (hH : H.length ≤ 1000) (hB : B ≤ w.heap.size) : Calls Try.prog 27 #[lruV va vi vr, .int .i64 n, vh] w (RetSc (scnF x n (hlB H)).1 (scnF x n (hlB H)).2 B w) := by
  have hs : SmP x := ⟨hs1, by omega, hs3⟩
  obtain ⟨aa, ca, rfl⟩ := R.a.len
  obtain ⟨ai, ci, rfl⟩ := R.i.len
  obtain ⟨ar, cr, rfl⟩ := R.r.len
  obtain ⟨na, hna⟩ : ∃ na, x.a.length = na := ⟨_, rfl⟩
  obtain ⟨ni, hni⟩ : ∃ ni, x.i.length = ni := ⟨_, rfl⟩
  obtain ⟨nr, hnr⟩ : ∃ nr, x.r.length = nr := ⟨_, rfl⟩
  rw [hna, hni, hnr] at R ⊢
  have W0 : Grew w ((w.alloc (.cells #[(.slice aa na ca), (.slice ai ni ci), (.slice ar nr cr)] 27)).alloc (.cells n3 27)) := ((Grew.refl w).alloc _).alloc _
  obtain ⟨sx, hsx⟩ : ∃ sx, w.heap.size = sx := ⟨_, rfl⟩
  have X : Own ((w.alloc (.cells #[(.slice aa na ca), (.slice ai ni ci), (.slice ar nr cr)] 27)).alloc (.cells n3 27)) sx 27 #[(.slice aa na ca), (.slice ai ni ci), (.slice ar nr cr)] := hsx ▸ (Own.new w 27 #[(.slice aa na ca), (.slice ai ni ci), (.slice ar nr cr)]).alloc _
  have S : Own ((w.alloc (.cells #[(.slice aa na ca), (.slice ai ni ci), (.slice ar nr cr)] 27)).alloc (.cells n3 27)) (sx + 1) 27 n3 := hsx ▸ Own.new2 w (.cells #[(.slice aa na ca), (.slice ai ni ci), (.slice ar nr cr)] 27) 27 n3
  have HR := Lib.hid R
  have HS := Lib.hid hs
  have HB := Lib.hid hB
  have HSX := Lib.hid hsx
  clear R hs
  have HQ := Lib.hid Q
  clear Q
  cases h0 : okB x
  · have HX := Lib.hid (show scnF x n (hlB H) = (x, []) from by unfold scnF; rw [h0]; rfl)
    clear hna hni hnr
    obtain ⟨x0, x1, x2, x3, x4, x5⟩ := X.three
    go_enter Try.func27, Try.ntmps27
    try rw [hsx]
    go_wp2_with fail
    with_reducible refine (check_v _ _ _ _ _ (HR.out.grew W0) HS.out h0).mono ?_
    rintro e_w1 w1 ⟨rfl, g1⟩
    replace X := X.grew g1
    replace S := S.grew g1
    replace W0 := W0.trans g1
    clear g1 x0 x1 x2 x3 x4 x5
    obtain ⟨x0, x1, x2, x3, x4, x5⟩ := X.three
    obtain ⟨s0, s1, s2, s3, s4, s5⟩ := S.three
    go_wp2
    generalize hw : World.setCell _ _ _ = wz
    have RS := S.store3 hw
    have gB := W0.far3 hw (by have := HSX.out; omega)
    obtain ⟨u0, u1, u2, u3, u4, u5⟩ := RS.three
    refine bodyPost_ret (v := .tuple #[lruV (.slice aa na ca) (.slice ai ni ci) (.slice ar nr cr), .slice none 0 0]) (by simp [results, Try.results27, go_sem, u0, u1, u2]) rfl ⟨_, _, _, _, rfl, by rw [HX.out]; exact HR.out.grew gB, by rw [HX.out]; exact RowE.nil _ _, gB⟩
  · by_cases hn : n < 1
    · have HX := Lib.hid (show scnF x n (hlB H) = (x, []) from by unfold scnF; rw [h0, decide_eq_false (by omega : ¬1 ≤ n)]; rfl)
      clear hna hni hnr
      obtain ⟨x0, x1, x2, x3, x4, x5⟩ := X.three
      go_enter Try.func27, Try.ntmps27
      try rw [hsx]
      go_wp2_with fail
      with_reducible refine (check_v _ _ _ _ _ (HR.out.grew W0) HS.out h0).mono ?_
      rintro e_w1 w1 ⟨rfl, g1⟩
      replace X := X.grew g1
      replace S := S.grew g1
      replace W0 := W0.trans g1
      clear g1 x0 x1 x2 x3 x4 x5
      obtain ⟨x0, x1, x2, x3, x4, x5⟩ := X.three
      obtain ⟨s0, s1, s2, s3, s4, s5⟩ := S.three
      go_wp2
      generalize hw : World.setCell _ _ _ = wz
      have RS := S.store3 hw
      have gB := W0.far3 hw (by have := HSX.out; omega)
      obtain ⟨u0, u1, u2, u3, u4, u5⟩ := RS.three
      refine bodyPost_ret (v := .tuple #[lruV (.slice aa na ca) (.slice ai ni ci) (.slice ar nr cr), .slice none 0 0]) (by simp [results, Try.results27, go_sem, u0, u1, u2]) rfl ⟨_, _, _, _, rfl, by rw [HX.out]; exact HR.out.grew gB, by rw [HX.out]; exact RowE.nil _ _, gB⟩
    · have HX := Lib.hid (show scnF x n (hlB H) = scnN (hlB H) x.i n x.i.length (x, []) from by unfold scnF; rw [h0, decide_eq_true (by omega : 1 ≤ n)]; rfl)
      have HN := Lib.hid (And.intro hna (And.intro hni hnr))
      have hna1 : na ≤ 1000 := by omega
      have hni1 : ni ≤ 500 := by omega
      have hnr1 : nr ≤ 1000 := by omega
      have HIL := Lib.hid hni
      have HHL := Lib.hid hH
      clear hna hni hnr hs1 hs2 hs3 hH
      obtain ⟨x0, x1, x2, x3, x4, x5⟩ := X.three
      go_enter Try.func27, Try.ntmps27
      try rw [hsx]
      go_wp2_with fail
      with_reducible refine (check_v _ _ _ _ _ (HR.out.grew W0) HS.out h0).mono ?_
      rintro e_w1 w1 ⟨rfl, g1⟩
      replace X := X.grew g1
      replace S := S.grew g1
      replace W0 := W0.trans g1
      clear g1 x0 x1 x2 x3 x4 x5
      obtain ⟨x0, x1, x2, x3, x4, x5⟩ := X.three
      have hB2 : B ≤ sx := by have := HB.out; have := HSX.out; omega
      have hsz : sx + 2 ≤ w1.heap.size := S.lt
      have hil : (x.i.length : Int) ≤ 500 := by have := HIL.out; omega
      have hil0 : (0 : Int) ≤ (x.i.length : Int) := by omega
      have HXo := Lib.hid X
      have HSo := Lib.hid S
      have HGo := Lib.hid W0
      have HRi := Lib.hid (HR.out.grew W0)
      clear X S W0
      go_wp2_with (at_builtin; go_loud (refine wpList_append_ints _ rfl (.const (.slice none 0 0)) (.tmp 21) 22 rfl (sx + 2) info_I und_I (by decide) _ [] rfl (RowE.nil _ _) _ x.i rfl HRi.out.i (by have := HIL.out; simp; omega) (by decide) hsz ?_; intro v6 w6 R6 G6 o6); have g6 := below_of_grown G6; have X6 := Lib.hid (HXo.out.grew g6); have S6 := Lib.hid (HSo.out.grew g6); have W6 := Lib.hid (HGo.out.trans g6); have R6' : RwI w6 (sx + 2) v6 x.i := (by simpa using R6); obtain ⟨af, cf, rfl⟩ := R6'.len; have HR6 := Lib.hid R6'; clear G6 g6 o6 R6 R6' x0 x1 x2 x3 x4 x5)
      go_loopw [9, 10] (ScnRel w sx B (hlB H) x.i n (scnF x n (hlB H)) af cf) (fun _ iv _ => (intOf iv + 1).toNat)
      case atStart =>
        obtain ⟨e1, e2, e3⟩ := HN.out
        exact ⟨x.i.length, x, [], rfl, Nat.le_refl _, HX.out.symm, by omega, by omega, by omega, by simp, HR6.out, aa, ca, ai, ci, ar, cr, _, rfl, RowE.nil _ _, ⟨sep_nil _, sep_nil _, sep_nil _, sep_nil _⟩, by rw [e1]; exact .inl HR.out.a, by rw [e2]; exact .inl HR.out.i, by rw [e3]; exact .inl HR.out.r, by rw [e1, e2, e3]; exact X6.out, S6.out, W6.out⟩
      case round =>
        clear X6 S6 W6 HR6 HXo HSo HGo HRi
        obtain ⟨k, cur, V, rfl, hk, hE, hla, hlk, hlr, hV, RF, a3, c3, a4, c4, a5, c5, rv, rfl, RV, HSP, RA, RI, RR, X, S, W0⟩ := hrel
        obtain ⟨wo, rfl⟩ : ∃ wo : World, wo = wr := ⟨_, rfl⟩
        obtain ⟨av, cv, rfl⟩ := RV.len
        by_cases hk0 : k = 0
        · subst hk0
          rw [show (((0 : Nat) : Int) - 1) = -1 from rfl]
          have HX2 := Lib.hid (show scnF x n (hlB H) = (cur, V) from by rw [← hE]; rfl)
          clear hE
          obtain ⟨x0, x1, x2, x3, x4, x5⟩ := X.three
          obtain ⟨s0, s1, s2, s3, s4, s5⟩ := S.three
          go_wp2
          generalize hw : World.setCell _ _ _ = wz
          have RS := S.store3 hw
          have RA2 := RA.far3 hw (by omega)
          have RI2 := RI.far3 hw (by omega)
          have RR2 := RR.far3 hw (by omega)
          have gB := W0.far3 hw (by have := HSX.out; omega)
          obtain ⟨u0, u1, u2, u3, u4, u5⟩ := RS.three
          refine bodyPost_ret (v := .tuple #[lruV (.slice a3 cur.a.length c3) (.slice a4 cur.i.length c4) (.slice a5 cur.r.length c5), .slice av V.length cv]) (by simp [results, Try.results27, go_sem, u0, u1, u2]) rfl ⟨_, _, _, _, rfl, by rw [HX2.out]; exact ⟨RA2.at_ gB hB2, RI2.at_ gB hB2, RR2.at_ gB hB2⟩, by rw [HX2.out]; exact (RV.far3 hw (by omega)).wider (by omega), gB⟩
        · obtain ⟨j, rfl⟩ : ∃ j, k = j + 1 := ⟨k - 1, by omega⟩
          rw [show (((j + 1 : Nat) : Int) - 1) = (j : Int) from by omega]
          have j0 : (0 : Int) ≤ (j : Int) := by omega
          have j1 : (j : Int) < (x.i.length : Int) := by omega
          obtain ⟨x0, x1, x2, x3, x4, x5⟩ := X.three
          by_cases hvn : (V.length : Int) < n
          · obtain ⟨g, rfl, hg, xj⟩ := rowI_at RF (k := j) (by omega)
            obtain ⟨f, hf⟩ : ∃ f, x.i.getD j 0 = f := ⟨_, rfl⟩
            rw [hf] at xj
            have hE2 : scnN (hlB H) x.i n j (scnS (hlB H) f (cur, V)) = scnF x n (hlB H) := by rw [← hE, ← hf]; conv => { rhs; unfold scnN; rw [if_pos hvn] }
            have hsl := scnS_len (H := H) (f := f) (s := (cur, V))
            have hyy : scnS (hlB H) f (cur, V) = match decide (f ∈ H) with | true => (cur, V) | false => match decide (f ∈ cur.r) with | true => (⟨cur.a, f :: wol cur.i f, wol cur.r f⟩, V) | false => (cur, V ++ [f]) := rfl
            obtain ⟨y, hy⟩ : ∃ y, scnS (hlB H) f (cur, V) = y := ⟨_, rfl⟩
            rw [hy] at hE2 hsl hyy
            simp only at hsl
            have HE2 := Lib.hid hE2
            have HYY := Lib.hid hyy
            have HSL := Lib.hid hsl
            have HL1 := Lib.hid (show y.1.a.length ≤ 1000 by rw [hsl.1]; exact hla)
            have HL2 := Lib.hid (show y.1.i.length + j ≤ 2 * x.i.length by have := hsl.2.1; omega)
            have HL3 := Lib.hid (show y.1.r.length ≤ 1000 from Nat.le_trans hsl.2.2.1 hlr)
            have HL4 := Lib.hid (show y.2.length + j ≤ x.i.length by have := hsl.2.2.2; omega)
            have HJ := Lib.hid (show j ≤ x.i.length by omega)
            have HIL2 := Lib.hid (show cur.i.length ≤ 1000 by have := HIL.out; omega)
            have HRL := Lib.hid hlr
            have HVL := Lib.hid (show V.length < 1000000 by have := HIL.out; omega)
            have HRF := Lib.hid RF
            have HRV := Lib.hid RV
            have HRA := Lib.hid RA
            have HRI := Lib.hid RI
            have HRR := Lib.hid RR
            have HXX := Lib.hid X
            have HSQ := Lib.hid HSP
            clear HSP
            have hsz : sx + 2 ≤ wo.heap.size := S.lt
            clear hE hE2 hyy hsl hy hf hla hlk hlr hV RF RV RA RI RR hg hk hk0
            go_upto_block 1 with fail
            go_cut [9, 11] from 26 to 67 (fun v9 _ wx => ScnSt w sx B (.slice (some ⟨g, 0, none⟩) x.i.length cf) y.1 y.2 v9 wx ∧ RwI wx (sx + 2) (.slice (some ⟨g, 0, none⟩) x.i.length cf) x.i)
            case first =>
              cases hh : decide (f ∈ H)
              · go_wp2_with fail
                with_reducible refine (at_w _ f _ (HQ.out.grew W0) HHL.out hh).mono ?_
                rintro e w7 ⟨z, rfl, -, hz, rfl⟩
                have hz1 : ¬0 ≤ z := fun h => absurd (hz.1 h) (by simp)
                clear hz
                go_wp2_with fail
                cases hr : decide (f ∈ cur.r)
                · with_reducible refine (at_w _ f _ (HRR.out.at_ W0 hB2) HRL.out hr).mono ?_
                  rintro e w8 ⟨z2, rfl, -, hz, rfl⟩
                  have hz2 : ¬0 ≤ z2 := fun h => absurd (hz.1 h) (by simp)
                  clear hz
                  have HA := Lib.hid (fun (k : Nat) (e : (Value.slice av V.length cv).ownBlock = some k) => HRV.out.above k e)
                  have HY : Hid (y = (cur, V ++ [f])) := Lib.hid (by rw [HYY.out, hh, hr])
                  have HS9 := Lib.hid S
                  have HW9 := Lib.hid W0
                  clear S W0 X
                  go_wp2_with (at_builtin; go_loud (refine wpList_append_row _ rfl (.tmp 40) (.tmp 42) 22 rfl (sx + 2) info_I und_I (by decide) (by decide) enc1_len (.slice av V.length cv) V rfl (HRV.out.alloc _) _ _ f rfl (Own.new _ _ _) enc1_one HVL.out (by decide) (by simp; omega) ?_; intro g3 cap w3 R3 G3 o3))
                  go_meet
                  have kA : Grew wo (wo.alloc (.cells #[.int .i64 f] 3)) := (Grew.refl wo).alloc _
                  obtain ⟨q1, q2, q3, q4⟩ := HSQ.out
                  have o4 : (Value.slice av V.length cv).ownBlock = some g3 ∨ wo.heap.size ≤ g3 := o3.imp id fun e => by rw [e, World.size_alloc]; omega
                  have hA3 : ∀ y, (Value.slice av V.length cv).ownBlock = some y → sx + 2 ≤ y := fun y e => HA.out y e
                  rw [HY.out]
                  refine ⟨⟨a3, c3, a4, c4, a5, c5, _, rfl, by simpa using R3, ⟨sep_app q1 (HRA.out.at_ HW9.out hB2) o4, sep_app q2 (HRI.out.at_ HW9.out hB2) o4, sep_app q3 (HRR.out.at_ HW9.out hB2) o4, sep_app q4 HRF.out o4⟩, (HRA.out.grew kA).keptA G3 q1, (HRI.out.grew kA).keptA G3 q2, (HRR.out.grew kA).keptA G3 q3, Own.keptA (B := sx + 2) (HXX.out.grew kA) G3 hA3 (by omega), Own.keptA (B := sx + 2) (HS9.out.grew kA) G3 hA3 (by omega), Grew.keptA (B := sx + 2) (HW9.out.trans kA) G3 hA3 (by have := HSX.out; omega)⟩, RowE.keptG (HRF.out.grew kA) G3 q4⟩
                · with_reducible refine (at_w _ f _ (HRR.out.at_ W0 hB2) HRL.out hr).mono ?_
                  rintro e w8 ⟨z2, rfl, -, hz, rfl⟩
                  have hz2 : 0 ≤ z2 := hz.2 rfl
                  clear hz
                  obtain ⟨M1, hM1⟩ : ∃ M1, wol cur.i f = M1 := ⟨_, rfl⟩
                  obtain ⟨MI, hMI⟩ : ∃ MI, f :: M1 = MI := ⟨_, rfl⟩
                  obtain ⟨MR, hMR⟩ : ∃ MR, wol cur.r f = MR := ⟨_, rfl⟩
                  have HM1 := Lib.hid hM1
                  have HMI := Lib.hid hMI
                  have HMR := Lib.hid hMR
                  have HY : Hid (y = (⟨cur.a, MI, MR⟩, V)) := Lib.hid (by rw [HYY.out, hh, hr, ← hMI, ← hM1, ← hMR])
                  have HM1L := Lib.hid (show M1.length ≤ 1000 by rw [← hM1]; exact Nat.le_trans (wol_len _ _) HIL2.out)
                  have HV0 := Lib.hid HRV.out
                  clear hM1 hMI hMR
                  go_upto_region 12 with fail
                  replace X := X.drew
                  replace S := S.drew
                  replace W0 := W0.drew
                  replace HRA := Lib.hid HRA.out.drew
                  replace HRI := Lib.hid HRI.out.drew
                  replace HRR := Lib.hid HRR.out.drew
                  replace HRV := Lib.hid (RowE.drew HRV.out)
                  replace HRF := Lib.hid (RowE.drew HRF.out)
                  clear x0 x1 x2 x3 x4 x5
                  obtain ⟨x0, x1, x2, x3, x4, x5⟩ := X.three
                  have hz0 : wo.heap.size ≤ wo.drew.heap.size := Nat.le_refl _
                  go_region_with
                    (first
                      | (go_at_call 39; (with_reducible refine (without_q (M := M1) _ f _ (HRI.out.at_ W0 hB2) HIL2.out HM1.out).mono ?_); rintro e w8 ⟨v8, rfl, R8, g1⟩; obtain ⟨a8, c8, rfl⟩ := R8.len; have hq8 : wo.heap.size ≤ w8.heap.size := (by have := g1.size; omega); have SP8 := Lib.hid (sep_new HV0.out R8 hz0); have HR8 := Lib.hid (R8.wider (show sx + 2 ≤ _ by omega)); replace HRA := Lib.hid (HRA.out.grew g1); replace HRI := Lib.hid (HRI.out.grew g1); replace HRR := Lib.hid (HRR.out.grew g1); replace HRV := Lib.hid (HRV.out.grew g1); replace HRF := Lib.hid (HRF.out.grew g1); replace X := X.grew g1; replace S := S.grew g1; replace W0 := W0.trans g1; have hz0 : wo.heap.size ≤ w8.heap.size := hq8; clear g1 R8 x0 x1 x2 x3 x4 x5; obtain ⟨x0, x1, x2, x3, x4, x5⟩ := X.three)
                      | (go_at_call 36; (with_reducible refine (front_v (M := MI) _ f _ HR8.out HM1L.out HMI.out).mono ?_); rintro e w9 ⟨v9, rfl, R9, g1⟩; obtain ⟨a9, c9, rfl⟩ := R9.len; have hq9 : wo.heap.size ≤ w9.heap.size := (by have := g1.size; omega); have SP9 := Lib.hid (sep_new HV0.out R9 hz0); have HR9 := Lib.hid (R9.wider (show sx + 2 ≤ _ by omega)); replace HR8 := Lib.hid (HR8.out.grew g1); replace HRA := Lib.hid (HRA.out.grew g1); replace HRI := Lib.hid (HRI.out.grew g1); replace HRR := Lib.hid (HRR.out.grew g1); replace HRV := Lib.hid (HRV.out.grew g1); replace HRF := Lib.hid (HRF.out.grew g1); replace X := X.grew g1; replace S := S.grew g1; replace W0 := W0.trans g1; have hz0 : wo.heap.size ≤ w9.heap.size := hq9; clear g1 R9 x0 x1 x2 x3 x4 x5; obtain ⟨x0, x1, x2, x3, x4, x5⟩ := X.three)
                      | (go_at_call 39; (with_reducible refine (without_q (M := MR) _ f _ (HRR.out.at_ W0 hB2) HRL.out HMR.out).mono ?_); rintro e w10 ⟨v10, rfl, R10, g1⟩; obtain ⟨a10, c10, rfl⟩ := R10.len; have hq10 : wo.heap.size ≤ w10.heap.size := (by have := g1.size; omega); have SP10 := Lib.hid (sep_new HV0.out R10 hz0); have HR10 := Lib.hid (R10.wider (show sx + 2 ≤ _ by omega)); replace HR8 := Lib.hid (HR8.out.grew g1); replace HR9 := Lib.hid (HR9.out.grew g1); replace HRA := Lib.hid (HRA.out.grew g1); replace HRI := Lib.hid (HRI.out.grew g1); replace HRR := Lib.hid (HRR.out.grew g1); replace HRV := Lib.hid (HRV.out.grew g1); replace HRF := Lib.hid (HRF.out.grew g1); replace X := X.grew g1; replace S := S.grew g1; replace W0 := W0.trans g1; have hz0 : wo.heap.size ≤ w10.heap.size := hq10; clear g1 R10 x0 x1 x2 x3 x4 x5; obtain ⟨x0, x1, x2, x3, x4, x5⟩ := X.three))
                  all_goals (first | go_wp2 | skip)
                  all_goals go_meet
                  all_goals
                    generalize hw10 : World.setCell (World.setCell (World.setCell _ _ _) _ _) _ _ = wt
                    obtain ⟨q1, q2, q3, q4⟩ := HSQ.out
                    rw [HY.out]
                    exact ⟨⟨a3, c3, _, _, _, _, _, rfl, HRV.out.far3 hw10 (by omega), ⟨q1, SP9.out, SP10.out, q4⟩, HRA.out.far3 hw10 (by omega), .inr (HR9.out.far3 hw10 (by omega)), .inr (HR10.out.far3 hw10 (by omega)), X.store3 hw10, S.far3 hw10 (show sx + 1 ≠ sx by omega), W0.far3 hw10 (by have := HSX.out; omega)⟩, HRF.out.far3 hw10 (by omega)⟩
              · go_wp2_with fail
                with_reducible refine (at_w _ f _ (HQ.out.grew W0) HHL.out hh).mono ?_
                rintro e w7 ⟨z, rfl, -, hz, rfl⟩
                have hz1 : 0 ≤ z := hz.2 rfl
                clear hz
                have HY : Hid (y = (cur, V)) := Lib.hid (by rw [HYY.out, hh])
                go_wp2
                go_meet
                rw [HY.out]
                exact ⟨⟨_, _, _, _, _, _, _, rfl, HRV.out, HSQ.out, HRA.out, HRI.out, HRR.out, HXX.out, S, W0⟩, HRF.out⟩
            case rest =>
              clear S W0 X HRF HRV HRA HRI HRR HXX x0 x1 x2 x3 x4 x5 xj
              obtain ⟨⟨b3, d3, b4, d4, b5, d5, rv, rfl, RV, SP, RA, RI, RR, X, S, W0⟩, HC2⟩ := hcut
              have hj3 : (j : Int) ≤ 1000 := by have := HIL.out; omega
              have HF := Lib.hid (show ScnRel w sx B (hlB H) x.i n (scnF x n (hlB H)) (some ⟨g, 0, none⟩) cf rv (.int .i64 ((j : Int) - 1)) wc from ⟨j, y.1, y.2, rfl, HJ.out, HE2.out, HL1.out, HL2.out, HL3.out, HL4.out, HC2, b3, d3, b4, d4, b5, d5, rv, rfl, RV, SP, RA, RI, RR, X, S, W0⟩)
              clear HC2 RV SP RA RI RR X S W0
              go_wp2
              exact ⟨HF.out, by simp [intOf]; try omega⟩
          · have HX2 := Lib.hid (show scnF x n (hlB H) = (cur, V) from by rw [← hE]; unfold scnN; rw [if_neg hvn])
            clear hE
            obtain ⟨s0, s1, s2, s3, s4, s5⟩ := S.three
            go_wp2
            generalize hw : World.setCell _ _ _ = wz
            have RS := S.store3 hw
            have RA2 := RA.far3 hw (by omega)
            have RI2 := RI.far3 hw (by omega)
            have RR2 := RR.far3 hw (by omega)
            have gB := W0.far3 hw (by have := HSX.out; omega)
            obtain ⟨u0, u1, u2, u3, u4, u5⟩ := RS.three
            refine bodyPost_ret (v := .tuple #[lruV (.slice a3 cur.a.length c3) (.slice a4 cur.i.length c4) (.slice a5 cur.r.length c5), .slice av V.length cv]) (by simp [results, Try.results27, go_sem, u0, u1, u2]) rfl ⟨_, _, _, _, rfl, by rw [HX2.out]; exact ⟨RA2.at_ gB hB2, RI2.at_ gB hB2, RR2.at_ gB hB2⟩, by rw [HX2.out]; exact (RV.far3 hw (by omega)).wider (by omega), gB⟩
end Go.Proofs.Yteaofieijginhaa
