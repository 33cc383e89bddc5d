/- Layer 13, the reference's Complete. -/
import Derived.Test.YtjeelciijfpdiaaDt6
import Derived.Deep.CutBlock
namespace Go.Mine
open Go Go.RowKit
theorem RdI.lies' {w w' : World} {p : Nat → Prop} {a : Option Addr} {n : Nat} {xs : List Int} (h : RdI w p a n xs) (G : Grew w w') : Lies enc1 w' a xs := (h.grew G).lies.2
theorem RowE.far3n {T : TypeId} {sz B b : Nat} {α : Type} {enc : α → List Value} {w w' : World} {v x y z : Value} {L : List α} (h : RowE T sz enc w B v L) (hw : ((w.setCell ⟨b, 0, none⟩ x).setCell ⟨b, 1, none⟩ y).setCell ⟨b, 2, none⟩ z = w') (hb : v.ownBlock ≠ some b) : RowE T sz enc w' B v L := by
  subst hw
  exact ((h.set (p := ⟨b, 0, none⟩) hb x).set (p := ⟨b, 1, none⟩) hb y).set (p := ⟨b, 2, none⟩) hb z
theorem PdR.orR {w : World} {p q : Nat → Prop} {a : Option Addr} {n c : Nat} {x : Pd} (h : PdR w p (.agg #[.slice a n c, .int .i64 x.p, .int .i64 x.l]) x) : PdR w (fun b => p b ∨ q b) (.agg #[.slice a n c, .int .i64 x.p, .int .i64 x.l]) x :=
  h.keep (Nat.le_refl _) (fun _ h _ => .inl h) fun _ _ _ => rfl
end Go.Mine
namespace Go.Proofs.Ytjeelciijfpdiaa
open Go.RowKit Go.Mine

/-- Behind the copy. -/
def CmCut (w : World) (L : List Int) (n : Nat) (P l : Int) (v8 : Value) (wx : World) : Prop := ∃ (Z : Nat) (a2 : Option Addr) (c2 : Nat), v8 = .pointer (some ⟨Z, 0, none⟩) ∧ Own wx Z 27 #[.slice a2 n c2, .int .i64 P, .int .i64 l] ∧
  RowE 3 1 enc1 wx (w.heap.size + 2) (.slice a2 n c2) L ∧ w.heap.size + 2 ≤ Z ∧ (∀ k, (Value.slice a2 n c2).ownBlock = some k → k ≠ Z) ∧ Own wx (w.heap.size + 1) 27 #[.slice none 0 0, .int .i64 0, .int .i64 0] ∧ Grew w wx
set_option maxRecDepth 100000 in
set_option maxHeartbeats 8000000 in
theorem complete_q {p : Nat → Prop} {v : Value} {x y : Pd} {d n e : Int} {w : World} (h : PdR w p v x) (hs : x.e.length ≤ 1000) (hc : CmR x d n y e) :
    Calls Try.prog 12 #[v, .int .i64 d, .int .i64 n] w (RetPd y e (fun b => p b ∨ w.heap.size ≤ b) w) := by
  have HX := Lib.hid h
  have HCM := Lib.hid hc
  obtain ⟨a, c, rfl, h⟩ := h
  obtain ⟨L, P, l⟩ := x
  simp only at h hs ⊢
  obtain ⟨m, hm⟩ : ∃ m, L.length = m := ⟨_, rfl⟩
  have HN := Lib.hid hm
  simp only at HX
  rw [hm] at h HX
  have G0 := ((Grew.refl w).alloc (.cells #[.slice a m c, .int .i64 P, .int .i64 l] 27)).alloc (.cells #[.slice none 0 0, .int .i64 0, .int .i64 0] 27)
  have HX1 := Lib.hid (HX.out.grew G0)
  have HI1 := Lib.hid (h.grew G0)
  have HG1 := Lib.hid G0
  have HO1 := Lib.hid ((Own.new w 27 #[.slice a m c, .int .i64 P, .int .i64 l]).alloc (.cells #[.slice none 0 0, .int .i64 0, .int .i64 0] 27))
  have HP1 := Lib.hid (Own.new2 w (.cells #[.slice a m c, .int .i64 P, .int .i64 l] 27) 27 #[.slice none 0 0, .int .i64 0, .int .i64 0])
  clear h G0 hc
  rw [hm]
  clear hm
  go_enter Try.func12, Try.ntmps12
  go_wp2_with fail
  generalize World.alloc (World.alloc w _) _ = w1 at *
  rcases HCM.out with ⟨h1, rfl, rfl⟩ | h1
  · have H1 := Lib.hid h1
    clear h1 HCM
    with_reducible refine (check_q HX1.out hs H1.out).mono ?_
    rintro e2 w2 ⟨rfl, g2⟩
    have HP2 := Lib.hid (HP1.out.grew g2)
    have HO2 := Lib.hid (HO1.out.grew g2)
    have HX2 := Lib.hid (HX1.out.grew g2)
    have HG2 := Lib.hid (HG1.out.trans g2)
    clear g2
    obtain ⟨k0, k1, k2, k3, k4, k5⟩ := HP2.out.three
    obtain ⟨m0, m1, m2, -⟩ := HO2.out.three
    go_wp2
    generalize hw : World.setCell (World.setCell (World.setCell w2 _ _) _ _) _ _ = E
    obtain ⟨b0, b1, b2, -⟩ := (HP2.out.store3 hw).three
    refine bodyPost_ret (v := .tuple #[.agg #[.slice a m c, .int .i64 P, .int .i64 l], .int .i64 1]) (by simp [results, Try.results12, go_sem, b0, b1, b2]) rfl ?_
    exact ⟨_, rfl, PdR.orR (x := ⟨L, P, l⟩) (HX.out.grew (HG2.out.far3 hw (by omega))), HG2.out.far3 hw (by omega)⟩
  · have hok1 : okD ⟨L, P, l⟩ = true := by
      rcases h1 with ⟨h1, -⟩ | ⟨h1, -⟩ | ⟨h1, -⟩ <;> exact h1
    have H1 := Lib.hid hok1
    with_reducible refine (check_q HX1.out hs H1.out).mono ?_
    rintro e2 w2 ⟨rfl, g2⟩
    have HP2 := Lib.hid (HP1.out.grew g2)
    have HO2 := Lib.hid (HO1.out.grew g2)
    have HI2 := Lib.hid (HI1.out.grew g2)
    have HG2 := Lib.hid (HG1.out.trans g2)
    clear g2 HP1 HO1 HI1 HG1 HX1
    obtain ⟨k0, k1, k2, k3, k4, k5⟩ := HP2.out.three
    obtain ⟨m0, m1, m2, -⟩ := HO2.out.three
    have hcs : ((¬0 ≤ d ∨ (0 ≤ d ∧ ¬d < (m : Int)) ∨ (0 ≤ d ∧ d < (m : Int) ∧ ¬0 ≤ n) ∨ (0 ≤ d ∧ d < (m : Int) ∧ 0 ≤ n ∧ ¬n ≤ 64)) ∧ y = ⟨L, P, l⟩ ∧ e = 2) ∨ ((0 ≤ d ∧ d < (m : Int) ∧ 0 ≤ n ∧ n ≤ 64) ∧ y = itD d.toNat n.toNat ⟨L, P, l⟩ ∧ e = 0) := by
      have hD : ∀ {b}, hasD ⟨L, P, l⟩ d = b → frB d 0 ((m : Int) - 1) = b := fun h => by rw [← h, ← HN.out]; rfl
      rcases h1 with ⟨-, h2, h3, h4⟩ | ⟨-, h2, h3, h4, h5⟩ | ⟨-, h2, h3, h4, h5⟩
      · rcases frB_no (hD h2) with h | ⟨h, h'⟩
        · exact .inl ⟨.inl h, h3, h4⟩
        · exact .inl ⟨.inr (.inl ⟨h, by omega⟩), h3, h4⟩
      · obtain ⟨ha, hb⟩ := frB_iff.1 (hD h2)
        rcases frB_no h3 with h | ⟨h, h'⟩
        · exact .inl ⟨.inr (.inr (.inl ⟨ha, by omega, h⟩)), h4, h5⟩
        · exact .inl ⟨.inr (.inr (.inr ⟨ha, by omega, h, h'⟩)), h4, h5⟩
      · obtain ⟨ha, hb⟩ := frB_iff.1 (hD h2)
        obtain ⟨hc, hd⟩ := frB_iff.1 h3
        exact .inr ⟨⟨ha, by omega, hc, hd⟩, h4, h5⟩
    clear h1 HCM
    rcases hcs with ⟨h2, rfl, rfl⟩ | ⟨⟨h2, h3, h4, h5⟩, hy, rfl⟩
    · rcases h2 with h2 | ⟨h2, h3⟩ | ⟨h2, h3, h4⟩ | ⟨h2, h3, h4, h5⟩
      all_goals
        go_wp2
        generalize hw : World.setCell (World.setCell (World.setCell w2 _ _) _ _) _ _ = E
        obtain ⟨b0, b1, b2, -⟩ := (HP2.out.store3 hw).three
        refine bodyPost_ret (v := .tuple #[.agg #[.slice a m c, .int .i64 P, .int .i64 l], .int .i64 2]) (by simp [results, Try.results12, go_sem, b0, b1, b2]) rfl ?_
        exact ⟨_, rfl, PdR.orR (x := ⟨L, P, l⟩) (HX.out.grew (HG2.out.far3 hw (by omega))), HG2.out.far3 hw (by omega)⟩
    · obtain ⟨k, rfl⟩ := Int.eq_ofNat_of_zero_le h2
      obtain ⟨N, rfl⟩ := Int.eq_ofNat_of_zero_le h4
      have hkm : k < m := by omega
      have hkL : k < L.length := by rw [HN.out]; exact hkm
      have hyy : y = itD k N ⟨L, P, l⟩ := hy
      have HY := Lib.hid hyy
      have HK := Lib.hid (okD_iff.1 hok1)
      have hz2 : w.heap.size + 2 ≤ w2.heap.size := by have := HP2.out.lt; omega
      have hm10 : m ≤ 1000 := by rw [← HN.out]; exact hs
      have e1 : decide ((k : Int) < 0) = false := decide_eq_false (by omega)
      have e2 : decide (m ≤ k) = false := decide_eq_false (by omega)
      have e3 : decide ((N : Int) < 0) = false := decide_eq_false (by omega)
      have e4 : decide ((64 : Int) < (N : Int)) = false := decide_eq_false (by omega)
      clear hy hyy hok1
      go_upto_region 5 with fail
      go_cut [8] from 33 to 40 (CmCut w L m P l)
      case first =>
        have HOD := Lib.hid HO2.out.drew
        have HPD := Lib.hid HP2.out.drew
        have HGD := Lib.hid HG2.out.drew
        have HLI : Hid (∀ w', Grew w2.drew w' → Lies enc1 w' a L) := Lib.hid fun w' G => RdI.lies' (show RdI w2.drew p a m L from HI2.out) G
        have hl6 : ([] : List Int).length + L.length < 1000000 := by simp only [List.length_nil]; omega
        have hzA : ∀ o, w.heap.size + 2 ≤ (w2.drew.alloc o).heap.size := fun o => Nat.le_trans hz2 (by simp)
        have HNm := Lib.hid HN.out.symm
        have g0 : Grew w2.drew w2.drew := Grew.refl _
        clear k0 k1 k2 k3 k4 k5
        go_region_held3 (fun w' => w'.cell? ⟨w.heap.size, 0, none⟩ = some (.slice a m c) ∧ w'.cell? ⟨w.heap.size, 1, none⟩ = some (.int .i64 P) ∧ w'.cell? ⟨w.heap.size, 2, none⟩ = some (.int .i64 l))
          (refine ⟨?_, ?_, ?_⟩ <;> (repeat (first | (with_reducible assumption) | (with_reducible refine far_drew ?_) | (with_reducible refine far_alloc ?_) | (with_reducible refine far_cell (by simp; omega) ?_))))
          (first
            | (refine step_append_src _ (by rfl) (.const (.slice none 0 0)) (.tmp 34) 22 (by rfl) (w.heap.size + 2) info_int Try.underlying22 (by decide) (by decide) enc1_len (fun z => enc1_one) (.slice none 0 0) [] (by rfl) (RowE.nil _ _) a m c L (by rfl) HNm.out (HLI.out _ (by first | exact g0 | exact g0.alloc _)) hl6 (by decide) (by first | exact hz2 | exact hzA _) ?_
               intro v3 w3 R3 G3 o3
               rw [List.nil_append] at R3
               have G4 := below_of_grown (show World.grownBy _ w3 none from G3)
               obtain ⟨a3, c3, rfl⟩ := R3.len
               rw [HN.out] at R3
               rw [HN.out]
               have HR3 := Lib.hid R3
               have HGG := Lib.hid (show Grew _ w3 from G4)
               have HOO := Lib.hid o3
               have HP3 := Lib.hid (show Own w3 (w.heap.size + 1) 27 #[.slice none 0 0, .int .i64 0, .int .i64 0] from by first | exact HPD.out.grew G4 | exact (HPD.out.alloc _).grew G4)
               have HG3 := Lib.hid (show Grew w w3 from by first | exact HGD.out.trans G4 | exact (HGD.out.alloc _).trans G4)
               have HO3 := Lib.hid (show Own w3 w.heap.size 27 #[.slice a m c, .int .i64 P, .int .i64 l] from by first | exact HOD.out.grew G4 | exact (HOD.out.alloc _).grew G4)
               try (have HZ : Own w3 w2.heap.size 27 #[.slice none 0 0, .int .i64 0, .int .i64 0] := (Own.new w2.drew 27 #[.slice none 0 0, .int .i64 0, .int .i64 0]).grew G4
                    have HZZ := Lib.hid HZ
                    have hzl := HZ.lt
                    obtain ⟨z0, z1, z2, z3, z4, z5⟩ := HZ.three
                    clear HZ)
               clear R3 G3 G4 o3 m0 m1 m2
               obtain ⟨m0, m1, m2, -⟩ := HO3.out.three))
        · go_wp2
          go_meet
          have hz3 : w.heap.size + 2 ≤ w3.heap.size := Nat.le_trans hz2 HGG.out.size
          exact ⟨w3.heap.size, a3, c3, rfl, Own.new w3 _ _, HR3.out.grew ((Grew.refl w3).alloc _), hz3, fun k e => by have := (World.ownsRow.lt HR3.out k e).2; omega, HP3.out.alloc _, HG3.out.alloc _⟩
        · go_wp2
          go_meet
          generalize hw : World.setCell (World.setCell (World.setCell w3 _ _) _ _) _ _ = E
          have hne : ∀ k, (Value.slice a3 m c3).ownBlock = some k → k ≠ w2.heap.size := fun k e => by
            have ho := HOO.out
            rw [HN.out, e] at ho
            rcases ho with ho | ho
            · exact absurd ho (by simp [Value.ownBlock])
            · injection ho with ho
              have hs : (w2.alloc (.cells #[.slice none 0 0, .int .i64 0, .int .i64 0] 27)).drew.heap.size = w2.heap.size + 1 := by simp [World.drew]
              omega
          exact ⟨w2.heap.size, a3, c3, rfl, HZZ.out.store3 hw, RowE.far3n HR3.out hw (fun e => hne _ e rfl), hz2, hne, HP3.out.far3 hw (by omega), HG3.out.far3 hw (by omega)⟩
      case rest =>
        obtain ⟨Z, a2, c2, rfl, O, R, hZ, hne, OP, G⟩ := hcut
        obtain ⟨h', rfl⟩ : ∃ h', a2 = some ⟨h', 0, none⟩ := by
          obtain ⟨g, e, -⟩ := R.atI.2 k hkm
          exact ⟨g, e⟩
        have hh : w.heap.size + 2 ≤ h' := R.above h' rfl
        have hgh : Z ≠ h' := fun e => hne h' rfl e.symm
        have HO3 := Lib.hid O
        have HR3 := Lib.hid R
        have HP3 := Lib.hid OP
        have HG3 := Lib.hid G
        clear O R OP G hne HI2 HO2 HP2 HG2 HX m0 m1 m2 k0 k1 k2 k3 k4 k5
        obtain ⟨w3, rfl⟩ : ∃ w3 : World, w3 = wc := ⟨_, rfl⟩
        go_wp2_with fail
        go_loopw [9] (fun iv wr => ∃ i : Nat, iv = .int .i64 i ∧ i ≤ N ∧ Own wr Z 27 #[.slice (some ⟨h', 0, none⟩) m c2, .int .i64 P, .int .i64 (itD k i ⟨L, P, l⟩).l] ∧ RowE 3 1 enc1 wr (w.heap.size + 2) (.slice (some ⟨h', 0, none⟩) m c2) (itD k i ⟨L, P, l⟩).e ∧ Two Z h' w3 wr) (fun iv _ => N - (intOf iv).toNat)
        case atStart => exact ⟨0, rfl, by omega, HO3.out, HR3.out, Two.refl _ _ _⟩
        case round =>
          obtain ⟨i, rfl, hi, O, R, T⟩ := hrel
          obtain ⟨wo, rfl⟩ : ∃ wo : World, wo = wr := ⟨_, rfl⟩
          have HT := Lib.hid T
          have HP4 := Lib.hid (HP3.out.two' T (by omega) (by omega))
          have HG4 := Lib.hid (HG3.out.two T (by omega) (by omega))
          by_cases hlt : i < N
          · have hzk := it_ok i HK.out hkL
            have hzp := it_p k i ⟨L, P, l⟩
            have HS := Lib.hid (it_s k i ⟨L, P, l⟩)
            obtain ⟨⟨Lz, Pz, lz⟩, hz⟩ : ∃ z, itD k i ⟨L, P, l⟩ = z := ⟨_, rfl⟩
            rw [hz] at O R hzk hzp HS
            obtain ⟨hzP, hzN⟩ := hzp
            simp only at O R hzP hzN
            obtain rfl : P = Pz := hzP.symm
            have HNz : Hid (Lz.length = m) := Lib.hid (hzN.trans HN.out)
            have hkz : k < Lz.length := by rw [HNz.out]; exact hkm
            obtain ⟨h'', e', -, hg, d0, z0⟩ := R.atI.2 k hkm
            injection e' with e'
            injection e' with e'
            subst e'
            have hb := hzk.ev k hkz
            have l1 := hzk.l1
            have l2 := hzk.l2
            have p2 := hzk.p2
            simp only at hb l1 l2 p2
            have HZK := Lib.hid hzk
            obtain ⟨c0, c1, c2', f0, f1, f2⟩ := O.three
            have hinc : incD k Lz = Lz.set k (min (Lz.getD k 0 + 1) 1000000) := rfl
            obtain ⟨t, ht⟩ : ∃ t, Lz.getD k 0 = t := ⟨_, rfl⟩
            rw [ht] at d0 hb hinc
            obtain ⟨u, hu⟩ : ∃ u, min (t + 1) 1000000 = u := ⟨_, rfl⟩
            rw [hu] at hinc
            have HR1 := Lib.hid (R.storeI k u)
            rw [← hinc] at HR1
            have HO1 := Lib.hid (O.far (p := ⟨h', k, none⟩) hgh (.int .i64 u))
            have HT1 := Lib.hid (T.set ⟨h', k, none⟩ (.inr rfl) (.int .i64 u))
            have q1 : IntKind.i64.wrap (t + 1) = t + 1 := IntWalk.i64_in _ (by omega)
            have q1' : wrap64 (t + 1) = t + 1 := IntWalk.wrap64_in _ (by omega)
            have hi0 : (0 : Int) ≤ (k : Int) := by omega
            have hi1 : (k : Int) < (m : Int) := by omega
            have hj0 : (0 : Int) ≤ (i : Int) := by omega
            have hj1 : (i : Int) < (N : Int) := by omega
            have HT := Lib.hid ht
            clear O R T hinc hzk hz ht hzN
            go_upto_region 9 with fail
            go_region
            rw [show (if 1000000 < t + 1 then 1000000 else t + 1) = u from by rw [← hu]; split <;> omega]
            replace HR1 := Lib.hid (HR1.out.drew)
            replace HO1 := Lib.hid HO1.out.drew
            replace HT1 := Lib.hid HT1.out.drew
            generalize World.drew (World.setCell wo _ _) = w4 at *
            clear c0 c1 c2' f0 f1 f2 d0 z0 hu q1 q1' hg hb
            obtain ⟨c0, c1, c2', f0, f1, f2⟩ := HO1.out.three
            have q2 : IntKind.i64.wrap (lz - 1) = lz - 1 := IntWalk.i64_in _ (by omega)
            have q2' : wrap64 (lz - 1) = lz - 1 := IntWalk.wrap64_in _ (by omega)
            have HO2 := Lib.hid (HO1.out.set 2 (.int .i64 (lz - 1)))
            have HT2 := Lib.hid (HT1.out.set ⟨Z, 2, none⟩ (.inl rfl) (.int .i64 (lz - 1)))
            have HR2 := Lib.hid (RowE.keptG (r := some Z) HR1.out (grown_set (p := ⟨Z, 2, none⟩) (grown_refl _ _) (.inl rfl) (.int .i64 (lz - 1))) fun k e ho => by injection e with e; injection ho with ho; exact hgh (e.trans ho.symm))
            have HV := Lib.hid (inc_ok hkz HZK.out.ev)
            have HNi : Hid ((incD k Lz).length = m) := Lib.hid ((inc_len k Lz).trans HNz.out)
            by_cases hl : lz = 1
            · have HSS := Lib.hid (HS.out.trans (st_t (d := k) (x := ⟨Lz, P, lz⟩) hl))
              subst hl
              have e10 : (1 : Int) - 1 = 0 := rfl
              rw [e10] at HO2 HR2 HT2
              go_wp2_with fail
              replace HO2 : Hid (Own (w4.setCell ⟨Z, 2, none⟩ (.int .i64 0)) Z 27 #[.slice (some ⟨h', 0, none⟩) m c2, .int .i64 P, .int .i64 0]) := HO2
              generalize World.setCell w4 _ _ = w5 at *
              clear c0 c1 c2' f0 f1 f2 HO1 HR1 HT1
              generalize incD k Lz = M at *
              go_loopw [10] (fun iv wr => ∃ j : Nat, iv = .int .i64 j ∧ j ≤ m ∧ Own wr Z 27 #[.slice (some ⟨h', 0, none⟩) m c2, .int .i64 P, .int .i64 0] ∧ RowE 3 1 enc1 wr (w.heap.size + 2) (.slice (some ⟨h', 0, none⟩) m c2) (halK j M) ∧ Two Z h' w3 wr) (fun iv _ => m - (intOf iv).toNat)
              case atStart => exact ⟨0, rfl, by omega, HO2.out, by rw [halK_0]; exact HR2.out, HT2.out⟩
              case round =>
                obtain ⟨j, rfl, hj, O, R, T⟩ := hrel
                obtain ⟨wi, rfl⟩ : ∃ wi : World, wi = wr := ⟨_, rfl⟩
                have HO3 := Lib.hid O
                have HR3 := Lib.hid R
                have HT3 := Lib.hid T
                obtain ⟨c0, c1, c2', f0, f1, f2⟩ := O.three
                by_cases hjm : j < m
                · have hjL : j < M.length := by rw [HNi.out]; exact hjm
                  obtain ⟨h'', e', -, hg, d0, z0⟩ := R.atI.2 j hjm
                  injection e' with e'
                  injection e' with e'
                  subst e'
                  rw [halK_at hjL] at d0
                  have hb := HV.out j (by rw [HNz.out]; exact hjm)
                  have hst := halK_s hjL
                  obtain ⟨t1, ht1⟩ : ∃ t1, M.getD j 0 = t1 := ⟨_, rfl⟩
                  rw [ht1] at d0 hb hst
                  obtain ⟨u1, hu1⟩ : ∃ u1, t1 / 2 = u1 := ⟨_, rfl⟩
                  have p0 : Int.tdiv t1 2 = u1 := by rw [Int.tdiv_eq_ediv_of_nonneg hb.1, hu1]
                  have p1 : IntKind.i64.wrap u1 = u1 := IntWalk.i64_in _ (by omega)
                  have p1' : wrap64 u1 = u1 := IntWalk.wrap64_in _ (by omega)
                  rw [hu1] at hst
                  have HST := Lib.hid hst
                  have hk0 : (0 : Int) ≤ (j : Int) := by omega
                  have hk1 : (j : Int) < (m : Int) := by omega
                  clear O R T hb hst ht1 hu1 hg
                  go_wp2
                  refine ⟨⟨j + 1, by go_num, by omega, HO3.out.far (p := ⟨h', j, none⟩) hgh _, ?_, HT3.out.set ⟨h', j, none⟩ (.inr rfl) _⟩, by simp [intOf] <;> omega⟩
                  rw [← HST.out]
                  exact HR3.out.storeI j u1
                · obtain rfl : j = m := by omega
                  have hR : RowE 3 1 enc1 wi (w.heap.size + 2) (.slice (some ⟨h', 0, none⟩) j c2) (halD M) := by rw [← halK_all, HNi.out]; exact R
                  have HR4 := Lib.hid (RowE.keptG (r := some Z) hR (grown_set (p := ⟨Z, 2, none⟩) (grown_refl _ _) (.inl rfl) (.int .i64 P)) fun k e ho => by injection e with e; injection ho with ho; exact hgh (e.trans ho.symm))
                  clear O R T hR
                  go_wp2
                  refine ⟨⟨i + 1, by go_num, by omega, ?_, ?_, HT3.out.set ⟨Z, 2, none⟩ (.inl rfl) _⟩, by simp [intOf] <;> omega⟩
                  · rw [HSS.out]; exact HO3.out.set 2 (.int .i64 P)
                  · rw [HSS.out]; exact HR4.out
            · have HSS := Lib.hid (HS.out.trans (st_f (d := k) (x := ⟨Lz, P, lz⟩) hl))
              have hl1 : ¬lz - 1 = 0 := by omega
              have hl2 : (lz - 1 == 0) = false := by simpa using hl1
              go_wp2
              refine ⟨⟨i + 1, by go_num, by omega, ?_, ?_, HT2.out⟩, by simp [intOf] <;> omega⟩
              · rw [HSS.out]; exact HO2.out
              · rw [HSS.out]; exact HR2.out
          · obtain rfl : i = N := by omega
            rw [← HY.out] at O R
            have HYP : Hid (y.p = P) := Lib.hid (by rw [HY.out]; exact (it_p _ _ _).1)
            have HYN : Hid (y.e.length = m) := Lib.hid (by rw [HY.out]; exact (it_p _ _ _).2.trans HN.out)
            obtain ⟨Ly, Py, ly⟩ := y
            obtain rfl : Py = P := HYP.out
            simp only at O R HYN
            have HR5 := Lib.hid R
            obtain ⟨q0, q1, q2, -⟩ := O.three
            obtain ⟨k0, k1, k2, k3, k4, k5⟩ := HP4.out.three
            clear O R T
            go_wp2
            generalize hw : World.setCell (World.setCell (World.setCell wo _ _) _ _) _ _ = E
            obtain ⟨b0, b1, b2, -⟩ := (HP4.out.store3 hw).three
            refine bodyPost_ret (v := .tuple #[.agg #[.slice (some ⟨h', 0, none⟩) m c2, .int .i64 Py, .int .i64 ly], .int .i64 0]) (by simp [results, Try.results12, go_sem, b0, b1, b2]) rfl ?_
            exact ⟨_, rfl, (pd_end (x := ⟨Ly, Py, ly⟩) (w0 := w) (HR5.out.far3 hw (by omega)) HYN.out (by omega)).keep (Nat.le_refl _) (fun _ h _ => .inr h) (fun _ _ _ => rfl), HG4.out.far3 hw (by omega)⟩
end Go.Proofs.Ytjeelciijfpdiaa
