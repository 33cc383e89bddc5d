/- Layer 13, the program's Complete: slices.Clone, copied, Complete. -/
import Derived.Test.YtjeelciijfpdiaaDt5
import Derived.Lib.SliceRun
namespace Go.Mine
open Go Go.RowKit
section
variable {α : Type} {T : TypeId} {sz : Nat} {enc : α → List Value} {w E : World} {B b : Nat} {v : Value} {L : List α}
theorem RowE.putO (h : RowE T sz enc w B v L) (hb : b < B) (i : Nat) (u : Value) : RowE T sz enc (w.setCell ⟨b, i, none⟩ u) B v L :=
  RowE.keptB (r := some b) h (grown_set (p := ⟨b, i, none⟩) (grown_refl _ _) (.inl rfl) u) (fun k e => by injection e with e; omega)
theorem RowE.far3 {x y z : Value} (h : RowE T sz enc w B v L) (hw : ((w.setCell ⟨b, 0, none⟩ x).setCell ⟨b, 1, none⟩ y).setCell ⟨b, 2, none⟩ z = E) (hb : b < B) : RowE T sz enc E B v L := by
  rw [← hw]
  exact ((h.putO hb 0 x).putO hb 1 y).putO hb 2 z
end
theorem PdR.ofRow {w : World} {T : TypeId} {B : Nat} {a : Option Addr} {n c : Nat} {x : Pd} (h : RowE T 1 enc1 w B (.slice a n c) x.e) : PdR w (fun b => B ≤ b) (.agg #[.slice a n c, .int .i64 x.p, .int .i64 x.l]) x := by
  obtain ⟨a', c', e, r⟩ := h.rd
  injection e with e1 e2 e3
  subst e1 e2 e3
  exact ⟨_, _, rfl, r⟩
end Go.Mine
namespace Go.Proofs.Ytjeelciijfpdiaa
open Go.RowKit Go.Mine

def RetRw (xs : List Int) (w : World) (e : Ending) (w' : World) : Prop := ∃ v, e = .returned v ∧ RowE 3 1 enc1 w' w.heap.size v xs ∧ Grew w w'
set_option maxHeartbeats 1000000 in
theorem clone_i {p : Nat → Prop} {a : Option Addr} {n c : Nat} {xs : List Int} {w : World} (h : RdI w p a n xs) (hl : xs.length ≤ 1000) : Calls Try.prog 31 #[.slice a n c] w (RetRw xs w) := by
  obtain rfl := h.1
  cases a with
  | none =>
    have hx : xs = [] := by
      rcases h.2 with h | ⟨g, o, e, -⟩
      · exact h
      · cases e
    subst hx
    have q22 : ∀ (w : World) (a : Option Addr) (n c n' c' : Nat), (binOp .eql 22 (.slice a n c) (.slice none n' c')).run Try.prog w = .ok (.bool a.isNone) w := fun w a n c n' c' => Lib.run_eql_slice_nil w _ _ a n c n' c' Try.underlying22
    go_enter Try.func31, Try.ntmps31
    go_wp2
    go_ret
    exact ⟨_, rfl, RowE.nil _ _, Grew.refl _⟩
  | some A =>
    have HRI := Lib.hid (h.keep (q := p) (w' := w.alloc (.cells #[] 3)) (by simp) (fun _ a _ => a) fun g _ hg => Below.heap_alloc w _ g hg)
    have hx6 : xs.length < 1000000 := by omega
    have R0 : RowE 3 1 enc1 (w.alloc (.cells #[] 3)) w.heap.size (.slice (some ⟨w.heap.size, 0, none⟩) 0 0) [] := RowE.lit w #[] rfl rfl (by decide) (Nat.le_refl _)
    have HR0 := Lib.hid R0
    have HG0 := Lib.hid ((Grew.refl w).alloc (.cells #[] 3))
    have hz : w.heap.size ≤ (w.alloc (.cells #[] 3)).heap.size := by simp
    clear h R0
    have q22 : ∀ (w : World) (a : Option Addr) (n c n' c' : Nat), (binOp .eql 22 (.slice a n c) (.slice none n' c')).run Try.prog w = .ok (.bool a.isNone) w := fun w a n c n' c' => Lib.run_eql_slice_nil w _ _ a n c n' c' Try.underlying22
    go_enter Try.func31, Try.ntmps31
    go_wp2_with (at_builtin; go_loud (
      refine wpList_append_src _ rfl _ _ 22 rfl w.heap.size info_int Try.underlying22 (by decide) (by decide) enc1_len (fun z => enc1_one) _ [] rfl HR0.out _ _ _ xs rfl rfl HRI.out.lies.2 (by simpa using hx6) (by decide) hz ?_
      intro v2 w2 R2 G2 o2))
    have HG2 := Lib.hid (Grew.keptA (B := w.heap.size) HG0.out G2 (fun x e => HR0.out.above x e) (Nat.le_refl _))
    go_wp2
    go_ret
    exact ⟨_, rfl, R2, HG2.out⟩
theorem pd_end {w w0 : World} {B n c : Nat} {a : Option Addr} {x : Pd} (R : RowE 3 1 enc1 w B (.slice a n c) x.e) (hn : x.e.length = n) (hB : w0.heap.size ≤ B) : PdR w (fun b => w0.heap.size ≤ b) (.agg #[.slice a n c, .int .i64 x.p, .int .i64 x.l]) x := by
  subst hn
  exact (PdR.ofRow R).keep (Nat.le_refl _) (fun g h _ => Nat.le_trans hB h) fun _ _ _ => rfl
/-- Proportions with a row of their own. -/
def RetPo (x : Pd) (w : World) (e : Ending) (w' : World) : Prop := ∃ a c, e = .returned (.agg #[.slice a x.e.length c, .int .i64 x.p, .int .i64 x.l]) ∧ RowE 3 1 enc1 w' w.heap.size (.slice a x.e.length c) x.e ∧ Grew w w'
set_option maxHeartbeats 1000000 in
theorem copied_p {p : Nat → Prop} {v : Value} {x : Pd} {w : World} (h : PdR w p v x) (hs : x.e.length ≤ 1000) : Calls Try.prog 25 #[v] w (RetPo x w) := by
  obtain ⟨a, c, rfl, h⟩ := h
  obtain ⟨L, P, l⟩ := x
  simp only at h hs ⊢
  obtain ⟨n, hn⟩ : ∃ n, L.length = n := ⟨_, rfl⟩
  have HN := Lib.hid hn
  rw [hn] at h
  have G0 := ((Grew.refl w).alloc (.cells #[.slice a n c, .int .i64 P, .int .i64 l] 27)).alloc (.cells #[.slice none 0 0, .int .i64 0, .int .i64 0] 27)
  have HZ := Lib.hid (h.grew G0)
  have HG := Lib.hid G0
  have HO := Lib.hid ((Own.new w 27 #[.slice a n c, .int .i64 P, .int .i64 l]).alloc (.cells #[.slice none 0 0, .int .i64 0, .int .i64 0] 27))
  have HP := Lib.hid (Own.new2 w (.cells #[.slice a n c, .int .i64 P, .int .i64 l] 27) 27 #[.slice none 0 0, .int .i64 0, .int .i64 0])
  have hz : ((w.alloc (.cells #[.slice a n c, .int .i64 P, .int .i64 l] 27)).alloc (.cells #[.slice none 0 0, .int .i64 0, .int .i64 0] 27)).heap.size = w.heap.size + 2 := by simp
  clear h G0
  rw [hn]
  clear hn
  go_enter Try.func25, Try.ntmps25
  go_wp2_with fail
  with_reducible refine (clone_i HZ.out hs).mono ?_
  rintro e w1 ⟨v1, rfl, R1, G1⟩
  rw [hz] at R1
  obtain ⟨a1, c1, rfl⟩ := R1.len
  rw [HN.out] at R1 ⊢
  obtain ⟨m0, m1, m2, m3, m4, m5⟩ := (HO.out.grew G1).three
  obtain ⟨k0, k1, k2, k3, k4, k5⟩ := (HP.out.grew G1).three
  have HO1 := Lib.hid ((HO.out.grew G1).set 0 (.slice a1 n c1))
  have HP1 := Lib.hid ((HP.out.grew G1).far (p := ⟨w.heap.size, 0, none⟩) (by simp) (.slice a1 n c1))
  have HR1 := Lib.hid (R1.putO (b := w.heap.size) (by omega) 0 (.slice a1 n c1))
  have HG1 := Lib.hid ((HG.out.trans G1).set (p := ⟨w.heap.size, 0, none⟩) (Nat.le_refl _) (.slice a1 n c1))
  clear R1 G1 hz
  go_wp2
  generalize hw : World.setCell (World.setCell (World.setCell (World.setCell w1 _ _) _ _) _ _) _ _ = E
  obtain ⟨b0, b1, b2, -⟩ := (HP1.out.store3 hw).three
  refine bodyPost_ret (v := .agg #[.slice a1 n c1, .int .i64 P, .int .i64 l]) (by simp [results, Try.results25, go_sem, b0, b1, b2]) rfl ?_
  exact ⟨a1, c1, by rw [HN.out], by rw [HN.out]; exact ((HR1.out.far3 hw (by omega))).wider (by omega), HG1.out.far3 hw (by omega)⟩
set_option maxHeartbeats 4000000 in
theorem complete_p {p : Nat → Prop} {v : Value} {x y : Pd} {d n e : Int} {w : World} (h : PdR w p v x) (hs : x.e.length ≤ 1000) (hc : CmR x d n y e) :
    Calls Try.prog 11 #[v, .int .i64 d, .int .i64 n] w (RetPd y e (fun b => w.heap.size ≤ b) w) := by
  have HX := Lib.hid h
  have HCM := Lib.hid hc
  obtain ⟨a, c, rfl, h⟩ := h
  obtain ⟨L, P, l⟩ := x
  simp only at h hs ⊢
  obtain ⟨m, hm⟩ : ∃ m, L.length = m := ⟨_, rfl⟩
  have HN := Lib.hid hm
  simp only at HX
  rw [hm] at h HX
  have G0 := ((Grew.refl w).alloc (.cells #[.slice a m c, .int .i64 P, .int .i64 l] 27)).alloc (.cells #[.slice none 0 0, .int .i64 0, .int .i64 0] 27)
  have HZ := Lib.hid (HX.out.grew G0)
  have HG := Lib.hid G0
  have HO := Lib.hid ((Own.new w 27 #[.slice a m c, .int .i64 P, .int .i64 l]).alloc (.cells #[.slice none 0 0, .int .i64 0, .int .i64 0] 27))
  have HP := Lib.hid (Own.new2 w (.cells #[.slice a m c, .int .i64 P, .int .i64 l] 27) 27 #[.slice none 0 0, .int .i64 0, .int .i64 0])
  have hz : ((w.alloc (.cells #[.slice a m c, .int .i64 P, .int .i64 l] 27)).alloc (.cells #[.slice none 0 0, .int .i64 0, .int .i64 0] 27)).heap.size = w.heap.size + 2 := by simp
  obtain ⟨m0, m1, m2, -⟩ := HO.out.three
  clear h G0 hc
  rw [hm]
  clear hm
  go_enter Try.func11, Try.ntmps11
  go_wp2_with fail
  with_reducible refine (copied_p HZ.out hs).mono ?_
  rintro e1 w1 ⟨a1, c1, rfl, R1, G1⟩
  simp only at R1 ⊢
  rw [hz] at R1
  rw [HN.out] at R1 ⊢
  have hz1 := G1.size
  rw [hz] at hz1
  have GX : Grew w1 (w1.alloc (.cells #[.slice a1 m c1, .int .i64 P, .int .i64 l] 27)) := (Grew.refl w1).alloc _
  have HO1 := Lib.hid ((HO.out.grew G1).grew GX)
  have HP1 := Lib.hid ((HP.out.grew G1).grew GX)
  have HR1 := Lib.hid (R1.grew GX)
  have HG1 := Lib.hid ((HG.out.trans G1).trans GX)
  have HX1 := Lib.hid ((HZ.out.grew G1).grew GX)
  have HQ1 := Lib.hid (Own.new w1 27 #[.slice a1 m c1, .int .i64 P, .int .i64 l])
  have hg1 : w.heap.size + 2 ≤ w1.heap.size := hz1
  have hrl : ∀ k, (Value.slice a1 m c1).ownBlock = some k → k < w1.heap.size := fun k hk => (World.ownsRow.lt R1 k hk).2
  clear R1 G1 hz m0 m1 m2 GX HZ HO HP HG HX
  obtain ⟨m0, m1, m2, -⟩ := HO1.out.three
  go_wp2_with fail
  rcases HCM.out with ⟨h1, rfl, rfl⟩ | ⟨h1, h2, rfl, rfl⟩ | ⟨h1, h2, h3, rfl, rfl⟩ | ⟨h1, h2, h3, hy, rfl⟩
  · have H1 := Lib.hid h1
    clear h1 HCM
    with_reducible refine (check_p HX1.out hs H1.out).mono ?_
    rintro e2 w2 ⟨rfl, g2⟩
    have HP2 := Lib.hid (HP1.out.grew g2)
    have HR2 := Lib.hid (HR1.out.grew g2)
    have HG2 := Lib.hid (HG1.out.trans g2)
    have HQ2 := Lib.hid (HQ1.out.grew g2)
    clear g2 m0 m1 m2 HP1 HR1 HG1 HQ1 HO1 HX1
    obtain ⟨k0, k1, k2, k3, k4, k5⟩ := HP2.out.three
    obtain ⟨q0, q1, q2, -⟩ := HQ2.out.three
    go_wp2
    generalize hw : World.setCell (World.setCell (World.setCell w2 _ _) _ _) _ _ = E
    obtain ⟨b0, b1, b2, -⟩ := (HP2.out.store3 hw).three
    refine bodyPost_ret (v := .tuple #[.agg #[.slice a1 m c1, .int .i64 P, .int .i64 l], .int .i64 1]) (by simp [results, Try.results11, go_sem, b0, b1, b2]) rfl ?_
    exact ⟨_, rfl, pd_end (x := ⟨L, P, l⟩) (HR2.out.far3 hw (by omega)) HN.out (by omega), HG2.out.far3 hw (by omega)⟩
  · skip
    have H1 := Lib.hid h1
    have H2 := Lib.hid h2
    clear h1 h2 HCM
    with_reducible refine (check_p HX1.out hs H1.out).mono ?_
    rintro e2 w2 ⟨rfl, g2⟩
    have HO2 := Lib.hid (HO1.out.grew g2)
    have HX2 := Lib.hid (HX1.out.grew g2)
    have HP2 := Lib.hid (HP1.out.grew g2)
    have HR2 := Lib.hid (HR1.out.grew g2)
    have HG2 := Lib.hid (HG1.out.trans g2)
    have HQ2 := Lib.hid (HQ1.out.grew g2)
    clear g2 m0 m1 m2 HP1 HR1 HG1 HQ1 HO1 HX1
    obtain ⟨m0, m1, m2, -⟩ := HO2.out.three
    go_wp2_with fail
    with_reducible refine (hasD_p HX2.out hs H2.out).mono ?_
    rintro e3 w3 ⟨rfl, g3⟩
    replace HP2 := Lib.hid (HP2.out.grew g3)
    replace HR2 := Lib.hid (HR2.out.grew g3)
    replace HG2 := Lib.hid (HG2.out.trans g3)
    replace HQ2 := Lib.hid (HQ2.out.grew g3)
    clear g3 m0 m1 m2 HO2 HX2
    obtain ⟨k0, k1, k2, k3, k4, k5⟩ := HP2.out.three
    obtain ⟨q0, q1, q2, -⟩ := HQ2.out.three
    go_wp2
    generalize hw : World.setCell (World.setCell (World.setCell w3 _ _) _ _) _ _ = E
    obtain ⟨b0, b1, b2, -⟩ := (HP2.out.store3 hw).three
    refine bodyPost_ret (v := .tuple #[.agg #[.slice a1 m c1, .int .i64 P, .int .i64 l], .int .i64 2]) (by simp [results, Try.results11, go_sem, b0, b1, b2]) rfl ?_
    exact ⟨_, rfl, pd_end (x := ⟨L, P, l⟩) (HR2.out.far3 hw (by omega)) HN.out (by omega), HG2.out.far3 hw (by omega)⟩
  · skip
    have H1 := Lib.hid h1
    have H2 := Lib.hid h2
    have H3 := Lib.hid h3
    clear h1 h2 HCM h3
    with_reducible refine (check_p HX1.out hs H1.out).mono ?_
    rintro e2 w2 ⟨rfl, g2⟩
    have HO2 := Lib.hid (HO1.out.grew g2)
    have HX2 := Lib.hid (HX1.out.grew g2)
    have HP2 := Lib.hid (HP1.out.grew g2)
    have HR2 := Lib.hid (HR1.out.grew g2)
    have HG2 := Lib.hid (HG1.out.trans g2)
    have HQ2 := Lib.hid (HQ1.out.grew g2)
    clear g2 m0 m1 m2 HP1 HR1 HG1 HQ1 HO1 HX1
    obtain ⟨m0, m1, m2, -⟩ := HO2.out.three
    go_wp2_with fail
    with_reducible refine (hasD_p HX2.out hs H2.out).mono ?_
    rintro e3 w3 ⟨rfl, g3⟩
    replace HP2 := Lib.hid (HP2.out.grew g3)
    replace HR2 := Lib.hid (HR2.out.grew g3)
    replace HG2 := Lib.hid (HG2.out.trans g3)
    replace HQ2 := Lib.hid (HQ2.out.grew g3)
    clear g3 m0 m1 m2 HO2 HX2
    obtain ⟨k0, k1, k2, k3, k4, k5⟩ := HP2.out.three
    obtain ⟨q0, q1, q2, -⟩ := HQ2.out.three
    go_wp2_with fail
    with_reducible refine (isWithin_p H3.out).mono ?_
    rintro e4 w4 ⟨rfl, rfl⟩
    go_wp2
    generalize hw : World.setCell (World.setCell (World.setCell w3 _ _) _ _) _ _ = E
    obtain ⟨b0, b1, b2, -⟩ := (HP2.out.store3 hw).three
    refine bodyPost_ret (v := .tuple #[.agg #[.slice a1 m c1, .int .i64 P, .int .i64 l], .int .i64 2]) (by simp [results, Try.results11, go_sem, b0, b1, b2]) rfl ?_
    exact ⟨_, rfl, pd_end (x := ⟨L, P, l⟩) (HR2.out.far3 hw (by omega)) HN.out (by omega), HG2.out.far3 hw (by omega)⟩
  · have hok := okD_iff.1 h1
    obtain ⟨h4, h5⟩ := frB_iff.1 h2
    obtain ⟨h6, h7⟩ := frB_iff.1 h3
    obtain ⟨k, rfl⟩ := Int.eq_ofNat_of_zero_le h4
    obtain ⟨N, rfl⟩ := Int.eq_ofNat_of_zero_le h6
    have hkm : k < m := by rw [← HN.out]; simp only at h5; omega
    have hkL : k < L.length := by rw [HN.out]; exact hkm
    have hyy : y = itD k N ⟨L, P, l⟩ := hy
    have HY := Lib.hid hyy
    have HK := Lib.hid hok
    clear hok hy hyy
    have H1 := Lib.hid h1
    have H2 := Lib.hid h2
    have H3 := Lib.hid h3
    clear h1 h2 HCM h3
    with_reducible refine (check_p HX1.out hs H1.out).mono ?_
    rintro e2 w2 ⟨rfl, g2⟩
    have HO2 := Lib.hid (HO1.out.grew g2)
    have HX2 := Lib.hid (HX1.out.grew g2)
    have HP2 := Lib.hid (HP1.out.grew g2)
    have HR2 := Lib.hid (HR1.out.grew g2)
    have HG2 := Lib.hid (HG1.out.trans g2)
    have HQ2 := Lib.hid (HQ1.out.grew g2)
    clear g2 m0 m1 m2 HP1 HR1 HG1 HQ1 HO1 HX1
    obtain ⟨m0, m1, m2, -⟩ := HO2.out.three
    go_wp2_with fail
    with_reducible refine (hasD_p HX2.out hs H2.out).mono ?_
    rintro e3 w3 ⟨rfl, g3⟩
    replace HP2 := Lib.hid (HP2.out.grew g3)
    replace HR2 := Lib.hid (HR2.out.grew g3)
    replace HG2 := Lib.hid (HG2.out.trans g3)
    replace HQ2 := Lib.hid (HQ2.out.grew g3)
    clear g3 m0 m1 m2 HO2 HX2
    obtain ⟨k0, k1, k2, k3, k4, k5⟩ := HP2.out.three
    obtain ⟨q0, q1, q2, -⟩ := HQ2.out.three
    go_wp2_with fail
    with_reducible refine (isWithin_p H3.out).mono ?_
    rintro e4 w4 ⟨rfl, rfl⟩
    obtain ⟨h', rfl⟩ : ∃ h', a1 = some ⟨h', 0, none⟩ := by
      obtain ⟨g, e, -⟩ := HR2.out.atI.2 k hkm
      exact ⟨g, e⟩
    have hh : w.heap.size + 2 ≤ h' := HR2.out.above h' rfl
    have hh1 : h' < w1.heap.size := hrl h' rfl
    clear hrl q0 q1 q2 k0 k1 k2 k3 k4 k5
    generalize w1.heap.size = g at *
    have hgh : g ≠ h' := by omega
    go_wp2_with fail
    go_loopw [26] (fun iv wr => ∃ i : Nat, iv = .int .i64 i ∧ i ≤ N ∧ Own wr g 27 #[.slice (some ⟨h', 0, none⟩) m c1, .int .i64 P, .int .i64 (itD k i ⟨L, P, l⟩).l] ∧ RowE 3 1 enc1 wr (w.heap.size + 2) (.slice (some ⟨h', 0, none⟩) m c1) (itD k i ⟨L, P, l⟩).e ∧ Two g h' w3 wr) (fun iv _ => N - (intOf iv).toNat)
    case atStart => exact ⟨0, rfl, by omega, HQ2.out, HR2.out, Two.refl _ _ _⟩
    case round =>
      obtain ⟨i, rfl, hi, O, R, T⟩ := hrel
      obtain ⟨wo, rfl⟩ : ∃ wo : World, wo = wr := ⟨_, rfl⟩
      have HT := Lib.hid T
      have HP3 := Lib.hid (HP2.out.two' T (by omega) (by omega))
      have HG3 := Lib.hid (HG2.out.two T (by omega) (by omega))
      by_cases hlt : i < N
      · have hzk := Lib.hid (it_ok i HK.out hkL)
        have hzp := it_p k i ⟨L, P, l⟩
        have HS := Lib.hid (it_s k i ⟨L, P, l⟩)
        obtain ⟨⟨Lz, Pz, lz⟩, hz⟩ : ∃ z, itD k i ⟨L, P, l⟩ = z := ⟨_, rfl⟩
        rw [hz] at O R hzk hzp HS
        obtain ⟨rfl, -⟩ := hzp
        simp only at O R
        have HO2 := Lib.hid O
        have HR3 := Lib.hid R
        have hi0 : (0 : Int) ≤ (i : Int) := by omega
        have hi1 : (i : Int) < (N : Int) := by omega
        clear O R T hz
        go_wp2_with fail
        with_reducible refine (cntP_p HO2.out HR3.out hgh hkm hzk.out).mono ?_
        rintro e5 w5 ⟨rfl, O5, R5, T5⟩
        rw [← HS.out] at O5 R5
        have HO5 := Lib.hid O5
        have HR5 := Lib.hid R5
        have HT5 := Lib.hid (HT.out.trans T5)
        clear O5 R5 T5
        go_wp2
        exact ⟨⟨i + 1, by go_num, by omega, HO5.out, HR5.out, HT5.out⟩, by simp [intOf] <;> omega⟩
      · obtain rfl : i = N := by omega
        rw [← HY.out] at O R
        have HYP : Hid (y.p = P) := Lib.hid (by rw [HY.out]; exact (it_p _ _ _).1)
        have HYN : Hid (y.e.length = m) := Lib.hid (by rw [HY.out]; exact (it_p _ _ _).2.trans HN.out)
        obtain ⟨Ly, Py, ly⟩ := y
        obtain rfl : Py = P := HYP.out
        simp only at O R HYN
        have HR3 := Lib.hid R
        obtain ⟨q0, q1, q2, -⟩ := O.three
        obtain ⟨k0, k1, k2, k3, k4, k5⟩ := HP3.out.three
        clear O R T
        go_wp2
        generalize hw : World.setCell (World.setCell (World.setCell wo _ _) _ _) _ _ = E
        obtain ⟨b0, b1, b2, -⟩ := (HP3.out.store3 hw).three
        refine bodyPost_ret (v := .tuple #[.agg #[.slice (some ⟨h', 0, none⟩) m c1, .int .i64 Py, .int .i64 ly], .int .i64 0]) (by simp [results, Try.results11, go_sem, b0, b1, b2]) rfl ?_
        exact ⟨_, rfl, pd_end (x := ⟨Ly, Py, ly⟩) (HR3.out.far3 hw (by omega)) HYN.out (by omega), HG3.out.far3 hw (by omega)⟩
end Go.Proofs.Ytjeelciijfpdiaa
