/- Drawn descriptors (layer 18): they need not be right. mkdm2.py writes this text out of dm2.base. -/
import Derived.Test.YtokijggckiidjaaDm1
import Derived.Deep.CutBlock
namespace Go.Mine
open Go Go.RowKit
section
variable {To Ts Ti : TypeId} {w w' : World} {B : Nat} {a b v : Value} {G C : Nat → Nat} {d : Dd} {T : List (List Int)}
theorem DdK.atG {g n c : Nat} (h : DdK To Ts Ti w B (.slice (some ⟨g, 0, none⟩) n c) b G C d) {k : Nat} (hk : k < d.o.length) : B ≤ g ∧ g < w.heap.size ∧
    w.cell? ⟨g, k * 5, none⟩ = some (.int .i64 (d.o.getD k zDs).f) ∧ w.cell? ⟨g, k * 5 + 1, none⟩ = some (.int .i64 (d.o.getD k zDs).g) ∧ w.cell? ⟨g, k * 5 + 2, none⟩ = some (.int .i64 (d.o.getD k zDs).o) ∧
    w.cell? ⟨g, k * 5 + 3, none⟩ = some (.int .i64 (d.o.getD k zDs).c) ∧ w.cell? ⟨g, k * 5 + 4, none⟩ = some (.int .i64 (d.o.getD k zDs).r) ∧ ∀ j, w.frozen? ⟨g, j, none⟩ = false := by
  obtain ⟨g', e, h1⟩ := h.atO hk
  injection e with e
  injection e with e
  subst e
  exact h1
theorem TbK.atG {g n c : Nat} (h : TbK Ts Ti w B (.slice (some ⟨g, 0, none⟩) n c) G C T) {k : Nat} (hk : k < T.length) : B ≤ g ∧ g < w.heap.size ∧ w.cell? ⟨g, k, none⟩ = some (slV (G k) (T.getD k []).length (C k)) ∧ w.frozen? ⟨g, k, none⟩ = false := by
  obtain ⟨g', e, h1⟩ := h.at_ hk
  injection e with e
  injection e with e
  subst e
  exact h1
/-- What has been copied of made descriptors: i tables. -/
structure CpX (w1 : World) (T To Ts Ti : TypeId) (a b a' : Value) (g3 : Nat) (d : Dd) (i : Nat) (v : Value) (G C : Nat → Nat) (wr : World) : Prop where
  dbox : Own wr w1.heap.size T #[a, b]
  box : Own wr g3 T #[a', v]
  o : RowE To 5 encDs wr (w1.heap.size + 1) a' d.o
  ob : ∀ x, a'.ownBlock = some x → x < g3
  t : TbK Ts Ti wr (g3 + 1) v G C (d.t.take i)
  g : Grew w1 wr
  g3 : w1.heap.size + 1 ≤ g3
theorem cpX_next {w wo W8 w9 : World} {T To Ts Ti : TypeId} {a b a' : Value} {g3 : Nat} {d : Dd} {i g7 c7 g9 n9 cap9 : Nat} {v : Value} {G C : Nat → Nat} (h : CpX w T To Ts Ti a b a' g3 d i v G C wo) (hi : i < d.t.length) (h16 : (d.t.getD i []).length = 16)
    (hg : Grew wo W8) (hr : RowE Ti 1 enc1 W8 wo.heap.size (slV g7 16 c7) (d.t.getD i [])) (r9 : RowE Ts 1 eV w9 (g3 + 1) (slV g9 n9 cap9) (slL G C (d.t.take i) ++ [slV g7 16 c7])) (G9 : W8.grownBy w9 v.ownBlock) (o9 : v.ownBlock = some g9 ∨ g9 = W8.heap.size) :
    ∃ G' C', CpX w T To Ts Ti a b a' g3 d (i + 1) (slV g9 n9 cap9) G' C' (w9.setCell ⟨g3, 1, none⟩ (slV g9 n9 cap9)) := by
  have hg7 : wo.heap.size ≤ g7 := hr.above _ rfl
  have hbx := h.box.lt
  have hs := hg.size
  have hva := fun x (e : v.ownBlock = some x) => h.t.row.above x e
  have t5 := (h.t.grew hg).snoc (hr.wider (by omega)) h16.symm (fun e => by have := h.t.row.lt _ e; omega) (fun k hk e => by have := (h.t.above hk).2; omega) r9 G9 (fun x e => by
    have e2 : some g9 = some x := e
    injection e2 with e2
    subst e2
    rcases o9 with o5 | o5
    · exact .inl o5
    · exact .inr (by omega))
  rw [← take_getD d.t i hi] at t5
  have hno : ∀ x, x ≤ g3 → v.ownBlock ≠ some x := fun x hx e => by have := hva x e; omega
  have h3 := h.g3
  refine ⟨_, _, ((h.dbox.grew hg).keptN G9 (hno _ (by omega))).far (p := ⟨g3, 1, none⟩) (by show w.heap.size ≠ g3; omega) _,
    ((h.box.grew hg).keptN G9 (hno _ (Nat.le_refl _))).set 1 _, ?_, h.ob, t5.past (grown_set (p := ⟨g3, 1, none⟩) (grown_refl w9 (some g3)) (.inl rfl) _) (Nat.lt_succ_self _), ?_, h3⟩
  · refine ((h.o.grew hg).keptG G9 (fun x e e2 => ?_)).set (p := ⟨g3, 1, none⟩) (fun e => ?_) _
    · have := hva x e; have := h.ob x e2; omega
    · have := h.ob _ e
      have e3 : (⟨g3, 1, none⟩ : Addr).block = g3 := rfl
      omega
  · have gw : Grew w w9 := Grew.keptA (B := g3 + 1) (h.g.trans hg) G9 hva (by omega)
    exact gw.set (p := ⟨g3, 1, none⟩) (by show w.heap.size ≤ g3; omega) _
/-- The copy, to be changed; a result's box, a tape. -/
structure DwW (w : World) (T To Ts Ti : TypeId) (B b Bk go : Nat) (a v : Value) (G C : Nat → Nat) (d : Dd) (wr : World) : Prop where
  res : Own wr w.heap.size T #[.slice none 0 0, .slice none 0 0]
  box : Own wr go T #[a, v]
  k : DdK To Ts Ti wr Bk a v G C d
  no : NoD a v G d.t.length go
  tp : Tp B wr b
  gr : w.grownBy wr (some b)
  lo : w.heap.size < Bk
  bo : Bk ≤ go
  hb : b < w.heap.size
  hB : B ≤ w.heap.size
/-- It has been changed. -/
structure DwF (w : World) (T : TypeId) (B b Bk go : Nat) (a v : Value) (d : Dd) (wr : World) : Prop where
  res : Own wr w.heap.size T #[.slice none 0 0, .slice none 0 0]
  box : Own wr go T #[a, v]
  dd : DdR wr Bk a v d
  tp : Tp B wr b
  gr : w.grownBy wr (some b)
  lo : w.heap.size < Bk
  hB : B ≤ w.heap.size
section
variable {w0 wr : World} {T : TypeId} {b' Bk go : Nat}
theorem DwW.next (h : DwW w0 T To Ts Ti B b' Bk go a v G C d wr) (t : Tp B w' b') (k : wr.grownBy w' (some b')) : DwW w0 T To Ts Ti B b' Bk go a v G C d w' :=
  have hb := h.hb
  have hl := h.lo
  have ho := h.bo
  ⟨h.res.past k (by omega), h.box.past k (by omega), h.k.keptG k (fun x e => by injection e with e; subst e; exact h.k.no_lo (by omega)), h.no, t, grown_trans h.gr k, h.lo, h.bo, h.hb, h.hB⟩
theorem DwW.drew (h : DwW w0 T To Ts Ti B b' Bk go a v G C d wr) : DwW w0 T To Ts Ti B b' Bk go a v G C d wr.drew := ⟨h.res.drew, h.box.drew, h.k.drew, h.no, h.tp.grew (Grew.refl wr).drew, grown_drew h.gr, h.lo, h.bo, h.hb, h.hB⟩
/-- One cell is stored. -/
theorem DwW.fin (h : DwW w0 T To Ts Ti B b' Bk go a v G C d wr) {x i : Nat} {u : Value} (hx : Bk ≤ x) (hne : go ≠ x) {d' : Dd} (D : DdR (wr.setCell ⟨x, i, none⟩ u) Bk a v d') : DwF w0 T B b' Bk go a v d' (wr.setCell ⟨x, i, none⟩ u) := by
  have hl := h.lo
  have hb := h.hb
  have hB := h.hB
  exact ⟨h.res.far (p := ⟨x, i, none⟩) (show w0.heap.size ≠ x by omega) _, h.box.far (p := ⟨x, i, none⟩) hne _, D, h.tp.set (p := ⟨x, i, none⟩) (show B ≤ x by omega) _, grown_set (p := ⟨x, i, none⟩) h.gr (.inr (show w0.heap.size ≤ x by omega)) _, h.lo, h.hB⟩
theorem DwW.same (h : DwW w0 T To Ts Ti B b' Bk go a v G C d wr) : DwF w0 T B b' Bk go a v d wr := ⟨h.res, h.box, h.k.dd, h.tp, h.gr, h.lo, h.hB⟩
theorem DwF.drew (h : DwF w0 T B b' Bk go a v d wr) : DwF w0 T B b' Bk go a v d wr.drew := ⟨h.res.drew, h.box.drew, h.dd.grew (Grew.refl wr).drew, h.tp.grew (Grew.refl wr).drew, grown_drew h.gr, h.lo, h.hB⟩
/-- One more description. -/
theorem DwW.app (h : DwW w0 T To Ts Ti B b' Bk go a v G C d wr) {W wx : World} (gW : Grew wr W) {y : Ds} {g' n' c' : Nat} (hr : RowE To 5 encDs wx Bk (.slice (some ⟨g', 0, none⟩) n' c') (d.o ++ [y])) (g : W.grownBy wx a.ownBlock) (ho : a.ownBlock = some g' ∨ g' = W.heap.size) :
    DwF w0 T B b' Bk go (.slice (some ⟨g', 0, none⟩) n' c') v ⟨d.t, d.o ++ [y]⟩ (wx.setCell ⟨go, 0, none⟩ (.slice (some ⟨g', 0, none⟩) n' c')) := by
  have kW := h.k.grew gW
  have hb := (h.box.grew gW).lt
  have hl := h.lo
  have hgo := h.bo
  have hB := h.hB
  have hbb := h.hb
  have hab := fun x (e : a.ownBlock = some x) => kW.o.above x e
  have ho' : ∀ x, (Value.slice (some ⟨g', 0, none⟩) n' c').ownBlock = some x → a.ownBlock = some x ∨ W.heap.size ≤ x := fun x e => by
    have e2 : some g' = some x := e
    injection e2 with e2
    subst e2
    rcases ho with ho | ho
    · exact .inl ho
    · exact .inr (by omega)
  have hne : g' ≠ go := fun e => by
    rcases ho with ho | ho
    · exact h.no.a (by rw [ho, e])
    · omega
  have k2 := kW.app hr g ho'
  have hno : NoD (.slice (some ⟨g', 0, none⟩) n' c') v G d.t.length go := ⟨fun e => by
    have e2 : some g' = some go := e
    injection e2 with e2
    exact hne e2, h.no.b, h.no.g⟩
  have gW' : wr.grownBy W (some b') := ⟨gW.grown.os, gW.grown.tape, gW.grown.output, gW.grown.size, fun i hi _ => gW.grown.block i hi (by simp)⟩
  have hszr : w0.heap.size ≤ W.heap.size := Nat.le_trans h.gr.size gW.size
  exact ⟨((h.res.grew gW).keptN g (fun e => by have := hab _ e; omega)).far (p := ⟨go, 0, none⟩) (show w0.heap.size ≠ go by omega) _, ((h.box.grew gW).keptN g h.no.a).set 0 _, (k2.put hno 0 _).dd, ((h.tp.grew gW).keptA g (B := Bk) hab (by omega)).set (p := ⟨go, 0, none⟩) (show B ≤ go by omega) _,
    grown_set (p := ⟨go, 0, none⟩) (grown_above (grown_trans h.gr gW') g (fun x e => by have := hab x e; omega)) (.inr (show w0.heap.size ≤ go by omega)) _, h.lo, h.hB⟩
end
/-- A table is cut short at its beginning. -/
theorem DdK.short {g n c : Nat} (h : DdK To Ts Ti w B a (.slice (some ⟨g, 0, none⟩) n c) G C d) (h0 : 0 < d.t.length) (hlen : (d.t.getD 0 []).length = 16) : DdR (w.setCell ⟨g, 0, none⟩ (.slice (some ⟨G 0, 1, none⟩) 15 (C 0 - 1))) B a (.slice (some ⟨g, 0, none⟩) n c) ⟨d.t.set 0 ((d.t.getD 0 []).drop 1), d.o⟩ := by
  have hr := h.t.row
  obtain ⟨a2, c2, e⟩ := hr.len
  injection e with e1 e2 e3
  rw [e2] at hr
  have hl : (slL G C d.t).length = d.t.length := slL_len _ _ _
  have hk0 : 0 < (slL G C d.t).length := by omega
  have hst := RowE.stored hr 0 (.slice (some ⟨G 0, 1, none⟩) 15 (C 0 - 1)) (L' := (slL G C d.t).set 0 (.slice (some ⟨G 0, 1, none⟩) 15 (C 0 - 1))) (List.length_set ..) (by
    have := fm_setZ eV_len (slL G C d.t) 0 hk0 0 (.slice (some ⟨G 0, 1, none⟩) 15 (C 0 - 1)) (.slice (some ⟨G 0, 1, none⟩) 15 (C 0 - 1)) (by omega) rfl
    exact this)
  have hg : w.grownBy (w.setCell ⟨g, 0, none⟩ (.slice (some ⟨G 0, 1, none⟩) 15 (C 0 - 1))) (some g) := grown_set (p := ⟨g, 0, none⟩) (grown_refl w (some g)) (.inl rfl) _
  have hinn : ∀ k, k < d.t.length → RowE Ti 1 enc1 (w.setCell ⟨g, 0, none⟩ (.slice (some ⟨G 0, 1, none⟩) 15 (C 0 - 1))) B (slV (G k) (d.t.getD k []).length (C k)) (d.t.getD k []) := fun k hk =>
    (h.t.inn k hk).keptG hg (fun x e e2 => by injection e with e; subst e; exact h.t.far k hk e2.symm)
  refine ⟨RowE.rdS encDs_len (h.o.keptG hg (fun x e e2 => by injection e with e; subst e; exact h.s1 _ e2 rfl)), (slL G C d.t).set 0 (.slice (some ⟨G 0, 1, none⟩) 15 (C 0 - 1)), ?_, by simp [hl], fun k hk => ?_⟩
  · rw [e2]; exact RowE.rdS eV_len hst
  · have hk2 : k < d.t.length := by have : k < (d.t.set 0 _).length := hk; rwa [List.length_set] at this
    by_cases e0 : k = 0
    · subst e0
      have r0 := RdS.drop (RowE.rdS enc1_len (hinn 0 h0)) (k := 1) (by rw [hlen]; omega)
      rw [hlen] at r0
      have e4 : ((slL G C d.t).set 0 (.slice (some ⟨G 0, 1, none⟩) 15 (C 0 - 1))).getD 0 nilV = .slice (some ⟨G 0, 1, none⟩) 15 (C 0 - 1) := by simp [List.getD, hk0]
      have e5 : (d.t.set 0 ((d.t.getD 0 []).drop 1)).getD 0 [] = (d.t.getD 0 []).drop 1 := by simp [List.getD, h0]
      rw [e4]
      show RdS 1 enc1 _ B _ ((d.t.set 0 ((d.t.getD 0 []).drop 1)).getD 0 [])
      rw [e5]
      exact r0
    · have e4 : ((slL G C d.t).set 0 (.slice (some ⟨G 0, 1, none⟩) 15 (C 0 - 1))).getD k nilV = slV (G k) (d.t.getD k []).length (C k) := by
        rw [← slL_at hk2 (G := G) (C := C)]
        simp only [List.getD]
        rw [List.getElem?_set, if_neg (by omega)]
      have e5 : (d.t.set 0 ((d.t.getD 0 []).drop 1)).getD k [] = d.t.getD k [] := by
        simp only [List.getD]
        rw [List.getElem?_set, if_neg (by omega)]
      rw [e4]
      show RdS 1 enc1 _ B _ ((d.t.set 0 ((d.t.getD 0 []).drop 1)).getD k [])
      rw [e5]
      exact RowE.rdS enc1_len (hinn k hk2)
end
/-- Small enough. -/
structure SmD (d : Dd) : Prop where
  o : d.o.length ≤ 1000
  t1 : 1 ≤ d.t.length
  t3 : d.t.length ≤ 3
  r : ∀ p, p < d.t.length → (d.t.getD p []).length ≤ 1000
theorem shortD_le {T : List (List Int)} {p n : Nat} (h0 : (T.getD 0 []).length ≤ n) (hp : (T.getD p []).length ≤ n) : ((T.set 0 ((T.getD 0 []).drop 1)).getD p []).length ≤ n := by
  simp only [List.getD]
  rw [List.getElem?_set]
  split
  · split
    · simp only [Option.getD_some, List.length_drop]
      simp only [List.getD] at h0
      omega
    · simp
  · exact hp
theorem shortD_sm {d : Dd} (h : SmD d) (h0 : 0 < d.t.length) : SmD ⟨d.t.set 0 ((d.t.getD 0 []).drop 1), d.o⟩ := by
  refine ⟨h.o, ?_, ?_, fun p hp => ?_⟩
  · show 1 ≤ (List.set _ _ _).length; rw [List.length_set]; exact h.t1
  · show (List.set _ _ _).length ≤ 3; rw [List.length_set]; exact h.t3
  · have hp2 : p < d.t.length := by
      have h3 : p < (d.t.set 0 ((d.t.getD 0 []).drop 1)).length := hp
      rwa [List.length_set] at h3
    exact shortD_le (h.r 0 h0) (h.r p hp2)
/-- Drawn descriptors. -/
def RetDd (B b : Nat) (w : World) (e : Ending) (w' : World) : Prop := ∃ a v d, e = .returned (.agg #[a, v]) ∧ SmD d ∧ DdP w' (fun x => w.heap.size ≤ x) a v d ∧ Tp B w' b ∧ w.grownBy w' (some b)
end Go.Mine
namespace Go.Proofs.Ytokijggckiidjaa
open Go.ChangeShapes Go.WideShapes Go.ChangeAt Go.RowKit Go.Mine
set_option maxRecDepth 100000 in
set_option maxHeartbeats 16000000 in
theorem drawn_x {B b : Nat} {w : World} (tp : Tp B w b) (hbw : B ≤ w.heap.size) : Calls Try.prog 7 #[.pointer (some ⟨b, 0, none⟩)] w (RetDd B b w) := by
  have hb := tp.ltB
  have T0 := tp.alloc (.cells #[.slice none 0 0, .slice none 0 0] 29)
  have R0 := Mine.Own.new w 29 #[.slice none 0 0, .slice none 0 0]
  have G0 : w.grownBy (w.alloc (.cells #[.slice none 0 0, .slice none 0 0] 29)) (some b) := grown_alloc (grown_refl _ _) _
  have hB0 : B ≤ (w.alloc (.cells #[.slice none 0 0, .slice none 0 0] 29)).heap.size := by simp; omega
  clear tp
  go_enter Try.func7, Try.ntmps7
  go_wp2_with fail
  with_reducible refine (made_x T0 hB0).mono ?_
  rintro e w1 ⟨a, v, d, rfl, ok, t3, D1, T1, g1⟩
  have R1 := R0.past g1 (by omega)
  have G1 := grown_trans G0 g1
  obtain ⟨a1, ca, rfl, -, -⟩ := D1.rd.o.slice
  obtain ⟨b1, cb, rfl, -, -⟩ := D1.rd.t.slice
  obtain ⟨m, hm⟩ : ∃ m, d.o.length = m := ⟨_, rfl⟩
  obtain ⟨N, hN⟩ : ∃ N, d.t.length = N := ⟨_, rfl⟩
  have HM := Lib.hid hm
  have HN := Lib.hid hN
  have HOK := Lib.hid ok
  have h128 := ok.o
  have ht1 := ok.t1
  rw [hm] at D1 h128 ⊢
  rw [hN] at D1 t3 ht1 ⊢
  have H16 := Lib.hid ok.t
  have HR1 := Lib.hid R1
  have HT1 := Lib.hid T1
  have HG1 := Lib.hid G1
  have hR1 := R1.lt
  have D2 := (D1.grew ((Grew.refl w1).alloc (.cells #[.slice a1 m ca, .slice b1 N cb] 29))).rd
  have B2 := Mine.Own.new w1 29 #[.slice a1 m ca, .slice b1 N cb]
  have g2 := (Grew.refl w1).alloc (.cells #[.slice a1 m ca, .slice b1 N cb] 29)
  have hsz : w1.heap.size + 1 ≤ (w1.alloc (.cells #[.slice a1 m ca, .slice b1 N cb] 29)).heap.size := by simp
  obtain ⟨x0, x1, x2, x3⟩ := B2.two
  have HL := Lib.hid (RdS.lies encDs_len D2.o).2.2
  have HD := Lib.hid B2
  have HG := Lib.hid g2
  have HDD := Lib.hid D1.rd
  have hl6 : ([] : List Ds).length + d.o.length < 1000000 := by rw [HM.out]; simp only [List.length_nil]; omega
  clear T0 R0 G0 hB0 ok D1 T1 g1 R1 G1 hm hN D2 B2 g2
  go_upto_region 2 with fail
  go_wp2_with (at_builtin; go_loud (
    refine wpList_append_src _ rfl _ _ 26 rfl (w1.heap.size + 1) info_desc Try.underlying26 (by decide) (by decide) encDs_len (fun z => encDs_one) _ [] rfl (RowE.nil _ _) _ _ _ d.o rfl HM.out.symm HL.out hl6 (by decide) hsz ?_
    intro v1 w2 R1 G1 o1
    have HG2 := Lib.hid (below_of_grown G1)
    rw [List.nil_append] at R1
    have HR2 := Lib.hid R1
    clear G1 o1 R1
    obtain ⟨a2, c2, rfl⟩ := HR2.out.len
    rw [HM.out]))
  have HW : Hid (CpX w1 29 34 22 3 (.slice a1 m ca) (.slice b1 N cb) (.slice a2 m c2) w2.heap.size d 0 (.slice none 0 0) (fun _ => 0) (fun _ => 0) (w2.alloc (.cells #[.slice a2 m c2, .slice none 0 0] 29))) := Lib.hid (by
    have hs := HG2.out.size
    have ho := HR2.out
    rw [HM.out] at ho
    exact ⟨(HD.out.grew HG2.out).alloc _, Mine.Own.new w2 _ _, ho.alloc _, fun x e => ho.lt x e, TbK.nil _ _, (HG.out.trans HG2.out).alloc _, Nat.le_trans hsz hs⟩)
  generalize w2.alloc _ = w3 at *
  generalize w2.heap.size = g3 at *
  clear x0 x1 x2 x3 HL HD HG HG2 HR2 hsz hl6
  go_loopw [5] (fun iv wr => ∃ (i : Nat) (v : Value) (G C : Nat → Nat), iv = .int .i64 i ∧ i ≤ N ∧ CpX w1 29 34 22 3 (.slice a1 m ca) (.slice b1 N cb) (.slice a2 m c2) g3 d i v G C wr) (fun iv _ => N - (intOf iv).toNat)
  case atStart => exact ⟨0, _, _, _, rfl, Nat.zero_le _, HW.out⟩
  case round =>
    clear HW
    obtain ⟨i, v, G, C, rfl, hi, W⟩ := hrel
    obtain ⟨wo, rfl⟩ : ∃ wo : World, wo = wr := ⟨_, rfl⟩
    obtain ⟨av, cv, hv⟩ := W.t.slice
    rw [List.length_take, Nat.min_eq_left (by rw [HN.out]; exact hi)] at hv
    subst hv
    obtain ⟨x0, x1, x2, x3⟩ := W.dbox.two
    by_cases hlt : i < N
    · have hi0 : (0 : Int) ≤ (i : Int) := by omega
      have hi1 : (i : Int) < (N : Int) := by omega
      have hit : i < d.t.length := by rw [HN.out]; exact hlt
      have HIT := Lib.hid hit
      have HR16 := Lib.hid (H16.out i hit)
      obtain ⟨gb, ob, ta, tc, rfl, -, hgb, c0, RT⟩ := (HDD.out.t.grew W.g).at_ hit
      have HRL := Lib.hid (RdS.lies enc1_len RT).2.2
      rw [HR16.out] at c0
      obtain ⟨y0, y1, y2, y3⟩ := W.box.two
      have HW := Lib.hid W
      have hr6 : ([] : List Int).length + (d.t.getD i []).length < 1000000 := by rw [HR16.out]; decide
      have hx6 : (slL G C (d.t.take i)).length < 1000000 := by rw [slL_len, List.length_take]; omega
      have hvb : ¬(Value.slice av i cv).ownBlock = some g3 := fun e => by have := W.t.row.above _ e; omega
      have h3w := W.box.lt
      clear RT W
      go_upto_region 6 with fail
      refine wp_region_any (by kernel_rfl) ?_
      refine wpAny_take (i := 0) (oi := ⟨some 19, _, _, _, _, _⟩) (v := ?vvn1) rfl (by kernel_rfl) (by kernel_rfl) (by kernel_rfl) (fun _ _ _ h => h) (Or.inl ⟨by rfl, ?yyn1⟩) ?rrn1
      case yyn1 => (intro w; go_simp; (try with_reducible rfl))
      try simp only [Act.put, List.setIfInBounds_toArray, List.set_cons_zero, List.set_cons_succ]
      refine wpAny_take (i := 2) (oi := ⟨some 21, _, _, _, _, _⟩) (v := ?vvn2) rfl (by kernel_rfl) (by kernel_rfl) (by kernel_rfl) (fun _ _ _ h => h) (Or.inl ⟨by rfl, ?yyn2⟩) ?rrn2
      case yyn2 => (intro w; go_simp; (try with_reducible rfl))
      try simp only [Act.put, List.setIfInBounds_toArray, List.set_cons_zero, List.set_cons_succ]
      refine wpAny_take (i := 4) (oi := ⟨some 23, _, _, _, _, _⟩) (v := ?vvn3) rfl (by kernel_rfl) (by kernel_rfl) (by kernel_rfl) (fun _ _ _ h => h) (Or.inl ⟨by rfl, ?yyn3⟩) ?rrn3
      case yyn3 => (intro w; go_simp; (try with_reducible rfl))
      try simp only [Act.put, List.setIfInBounds_toArray, List.set_cons_zero, List.set_cons_succ]
      refine wpAny_ready (rs := [1, 3]) (by kernel_rfl) (by simp) ?_
      refine AllReady.cons (o := ⟨some 20, _, _, _, _, _⟩) rfl (fun K hK => ?stn4_0) (AllReady.cons (o := ⟨some 22, _, _, _, _, _⟩) rfl (fun K hK => ?stn4_1) AllReady.nil)
      case stn4_0 =>
        go_simp
        refine hK _ _ ?_
        clear hK K
        try simp only [Act.put, List.setIfInBounds_toArray, List.set_cons_zero, List.set_cons_succ]
        refine wpAny_ready (rs := [3]) (by kernel_rfl) (by simp) ?_
        refine AllReady.cons (o := ⟨some 22, _, _, _, _, _⟩) rfl (fun K hK => ?stn5_0) AllReady.nil
        case stn5_0 =>
          go_simp
          refine hK _ _ ?_
          clear hK K
          try simp only [Act.put, List.setIfInBounds_toArray, List.set_cons_zero, List.set_cons_succ]
          refine wpAny_take (i := 5) (oi := ⟨some 24, _, _, _, _, _⟩) (v := ?vvn6) rfl (by kernel_rfl) (by kernel_rfl) (by kernel_rfl) (fun _ _ _ h => h) (Or.inl ⟨by rfl, ?yyn6⟩) ?rrn6
          case yyn6 => (intro w; go_simp; (try with_reducible rfl))
          try simp only [Act.put, List.setIfInBounds_toArray, List.set_cons_zero, List.set_cons_succ]
          refine wpAny_ready (rs := [6]) (by kernel_rfl) (by simp) ?_
          refine AllReady.cons (o := ⟨some 25, _, _, _, _, _⟩) rfl (fun K hK => ?stn7_0) AllReady.nil
          case stn7_0 =>
            go_simp
            refine hK _ _ ?_
            clear hK K
            try simp only [Act.put, List.setIfInBounds_toArray, List.set_cons_zero, List.set_cons_succ]
            refine wpAny_ready (rs := [7]) (by kernel_rfl) (by simp) ?_
            refine AllReady.cons (o := ⟨some 26, _, _, _, _, _⟩) rfl (fun K hK => ?stn8_0) AllReady.nil
            case stn8_0 =>
              refine step_append_src (w := wo.drew) (by rfl) (.const (.slice none 0 0)) (.tmp 25) 22 (by rfl) wo.heap.size info_int Try.underlying22 (by decide) (by decide) enc1_len (fun z => enc1_one) (.slice none 0 0) [] (by rfl) (RowE.nil _ _) ta 16 tc (d.t.getD i []) (by rfl) HR16.out.symm HRL.out hr6 (by decide) (Nat.le_refl _) ?_
              intro v7 w7 R7 G7 o7
              obtain ⟨g7, c7, rfl, hg7, hg7s, R7⟩ := app_row R7 HR16.out
              have g77 : Grew wo w7 := ((Grew.refl wo).drew).trans (below_of_grown G7)
              have HGA := Lib.hid (g77.alloc (.cells #[slV g7 16 c7] 22))
              have HRR := Lib.hid (R7.alloc (.cells #[slV g7 16 c7] 22))
              have HT8 := Lib.hid (HW.out.t.grew HGA.out)
              have HB8 := Lib.hid (HW.out.box.grew HGA.out)
              have HN8 := Lib.hid (Mine.Own.new w7 22 #[slV g7 16 c7])
              have hz8 : g3 + 1 ≤ (w7.alloc (.cells #[slV g7 16 c7] 22)).heap.size := HB8.out.lt
              obtain ⟨k0, k1, k2, k3⟩ := (HW.out.box.grew g77).two
              obtain ⟨l0, l1, l2, l3⟩ := HB8.out.two
              clear G7 o7 R7 g77
              refine hK _ _ ?_
              clear hK K
              try simp only [Act.put, List.setIfInBounds_toArray, List.set_cons_zero, List.set_cons_succ]
              refine wpAny_ready (rs := [8]) (by kernel_rfl) (by simp) ?_
              refine AllReady.cons (o := ⟨some 27, _, _, _, _, _⟩) rfl (fun K hK => ?stn9_0) AllReady.nil
              case stn9_0 =>
                go_simp
                refine hK _ _ ?_
                clear hK K
                try simp only [Act.put, List.setIfInBounds_toArray, List.set_cons_zero, List.set_cons_succ]
                refine wpAny_ready (rs := [9]) (by kernel_rfl) (by simp) ?_
                refine AllReady.cons (o := ⟨some 28, _, _, _, _, _⟩) rfl (fun K hK => ?stn10_0) AllReady.nil
                case stn10_0 =>
                  refine step_append_row (w := w7.alloc (.cells #[slV g7 16 c7] 22)) (by rfl) (.tmp 20) (.tmp 27) 27 (by rfl) (g3 + 1) info_ints Try.underlying27 (by decide) (by decide) eV_len (.slice av i cv) (slL G C (d.t.take i)) (by rfl) HT8.out.row w7.heap.size 1 (slV g7 16 c7) (by rfl) HN8.out (fun u hu => by rw [List.mem_singleton.1 hu]; rfl) hx6 (by decide) hz8 ?_
                  intro g9 cap9 w9 R9 G9 o9
                  have HR9 := Lib.hid R9
                  have HG9 := Lib.hid G9
                  have Ho9 := Lib.hid o9
                  clear R9 G9 o9
                  obtain ⟨m0, m1, m2, m3⟩ := (HB8.out.keptN HG9.out (fun e => hvb e)).two
                  refine hK _ _ ?_
                  clear hK K
                  try simp only [Act.put, List.setIfInBounds_toArray, List.set_cons_zero, List.set_cons_succ]
                  refine wpAny_take (i := 10) (oi := ⟨some 29, _, _, _, _, _⟩) (v := ?vvn11) rfl (by kernel_rfl) (by kernel_rfl) (by kernel_rfl) (fun _ _ _ h => h) (Or.inl ⟨by rfl, ?yyn11⟩) ?rrn11
                  case yyn11 => (intro w; go_simp; (try with_reducible rfl))
                  try simp only [Act.put, List.setIfInBounds_toArray, List.set_cons_zero, List.set_cons_succ]
                  refine wpAny_ready (rs := [11]) (by kernel_rfl) (by simp) ?_
                  refine AllReady.cons (o := ⟨none, _, _, _, _, _⟩) rfl (fun K hK => ?stn12_0) AllReady.nil
                  case stn12_0 =>
                    go_simp
                    refine hK _ _ ?_
                    clear hK K
                    try simp only [Act.put, List.setIfInBounds_toArray, List.set_cons_zero, List.set_cons_succ]
                    refine wpAny_done (by kernel_rfl) ?_ _
                    (first | go_wp2_with fail | skip)
                    obtain ⟨G2, C2, W2⟩ := cpX_next HW.out HIT.out HR16.out HGA.out HRR.out HR9.out HG9.out Ho9.out
                    go_roundw
                    case rel => exact ⟨i + 1, _, G2, C2, by go_num, by omega, W2⟩
                    case measure => simp [intOf]; omega
      case stn4_1 =>
        go_simp
        refine hK _ _ ?_
        clear hK K
        try simp only [Act.put, List.setIfInBounds_toArray, List.set_cons_zero, List.set_cons_succ]
        refine wpAny_take (i := 5) (oi := ⟨some 24, _, _, _, _, _⟩) (v := ?vvn13) rfl (by kernel_rfl) (by kernel_rfl) (by kernel_rfl) (fun _ _ _ h => h) (Or.inl ⟨by rfl, ?yyn13⟩) ?rrn13
        case yyn13 => (intro w; go_simp; (try with_reducible rfl))
        try simp only [Act.put, List.setIfInBounds_toArray, List.set_cons_zero, List.set_cons_succ]
        refine wpAny_ready (rs := [1, 6]) (by kernel_rfl) (by simp) ?_
        refine AllReady.cons (o := ⟨some 20, _, _, _, _, _⟩) rfl (fun K hK => ?stn14_0) (AllReady.cons (o := ⟨some 25, _, _, _, _, _⟩) rfl (fun K hK => ?stn14_1) AllReady.nil)
        case stn14_0 =>
          go_simp
          refine hK _ _ ?_
          clear hK K
          try simp only [Act.put, List.setIfInBounds_toArray, List.set_cons_zero, List.set_cons_succ]
          refine wpAny_ready (rs := [6]) (by kernel_rfl) (by simp) ?_
          refine AllReady.cons (o := ⟨some 25, _, _, _, _, _⟩) rfl (fun K hK => ?stn15_0) AllReady.nil
          case stn15_0 =>
            go_simp
            refine hK _ _ ?_
            clear hK K
            try simp only [Act.put, List.setIfInBounds_toArray, List.set_cons_zero, List.set_cons_succ]
            refine wpAny_ready (rs := [7]) (by kernel_rfl) (by simp) ?_
            refine AllReady.cons (o := ⟨some 26, _, _, _, _, _⟩) rfl (fun K hK => ?stn16_0) AllReady.nil
            case stn16_0 =>
              refine step_append_src (w := wo.drew) (by rfl) (.const (.slice none 0 0)) (.tmp 25) 22 (by rfl) wo.heap.size info_int Try.underlying22 (by decide) (by decide) enc1_len (fun z => enc1_one) (.slice none 0 0) [] (by rfl) (RowE.nil _ _) ta 16 tc (d.t.getD i []) (by rfl) HR16.out.symm HRL.out hr6 (by decide) (Nat.le_refl _) ?_
              intro v7 w7 R7 G7 o7
              obtain ⟨g7, c7, rfl, hg7, hg7s, R7⟩ := app_row R7 HR16.out
              have g77 : Grew wo w7 := ((Grew.refl wo).drew).trans (below_of_grown G7)
              have HGA := Lib.hid (g77.alloc (.cells #[slV g7 16 c7] 22))
              have HRR := Lib.hid (R7.alloc (.cells #[slV g7 16 c7] 22))
              have HT8 := Lib.hid (HW.out.t.grew HGA.out)
              have HB8 := Lib.hid (HW.out.box.grew HGA.out)
              have HN8 := Lib.hid (Mine.Own.new w7 22 #[slV g7 16 c7])
              have hz8 : g3 + 1 ≤ (w7.alloc (.cells #[slV g7 16 c7] 22)).heap.size := HB8.out.lt
              obtain ⟨k0, k1, k2, k3⟩ := (HW.out.box.grew g77).two
              obtain ⟨l0, l1, l2, l3⟩ := HB8.out.two
              clear G7 o7 R7 g77
              refine hK _ _ ?_
              clear hK K
              try simp only [Act.put, List.setIfInBounds_toArray, List.set_cons_zero, List.set_cons_succ]
              refine wpAny_ready (rs := [8]) (by kernel_rfl) (by simp) ?_
              refine AllReady.cons (o := ⟨some 27, _, _, _, _, _⟩) rfl (fun K hK => ?stn17_0) AllReady.nil
              case stn17_0 =>
                go_simp
                refine hK _ _ ?_
                clear hK K
                try simp only [Act.put, List.setIfInBounds_toArray, List.set_cons_zero, List.set_cons_succ]
                refine wpAny_ready (rs := [9]) (by kernel_rfl) (by simp) ?_
                refine AllReady.cons (o := ⟨some 28, _, _, _, _, _⟩) rfl (fun K hK => ?stn18_0) AllReady.nil
                case stn18_0 =>
                  refine step_append_row (w := w7.alloc (.cells #[slV g7 16 c7] 22)) (by rfl) (.tmp 20) (.tmp 27) 27 (by rfl) (g3 + 1) info_ints Try.underlying27 (by decide) (by decide) eV_len (.slice av i cv) (slL G C (d.t.take i)) (by rfl) HT8.out.row w7.heap.size 1 (slV g7 16 c7) (by rfl) HN8.out (fun u hu => by rw [List.mem_singleton.1 hu]; rfl) hx6 (by decide) hz8 ?_
                  intro g9 cap9 w9 R9 G9 o9
                  have HR9 := Lib.hid R9
                  have HG9 := Lib.hid G9
                  have Ho9 := Lib.hid o9
                  clear R9 G9 o9
                  obtain ⟨m0, m1, m2, m3⟩ := (HB8.out.keptN HG9.out (fun e => hvb e)).two
                  refine hK _ _ ?_
                  clear hK K
                  try simp only [Act.put, List.setIfInBounds_toArray, List.set_cons_zero, List.set_cons_succ]
                  refine wpAny_take (i := 10) (oi := ⟨some 29, _, _, _, _, _⟩) (v := ?vvn19) rfl (by kernel_rfl) (by kernel_rfl) (by kernel_rfl) (fun _ _ _ h => h) (Or.inl ⟨by rfl, ?yyn19⟩) ?rrn19
                  case yyn19 => (intro w; go_simp; (try with_reducible rfl))
                  try simp only [Act.put, List.setIfInBounds_toArray, List.set_cons_zero, List.set_cons_succ]
                  refine wpAny_ready (rs := [11]) (by kernel_rfl) (by simp) ?_
                  refine AllReady.cons (o := ⟨none, _, _, _, _, _⟩) rfl (fun K hK => ?stn20_0) AllReady.nil
                  case stn20_0 =>
                    go_simp
                    refine hK _ _ ?_
                    clear hK K
                    try simp only [Act.put, List.setIfInBounds_toArray, List.set_cons_zero, List.set_cons_succ]
                    refine wpAny_done (by kernel_rfl) ?_ _
                    (first | go_wp2_with fail | skip)
                    obtain ⟨G2, C2, W2⟩ := cpX_next HW.out HIT.out HR16.out HGA.out HRR.out HR9.out HG9.out Ho9.out
                    go_roundw
                    case rel => exact ⟨i + 1, _, G2, C2, by go_num, by omega, W2⟩
                    case measure => simp [intOf]; omega
        case stn14_1 =>
          go_simp
          refine hK _ _ ?_
          clear hK K
          try simp only [Act.put, List.setIfInBounds_toArray, List.set_cons_zero, List.set_cons_succ]
          refine wpAny_ready (rs := [1, 7]) (by kernel_rfl) (by simp) ?_
          refine AllReady.cons (o := ⟨some 20, _, _, _, _, _⟩) rfl (fun K hK => ?stn21_0) (AllReady.cons (o := ⟨some 26, _, _, _, _, _⟩) rfl (fun K hK => ?stn21_1) AllReady.nil)
          case stn21_0 =>
            go_simp
            refine hK _ _ ?_
            clear hK K
            try simp only [Act.put, List.setIfInBounds_toArray, List.set_cons_zero, List.set_cons_succ]
            refine wpAny_ready (rs := [7]) (by kernel_rfl) (by simp) ?_
            refine AllReady.cons (o := ⟨some 26, _, _, _, _, _⟩) rfl (fun K hK => ?stn22_0) AllReady.nil
            case stn22_0 =>
              refine step_append_src (w := wo.drew) (by rfl) (.const (.slice none 0 0)) (.tmp 25) 22 (by rfl) wo.heap.size info_int Try.underlying22 (by decide) (by decide) enc1_len (fun z => enc1_one) (.slice none 0 0) [] (by rfl) (RowE.nil _ _) ta 16 tc (d.t.getD i []) (by rfl) HR16.out.symm HRL.out hr6 (by decide) (Nat.le_refl _) ?_
              intro v7 w7 R7 G7 o7
              obtain ⟨g7, c7, rfl, hg7, hg7s, R7⟩ := app_row R7 HR16.out
              have g77 : Grew wo w7 := ((Grew.refl wo).drew).trans (below_of_grown G7)
              have HGA := Lib.hid (g77.alloc (.cells #[slV g7 16 c7] 22))
              have HRR := Lib.hid (R7.alloc (.cells #[slV g7 16 c7] 22))
              have HT8 := Lib.hid (HW.out.t.grew HGA.out)
              have HB8 := Lib.hid (HW.out.box.grew HGA.out)
              have HN8 := Lib.hid (Mine.Own.new w7 22 #[slV g7 16 c7])
              have hz8 : g3 + 1 ≤ (w7.alloc (.cells #[slV g7 16 c7] 22)).heap.size := HB8.out.lt
              obtain ⟨k0, k1, k2, k3⟩ := (HW.out.box.grew g77).two
              obtain ⟨l0, l1, l2, l3⟩ := HB8.out.two
              clear G7 o7 R7 g77
              refine hK _ _ ?_
              clear hK K
              try simp only [Act.put, List.setIfInBounds_toArray, List.set_cons_zero, List.set_cons_succ]
              refine wpAny_ready (rs := [8]) (by kernel_rfl) (by simp) ?_
              refine AllReady.cons (o := ⟨some 27, _, _, _, _, _⟩) rfl (fun K hK => ?stn23_0) AllReady.nil
              case stn23_0 =>
                go_simp
                refine hK _ _ ?_
                clear hK K
                try simp only [Act.put, List.setIfInBounds_toArray, List.set_cons_zero, List.set_cons_succ]
                refine wpAny_ready (rs := [9]) (by kernel_rfl) (by simp) ?_
                refine AllReady.cons (o := ⟨some 28, _, _, _, _, _⟩) rfl (fun K hK => ?stn24_0) AllReady.nil
                case stn24_0 =>
                  refine step_append_row (w := w7.alloc (.cells #[slV g7 16 c7] 22)) (by rfl) (.tmp 20) (.tmp 27) 27 (by rfl) (g3 + 1) info_ints Try.underlying27 (by decide) (by decide) eV_len (.slice av i cv) (slL G C (d.t.take i)) (by rfl) HT8.out.row w7.heap.size 1 (slV g7 16 c7) (by rfl) HN8.out (fun u hu => by rw [List.mem_singleton.1 hu]; rfl) hx6 (by decide) hz8 ?_
                  intro g9 cap9 w9 R9 G9 o9
                  have HR9 := Lib.hid R9
                  have HG9 := Lib.hid G9
                  have Ho9 := Lib.hid o9
                  clear R9 G9 o9
                  obtain ⟨m0, m1, m2, m3⟩ := (HB8.out.keptN HG9.out (fun e => hvb e)).two
                  refine hK _ _ ?_
                  clear hK K
                  try simp only [Act.put, List.setIfInBounds_toArray, List.set_cons_zero, List.set_cons_succ]
                  refine wpAny_take (i := 10) (oi := ⟨some 29, _, _, _, _, _⟩) (v := ?vvn25) rfl (by kernel_rfl) (by kernel_rfl) (by kernel_rfl) (fun _ _ _ h => h) (Or.inl ⟨by rfl, ?yyn25⟩) ?rrn25
                  case yyn25 => (intro w; go_simp; (try with_reducible rfl))
                  try simp only [Act.put, List.setIfInBounds_toArray, List.set_cons_zero, List.set_cons_succ]
                  refine wpAny_ready (rs := [11]) (by kernel_rfl) (by simp) ?_
                  refine AllReady.cons (o := ⟨none, _, _, _, _, _⟩) rfl (fun K hK => ?stn26_0) AllReady.nil
                  case stn26_0 =>
                    go_simp
                    refine hK _ _ ?_
                    clear hK K
                    try simp only [Act.put, List.setIfInBounds_toArray, List.set_cons_zero, List.set_cons_succ]
                    refine wpAny_done (by kernel_rfl) ?_ _
                    (first | go_wp2_with fail | skip)
                    obtain ⟨G2, C2, W2⟩ := cpX_next HW.out HIT.out HR16.out HGA.out HRR.out HR9.out HG9.out Ho9.out
                    go_roundw
                    case rel => exact ⟨i + 1, _, G2, C2, by go_num, by omega, W2⟩
                    case measure => simp [intOf]; omega
          case stn21_1 =>
            refine step_append_src (w := wo.drew) (by rfl) (.const (.slice none 0 0)) (.tmp 25) 22 (by rfl) wo.heap.size info_int Try.underlying22 (by decide) (by decide) enc1_len (fun z => enc1_one) (.slice none 0 0) [] (by rfl) (RowE.nil _ _) ta 16 tc (d.t.getD i []) (by rfl) HR16.out.symm HRL.out hr6 (by decide) (Nat.le_refl _) ?_
            intro v7 w7 R7 G7 o7
            obtain ⟨g7, c7, rfl, hg7, hg7s, R7⟩ := app_row R7 HR16.out
            have g77 : Grew wo w7 := ((Grew.refl wo).drew).trans (below_of_grown G7)
            have HGA := Lib.hid (g77.alloc (.cells #[slV g7 16 c7] 22))
            have HRR := Lib.hid (R7.alloc (.cells #[slV g7 16 c7] 22))
            have HT8 := Lib.hid (HW.out.t.grew HGA.out)
            have HB8 := Lib.hid (HW.out.box.grew HGA.out)
            have HN8 := Lib.hid (Mine.Own.new w7 22 #[slV g7 16 c7])
            have hz8 : g3 + 1 ≤ (w7.alloc (.cells #[slV g7 16 c7] 22)).heap.size := HB8.out.lt
            obtain ⟨k0, k1, k2, k3⟩ := (HW.out.box.grew g77).two
            obtain ⟨l0, l1, l2, l3⟩ := HB8.out.two
            clear G7 o7 R7 g77
            refine hK _ _ ?_
            clear hK K
            try simp only [Act.put, List.setIfInBounds_toArray, List.set_cons_zero, List.set_cons_succ]
            refine wpAny_ready (rs := [1, 8]) (by kernel_rfl) (by simp) ?_
            refine AllReady.cons (o := ⟨some 20, _, _, _, _, _⟩) rfl (fun K hK => ?stn27_0) (AllReady.cons (o := ⟨some 27, _, _, _, _, _⟩) rfl (fun K hK => ?stn27_1) AllReady.nil)
            case stn27_0 =>
              go_simp
              refine hK _ _ ?_
              clear hK K
              try simp only [Act.put, List.setIfInBounds_toArray, List.set_cons_zero, List.set_cons_succ]
              refine wpAny_ready (rs := [8]) (by kernel_rfl) (by simp) ?_
              refine AllReady.cons (o := ⟨some 27, _, _, _, _, _⟩) rfl (fun K hK => ?stn28_0) AllReady.nil
              case stn28_0 =>
                go_simp
                refine hK _ _ ?_
                clear hK K
                try simp only [Act.put, List.setIfInBounds_toArray, List.set_cons_zero, List.set_cons_succ]
                refine wpAny_ready (rs := [9]) (by kernel_rfl) (by simp) ?_
                refine AllReady.cons (o := ⟨some 28, _, _, _, _, _⟩) rfl (fun K hK => ?stn29_0) AllReady.nil
                case stn29_0 =>
                  refine step_append_row (w := w7.alloc (.cells #[slV g7 16 c7] 22)) (by rfl) (.tmp 20) (.tmp 27) 27 (by rfl) (g3 + 1) info_ints Try.underlying27 (by decide) (by decide) eV_len (.slice av i cv) (slL G C (d.t.take i)) (by rfl) HT8.out.row w7.heap.size 1 (slV g7 16 c7) (by rfl) HN8.out (fun u hu => by rw [List.mem_singleton.1 hu]; rfl) hx6 (by decide) hz8 ?_
                  intro g9 cap9 w9 R9 G9 o9
                  have HR9 := Lib.hid R9
                  have HG9 := Lib.hid G9
                  have Ho9 := Lib.hid o9
                  clear R9 G9 o9
                  obtain ⟨m0, m1, m2, m3⟩ := (HB8.out.keptN HG9.out (fun e => hvb e)).two
                  refine hK _ _ ?_
                  clear hK K
                  try simp only [Act.put, List.setIfInBounds_toArray, List.set_cons_zero, List.set_cons_succ]
                  refine wpAny_take (i := 10) (oi := ⟨some 29, _, _, _, _, _⟩) (v := ?vvn30) rfl (by kernel_rfl) (by kernel_rfl) (by kernel_rfl) (fun _ _ _ h => h) (Or.inl ⟨by rfl, ?yyn30⟩) ?rrn30
                  case yyn30 => (intro w; go_simp; (try with_reducible rfl))
                  try simp only [Act.put, List.setIfInBounds_toArray, List.set_cons_zero, List.set_cons_succ]
                  refine wpAny_ready (rs := [11]) (by kernel_rfl) (by simp) ?_
                  refine AllReady.cons (o := ⟨none, _, _, _, _, _⟩) rfl (fun K hK => ?stn31_0) AllReady.nil
                  case stn31_0 =>
                    go_simp
                    refine hK _ _ ?_
                    clear hK K
                    try simp only [Act.put, List.setIfInBounds_toArray, List.set_cons_zero, List.set_cons_succ]
                    refine wpAny_done (by kernel_rfl) ?_ _
                    (first | go_wp2_with fail | skip)
                    obtain ⟨G2, C2, W2⟩ := cpX_next HW.out HIT.out HR16.out HGA.out HRR.out HR9.out HG9.out Ho9.out
                    go_roundw
                    case rel => exact ⟨i + 1, _, G2, C2, by go_num, by omega, W2⟩
                    case measure => simp [intOf]; omega
            case stn27_1 =>
              go_simp
              refine hK _ _ ?_
              clear hK K
              try simp only [Act.put, List.setIfInBounds_toArray, List.set_cons_zero, List.set_cons_succ]
              refine wpAny_ready (rs := [1]) (by kernel_rfl) (by simp) ?_
              refine AllReady.cons (o := ⟨some 20, _, _, _, _, _⟩) rfl (fun K hK => ?stn32_0) AllReady.nil
              case stn32_0 =>
                go_simp
                refine hK _ _ ?_
                clear hK K
                try simp only [Act.put, List.setIfInBounds_toArray, List.set_cons_zero, List.set_cons_succ]
                refine wpAny_ready (rs := [9]) (by kernel_rfl) (by simp) ?_
                refine AllReady.cons (o := ⟨some 28, _, _, _, _, _⟩) rfl (fun K hK => ?stn33_0) AllReady.nil
                case stn33_0 =>
                  refine step_append_row (w := w7.alloc (.cells #[slV g7 16 c7] 22)) (by rfl) (.tmp 20) (.tmp 27) 27 (by rfl) (g3 + 1) info_ints Try.underlying27 (by decide) (by decide) eV_len (.slice av i cv) (slL G C (d.t.take i)) (by rfl) HT8.out.row w7.heap.size 1 (slV g7 16 c7) (by rfl) HN8.out (fun u hu => by rw [List.mem_singleton.1 hu]; rfl) hx6 (by decide) hz8 ?_
                  intro g9 cap9 w9 R9 G9 o9
                  have HR9 := Lib.hid R9
                  have HG9 := Lib.hid G9
                  have Ho9 := Lib.hid o9
                  clear R9 G9 o9
                  obtain ⟨m0, m1, m2, m3⟩ := (HB8.out.keptN HG9.out (fun e => hvb e)).two
                  refine hK _ _ ?_
                  clear hK K
                  try simp only [Act.put, List.setIfInBounds_toArray, List.set_cons_zero, List.set_cons_succ]
                  refine wpAny_take (i := 10) (oi := ⟨some 29, _, _, _, _, _⟩) (v := ?vvn34) rfl (by kernel_rfl) (by kernel_rfl) (by kernel_rfl) (fun _ _ _ h => h) (Or.inl ⟨by rfl, ?yyn34⟩) ?rrn34
                  case yyn34 => (intro w; go_simp; (try with_reducible rfl))
                  try simp only [Act.put, List.setIfInBounds_toArray, List.set_cons_zero, List.set_cons_succ]
                  refine wpAny_ready (rs := [11]) (by kernel_rfl) (by simp) ?_
                  refine AllReady.cons (o := ⟨none, _, _, _, _, _⟩) rfl (fun K hK => ?stn35_0) AllReady.nil
                  case stn35_0 =>
                    go_simp
                    refine hK _ _ ?_
                    clear hK K
                    try simp only [Act.put, List.setIfInBounds_toArray, List.set_cons_zero, List.set_cons_succ]
                    refine wpAny_done (by kernel_rfl) ?_ _
                    (first | go_wp2_with fail | skip)
                    obtain ⟨G2, C2, W2⟩ := cpX_next HW.out HIT.out HR16.out HGA.out HRR.out HR9.out HG9.out Ho9.out
                    go_roundw
                    case rel => exact ⟨i + 1, _, G2, C2, by go_num, by omega, W2⟩
                    case measure => simp [intOf]; omega
    · obtain rfl : i = N := by omega
      have HW := Lib.hid W
      have HGI := Lib.hid W.g
      have h3 := W.g3
      have hN0 : 0 < d.t.length := by rw [HN.out]; omega
      have HM2 : Hid (DwW w 29 34 22 3 B b (w1.heap.size + 1) g3 (.slice a2 m c2) (.slice av i cv) G C d wo) := Lib.hid (by
        have T := W.t
        rw [List.take_of_length_le (Nat.le_of_eq HN.out)] at T
        refine ⟨HR1.out.grew W.g, W.box, ⟨W.o, T.wider (by omega), fun x e e2 => ?_, fun x e k hk e2 => ?_⟩, ⟨fun e => ?_, fun e => ?_, fun k hk e => ?_⟩, HT1.out.grew W.g, grown_trans HG1.out ⟨W.g.grown.os, W.g.grown.tape, W.g.grown.output, W.g.grown.size, fun i hi _ => W.g.grown.block i hi (by simp)⟩, by omega, by omega, by omega, hbw⟩
        · have := W.ob x e; have := T.row.above x e2; omega
        · have := W.ob x e; have := (T.above hk).1; omega
        · have := W.ob _ e; omega
        · have := T.row.above _ e; omega
        · have := (T.above hk).1; omega)
      obtain ⟨gv, rfl, -, hgv, -, -⟩ := HM2.out.k.t.at_ (k := 0) hN0
      have HSM := Lib.hid (show SmD d from ⟨by have := HOK.out.o; omega, by rw [HN.out]; omega, by rw [HN.out]; omega, fun p hp => by have := HOK.out.t p hp; omega⟩)
      have HN0 := Lib.hid hN0
      have h160 := HOK.out.t 0 hN0
      have H160 := Lib.hid h160
      have hBk : w1.heap.size + 1 ≤ g3 := h3
      clear HW W HGI hN0 h160 HR1 HT1 HG1 HDD
      go_upto_region 7 with fail
      clear x0 x1 x2 x3
      generalize w1.heap.size + 1 = Bk at *
      go_wp2_with fail
      with_reducible refine (next_x _ _ _ _ (by omega) (by omega) HM2.out.tp).mono ?_
      rintro e w5 ⟨c, c0, c1', rfl, T5, g5⟩
      replace HM2 := Lib.hid (HM2.out.next T5 g5)
      clear T5 g5 hi hlt
      obtain ⟨x0, x1, x2, x3⟩ := HM2.out.box.two
      go_upto_block 2 with fail
      go_cut [] from 32 to 100 (fun wx => ∃ (a9 v9 : Value) (d9 : Dd), Hid (SmD d9) ∧ Hid (DwF w 29 B b Bk g3 a9 v9 d9 wx))
      case first =>
        by_cases e0 : c = 0
        · subst e0
          by_cases hm0 : 0 < m
          · have hm1 : (0 : Int) < (m : Int) := by omega
            have hm2 : (1 : Int) ≤ (m : Int) := by omega
            have hm3 : (m : Int) ≤ 1000000 := by omega
            obtain ⟨ga, rfl, -, hga, -, -, -, -, -, -⟩ := HM2.out.k.atO (k := 0) (by rw [HM.out]; exact hm0)
            go_upto_region 10 with fail
            replace HM2 := Lib.hid HM2.out.drew
            clear x0 x1 x2 x3
            obtain ⟨x0, x1, x2, x3⟩ := HM2.out.box.two
            refine wp_region_any (by kernel_rfl) ?_
            refine wpAny_take (i := 0) (oi := ⟨some 38, _, _, _, _, _⟩) (v := ?vvr1) rfl (by kernel_rfl) (by kernel_rfl) (by kernel_rfl) (fun _ _ _ h => h) (Or.inl ⟨by rfl, ?yyr1⟩) ?rrr1
            case yyr1 => (intro w; go_simp; (try with_reducible rfl))
            try simp only [Act.put, List.setIfInBounds_toArray, List.set_cons_zero, List.set_cons_succ]
            refine wpAny_take (i := 2) (oi := ⟨some 40, _, _, _, _, _⟩) (v := ?vvr2) rfl (by kernel_rfl) (by kernel_rfl) (by kernel_rfl) (fun _ _ _ h => h) (Or.inl ⟨by rfl, ?yyr2⟩) ?rrr2
            case yyr2 => (intro w; go_simp; (try with_reducible rfl))
            try simp only [Act.put, List.setIfInBounds_toArray, List.set_cons_zero, List.set_cons_succ]
            refine wpAny_take (i := 3) (oi := ⟨some 41, _, _, _, _, _⟩) (v := ?vvr3) rfl (by kernel_rfl) (by kernel_rfl) (by kernel_rfl) (fun _ _ _ h => h) (Or.inl ⟨by rfl, ?yyr3⟩) ?rrr3
            case yyr3 => (intro w; go_simp; (try with_reducible rfl))
            try simp only [Act.put, List.setIfInBounds_toArray, List.set_cons_zero, List.set_cons_succ]
            refine wpAny_take (i := 10) (oi := ⟨some 48, _, _, _, _, _⟩) (v := ?vvr4) rfl (by kernel_rfl) (by kernel_rfl) (by kernel_rfl) (fun _ _ _ h => h) (Or.inl ⟨by rfl, ?yyr4⟩) ?rrr4
            case yyr4 => (intro w; go_simp; (try with_reducible rfl))
            try simp only [Act.put, List.setIfInBounds_toArray, List.set_cons_zero, List.set_cons_succ]
            refine wpAny_ready (rs := [1, 4]) (by kernel_rfl) (by simp) ?_
            refine AllReady.cons (o := ⟨some 39, _, _, _, _, _⟩) rfl (fun K hK => ?str5_0) (AllReady.cons (o := ⟨some 42, _, _, _, _, _⟩) rfl (fun K hK => ?str5_1) AllReady.nil)
            case str5_0 =>
              go_simp
              refine hK _ _ ?_
              clear hK K
              try simp only [Act.put, List.setIfInBounds_toArray, List.set_cons_zero, List.set_cons_succ]
              refine wpAny_ready (rs := [4]) (by kernel_rfl) (by simp) ?_
              refine AllReady.cons (o := ⟨some 42, _, _, _, _, _⟩) rfl (fun K hK => ?str6_0) AllReady.nil
              case str6_0 =>
                go_simp
                refine hK _ _ ?_
                clear hK K
                try simp only [Act.put, List.setIfInBounds_toArray, List.set_cons_zero, List.set_cons_succ]
                refine wpAny_take (i := 5) (oi := ⟨some 43, _, _, _, _, _⟩) (v := ?vvr7) rfl (by kernel_rfl) (by kernel_rfl) (by kernel_rfl) (fun _ _ _ h => h) (Or.inl ⟨by rfl, ?yyr7⟩) ?rrr7
                case yyr7 => (intro w; go_simp; (try with_reducible rfl))
                try simp only [Act.put, List.setIfInBounds_toArray, List.set_cons_zero, List.set_cons_succ]
                refine wpAny_ready (rs := [6]) (by kernel_rfl) (by simp) ?_
                refine AllReady.cons (o := ⟨some 44, _, _, _, _, _⟩) rfl (fun K hK => ?str8_0) AllReady.nil
                case str8_0 =>
                  go_simp
                  with_reducible refine (next_x _ _ _ _ hm2 hm3 HM2.out.tp).mono ?_
                  rintro e tq1 ⟨q1, q10, q11, rfl, T5, g5⟩
                  replace HM2 := Lib.hid (HM2.out.next T5 g5)
                  clear T5 g5 x0 x1 x2 x3
                  obtain ⟨x0, x1, x2, x3⟩ := HM2.out.box.two
                  obtain ⟨k, rfl⟩ := Int.eq_ofNat_of_zero_le q10
                  have hkm : k < m := by omega
                  have HKO : Hid (k < d.o.length) := Lib.hid (by rw [HM.out]; exact hkm)
                  obtain ⟨e0, e1, e2, e3, e4, e5, e6, e7⟩ := HM2.out.k.atG HKO.out
                  have hne : g3 ≠ ga := fun e => HM2.out.no.a (congrArg some e.symm)
                  have hk5 : (0 : Int) ≤ (k : Int) := by omega
                  obtain ⟨r, hr⟩ : ∃ r, (d.o.getD k zDs).r = r := ⟨_, rfl⟩
                  obtain ⟨oo, hoo⟩ : ∃ oo, (d.o.getD k zDs).o = oo := ⟨_, rfl⟩
                  have HRV := Lib.hid hr
                  have HOV := Lib.hid hoo
                  rw [hr] at e6
                  rw [hoo] at e4
                  have f4 := e7 (k * 5 + 4)
                  have f2 := e7 (k * 5 + 2)
                  clear e2 e3 e5 e7 hr hoo
                  dsimp only
                  refine hK _ _ ?_
                  clear hK K
                  try simp only [Act.put, List.setIfInBounds_toArray, List.set_cons_zero, List.set_cons_succ]
                  refine wpAny_take (i := 7) (oi := ⟨some 45, _, _, _, _, _⟩) (v := ?vvr9) rfl (by kernel_rfl) (by kernel_rfl) (by kernel_rfl) (fun _ _ _ h => h) (Or.inl ⟨by rfl, ?yyr9⟩) ?rrr9
                  case yyr9 => (intro w; go_simp; (try with_reducible rfl))
                  try simp only [Act.put, List.setIfInBounds_toArray, List.set_cons_zero, List.set_cons_succ]
                  refine wpAny_take (i := 8) (oi := ⟨some 46, _, _, _, _, _⟩) (v := ?vvr10) rfl (by kernel_rfl) (by kernel_rfl) (by kernel_rfl) (fun _ _ _ h => h) (Or.inl ⟨by rfl, ?yyr10⟩) ?rrr10
                  case yyr10 => (intro w; go_simp; (try with_reducible rfl))
                  try simp only [Act.put, List.setIfInBounds_toArray, List.set_cons_zero, List.set_cons_succ]
                  refine wpAny_ready (rs := [9, 11]) (by kernel_rfl) (by simp) ?_
                  refine AllReady.cons (o := ⟨some 47, _, _, _, _, _⟩) rfl (fun K hK => ?str11_0) (AllReady.cons (o := ⟨some 49, _, _, _, _, _⟩) rfl (fun K hK => ?str11_1) AllReady.nil)
                  case str11_0 =>
                    go_simp
                    refine hK _ _ ?_
                    clear hK K
                    try simp only [Act.put, List.setIfInBounds_toArray, List.set_cons_zero, List.set_cons_succ]
                    refine wpAny_ready (rs := [11]) (by kernel_rfl) (by simp) ?_
                    refine AllReady.cons (o := ⟨some 49, _, _, _, _, _⟩) rfl (fun K hK => ?str12_0) AllReady.nil
                    case str12_0 =>
                      go_simp
                      with_reducible refine (next_x _ _ _ _ (by omega) (by omega) HM2.out.tp).mono ?_
                      rintro e tq2 ⟨q2, q20, q21, rfl, T5, g5⟩
                      replace HM2 := Lib.hid (HM2.out.next T5 g5)
                      clear T5 g5 x0 x1 x2 x3
                      obtain ⟨x0, x1, x2, x3⟩ := HM2.out.box.two
                      clear e0 e1 e4 e6 f4 f2
                      obtain ⟨e0, e1, -, -, e4, -, e6, e7⟩ := HM2.out.k.atG HKO.out
                      rw [HRV.out] at e6
                      rw [HOV.out] at e4
                      have f4 := e7 (k * 5 + 4)
                      have f2 := e7 (k * 5 + 2)
                      clear e7
                      have nn : IntKind.i64.wrap (q2 - 1) = q2 - 1 := IntWalk.i64_in _ (by omega)
                      obtain ⟨z, hz⟩ : ∃ z, IntKind.i64.wrap (r + (q2 - 1)) = z := ⟨_, rfl⟩
                      dsimp only
                      refine hK _ _ ?_
                      clear hK K
                      try simp only [Act.put, List.setIfInBounds_toArray, List.set_cons_zero, List.set_cons_succ]
                      refine wpAny_take (i := 12) (oi := ⟨some 50, _, _, _, _, _⟩) (v := ?vvr13) rfl (by kernel_rfl) (by kernel_rfl) (by kernel_rfl) (fun _ _ _ h => h) (Or.inl ⟨by rfl, ?yyr13⟩) ?rrr13
                      case yyr13 => (intro w; go_simp; (try with_reducible rfl))
                      try simp only [Act.put, List.setIfInBounds_toArray, List.set_cons_zero, List.set_cons_succ]
                      refine wpAny_take (i := 13) (oi := ⟨some 51, _, _, _, _, _⟩) (v := ?vvr14) rfl (by kernel_rfl) (by kernel_rfl) (by kernel_rfl) (fun _ _ _ h => h) (Or.inl ⟨by rfl, ?yyr14⟩) ?rrr14
                      case yyr14 => (intro w; go_simp; (try with_reducible rfl))
                      try simp only [Act.put, List.setIfInBounds_toArray, List.set_cons_zero, List.set_cons_succ]
                      refine wpAny_take (i := 14) (oi := ⟨some 52, _, _, _, _, _⟩) (v := ?vvr15) rfl (by kernel_rfl) (by kernel_rfl) (by kernel_rfl) (fun _ _ _ h => h) (Or.inl ⟨by rfl, ?yyr15⟩) ?rrr15
                      case yyr15 => (intro w; go_simp; (try with_reducible rfl))
                      try simp only [Act.put, List.setIfInBounds_toArray, List.set_cons_zero, List.set_cons_succ]
                      refine wpAny_take (i := 15) (oi := ⟨some 53, _, _, _, _, _⟩) (v := ?vvr16) rfl (by kernel_rfl) (by kernel_rfl) (by kernel_rfl) (fun _ _ _ h => h) (Or.inl ⟨by rfl, ?yyr16⟩) ?rrr16
                      case yyr16 => (intro w; go_simp; (try with_reducible rfl))
                      try simp only [Act.put, List.setIfInBounds_toArray, List.set_cons_zero, List.set_cons_succ]
                      refine wpAny_ready (rs := [16]) (by kernel_rfl) (by simp) ?_
                      refine AllReady.cons (o := ⟨none, _, _, _, _, _⟩) rfl (fun K hK => ?str17_0) AllReady.nil
                      case str17_0 =>
                        go_simp
                        refine hK _ _ ?_
                        clear hK K
                        try simp only [Act.put, List.setIfInBounds_toArray, List.set_cons_zero, List.set_cons_succ]
                        refine wpAny_done (by kernel_rfl) ?_ _
                        (first | go_wp2_with fail | skip)
                        have K5 := HM2.out.k.storeO (k := k) (j := 4) HKO.out (by omega) (u := .int .i64 z) (y := { d.o.getD k zDs with r := z }) rfl
                        have HF := Lib.hid (HM2.out.fin (i := k * 5 + 4) (u := .int .i64 z) e0 hne K5.dd)
                        have HSF : Hid (SmD ⟨d.t, d.o.set k { d.o.getD k zDs with r := z }⟩) := Lib.hid ⟨by show (d.o.set k _).length ≤ 1000; rw [List.length_set]; exact HSM.out.o, HSM.out.t1, HSM.out.t3, HSM.out.r⟩
                        clear K5 x0 x1 x2 x3 e0 e1 e4 e6 f4 f2
                        generalize World.setCell _ _ _ = w7 at *
                        go_meet
                        exact ⟨_, _, _, HSF, HF⟩
                  case str11_1 =>
                    go_simp
                    with_reducible refine (next_x _ _ _ _ (by omega) (by omega) HM2.out.tp).mono ?_
                    rintro e tq2 ⟨q2, q20, q21, rfl, T5, g5⟩
                    replace HM2 := Lib.hid (HM2.out.next T5 g5)
                    clear T5 g5 x0 x1 x2 x3
                    obtain ⟨x0, x1, x2, x3⟩ := HM2.out.box.two
                    clear e0 e1 e4 e6 f4 f2
                    obtain ⟨e0, e1, -, -, e4, -, e6, e7⟩ := HM2.out.k.atG HKO.out
                    rw [HRV.out] at e6
                    rw [HOV.out] at e4
                    have f4 := e7 (k * 5 + 4)
                    have f2 := e7 (k * 5 + 2)
                    clear e7
                    have nn : IntKind.i64.wrap (q2 - 1) = q2 - 1 := IntWalk.i64_in _ (by omega)
                    obtain ⟨z, hz⟩ : ∃ z, IntKind.i64.wrap (r + (q2 - 1)) = z := ⟨_, rfl⟩
                    dsimp only
                    refine hK _ _ ?_
                    clear hK K
                    try simp only [Act.put, List.setIfInBounds_toArray, List.set_cons_zero, List.set_cons_succ]
                    refine wpAny_take (i := 12) (oi := ⟨some 50, _, _, _, _, _⟩) (v := ?vvr18) rfl (by kernel_rfl) (by kernel_rfl) (by kernel_rfl) (fun _ _ _ h => h) (Or.inl ⟨by rfl, ?yyr18⟩) ?rrr18
                    case yyr18 => (intro w; go_simp; (try with_reducible rfl))
                    try simp only [Act.put, List.setIfInBounds_toArray, List.set_cons_zero, List.set_cons_succ]
                    refine wpAny_ready (rs := [9]) (by kernel_rfl) (by simp) ?_
                    refine AllReady.cons (o := ⟨some 47, _, _, _, _, _⟩) rfl (fun K hK => ?str19_0) AllReady.nil
                    case str19_0 =>
                      go_simp
                      refine hK _ _ ?_
                      clear hK K
                      try simp only [Act.put, List.setIfInBounds_toArray, List.set_cons_zero, List.set_cons_succ]
                      refine wpAny_take (i := 13) (oi := ⟨some 51, _, _, _, _, _⟩) (v := ?vvr20) rfl (by kernel_rfl) (by kernel_rfl) (by kernel_rfl) (fun _ _ _ h => h) (Or.inl ⟨by rfl, ?yyr20⟩) ?rrr20
                      case yyr20 => (intro w; go_simp; (try with_reducible rfl))
                      try simp only [Act.put, List.setIfInBounds_toArray, List.set_cons_zero, List.set_cons_succ]
                      refine wpAny_take (i := 14) (oi := ⟨some 52, _, _, _, _, _⟩) (v := ?vvr21) rfl (by kernel_rfl) (by kernel_rfl) (by kernel_rfl) (fun _ _ _ h => h) (Or.inl ⟨by rfl, ?yyr21⟩) ?rrr21
                      case yyr21 => (intro w; go_simp; (try with_reducible rfl))
                      try simp only [Act.put, List.setIfInBounds_toArray, List.set_cons_zero, List.set_cons_succ]
                      refine wpAny_take (i := 15) (oi := ⟨some 53, _, _, _, _, _⟩) (v := ?vvr22) rfl (by kernel_rfl) (by kernel_rfl) (by kernel_rfl) (fun _ _ _ h => h) (Or.inl ⟨by rfl, ?yyr22⟩) ?rrr22
                      case yyr22 => (intro w; go_simp; (try with_reducible rfl))
                      try simp only [Act.put, List.setIfInBounds_toArray, List.set_cons_zero, List.set_cons_succ]
                      refine wpAny_ready (rs := [16]) (by kernel_rfl) (by simp) ?_
                      refine AllReady.cons (o := ⟨none, _, _, _, _, _⟩) rfl (fun K hK => ?str23_0) AllReady.nil
                      case str23_0 =>
                        go_simp
                        refine hK _ _ ?_
                        clear hK K
                        try simp only [Act.put, List.setIfInBounds_toArray, List.set_cons_zero, List.set_cons_succ]
                        refine wpAny_done (by kernel_rfl) ?_ _
                        (first | go_wp2_with fail | skip)
                        have K5 := HM2.out.k.storeO (k := k) (j := 4) HKO.out (by omega) (u := .int .i64 z) (y := { d.o.getD k zDs with r := z }) rfl
                        have HF := Lib.hid (HM2.out.fin (i := k * 5 + 4) (u := .int .i64 z) e0 hne K5.dd)
                        have HSF : Hid (SmD ⟨d.t, d.o.set k { d.o.getD k zDs with r := z }⟩) := Lib.hid ⟨by show (d.o.set k _).length ≤ 1000; rw [List.length_set]; exact HSM.out.o, HSM.out.t1, HSM.out.t3, HSM.out.r⟩
                        clear K5 x0 x1 x2 x3 e0 e1 e4 e6 f4 f2
                        generalize World.setCell _ _ _ = w7 at *
                        go_meet
                        exact ⟨_, _, _, HSF, HF⟩
            case str5_1 =>
              go_simp
              refine hK _ _ ?_
              clear hK K
              try simp only [Act.put, List.setIfInBounds_toArray, List.set_cons_zero, List.set_cons_succ]
              refine wpAny_take (i := 5) (oi := ⟨some 43, _, _, _, _, _⟩) (v := ?vvr24) rfl (by kernel_rfl) (by kernel_rfl) (by kernel_rfl) (fun _ _ _ h => h) (Or.inl ⟨by rfl, ?yyr24⟩) ?rrr24
              case yyr24 => (intro w; go_simp; (try with_reducible rfl))
              try simp only [Act.put, List.setIfInBounds_toArray, List.set_cons_zero, List.set_cons_succ]
              refine wpAny_ready (rs := [1, 6]) (by kernel_rfl) (by simp) ?_
              refine AllReady.cons (o := ⟨some 39, _, _, _, _, _⟩) rfl (fun K hK => ?str25_0) (AllReady.cons (o := ⟨some 44, _, _, _, _, _⟩) rfl (fun K hK => ?str25_1) AllReady.nil)
              case str25_0 =>
                go_simp
                refine hK _ _ ?_
                clear hK K
                try simp only [Act.put, List.setIfInBounds_toArray, List.set_cons_zero, List.set_cons_succ]
                refine wpAny_ready (rs := [6]) (by kernel_rfl) (by simp) ?_
                refine AllReady.cons (o := ⟨some 44, _, _, _, _, _⟩) rfl (fun K hK => ?str26_0) AllReady.nil
                case str26_0 =>
                  go_simp
                  with_reducible refine (next_x _ _ _ _ hm2 hm3 HM2.out.tp).mono ?_
                  rintro e tq1 ⟨q1, q10, q11, rfl, T5, g5⟩
                  replace HM2 := Lib.hid (HM2.out.next T5 g5)
                  clear T5 g5 x0 x1 x2 x3
                  obtain ⟨x0, x1, x2, x3⟩ := HM2.out.box.two
                  obtain ⟨k, rfl⟩ := Int.eq_ofNat_of_zero_le q10
                  have hkm : k < m := by omega
                  have HKO : Hid (k < d.o.length) := Lib.hid (by rw [HM.out]; exact hkm)
                  obtain ⟨e0, e1, e2, e3, e4, e5, e6, e7⟩ := HM2.out.k.atG HKO.out
                  have hne : g3 ≠ ga := fun e => HM2.out.no.a (congrArg some e.symm)
                  have hk5 : (0 : Int) ≤ (k : Int) := by omega
                  obtain ⟨r, hr⟩ : ∃ r, (d.o.getD k zDs).r = r := ⟨_, rfl⟩
                  obtain ⟨oo, hoo⟩ : ∃ oo, (d.o.getD k zDs).o = oo := ⟨_, rfl⟩
                  have HRV := Lib.hid hr
                  have HOV := Lib.hid hoo
                  rw [hr] at e6
                  rw [hoo] at e4
                  have f4 := e7 (k * 5 + 4)
                  have f2 := e7 (k * 5 + 2)
                  clear e2 e3 e5 e7 hr hoo
                  dsimp only
                  refine hK _ _ ?_
                  clear hK K
                  try simp only [Act.put, List.setIfInBounds_toArray, List.set_cons_zero, List.set_cons_succ]
                  refine wpAny_take (i := 7) (oi := ⟨some 45, _, _, _, _, _⟩) (v := ?vvr27) rfl (by kernel_rfl) (by kernel_rfl) (by kernel_rfl) (fun _ _ _ h => h) (Or.inl ⟨by rfl, ?yyr27⟩) ?rrr27
                  case yyr27 => (intro w; go_simp; (try with_reducible rfl))
                  try simp only [Act.put, List.setIfInBounds_toArray, List.set_cons_zero, List.set_cons_succ]
                  refine wpAny_take (i := 8) (oi := ⟨some 46, _, _, _, _, _⟩) (v := ?vvr28) rfl (by kernel_rfl) (by kernel_rfl) (by kernel_rfl) (fun _ _ _ h => h) (Or.inl ⟨by rfl, ?yyr28⟩) ?rrr28
                  case yyr28 => (intro w; go_simp; (try with_reducible rfl))
                  try simp only [Act.put, List.setIfInBounds_toArray, List.set_cons_zero, List.set_cons_succ]
                  refine wpAny_ready (rs := [9, 11]) (by kernel_rfl) (by simp) ?_
                  refine AllReady.cons (o := ⟨some 47, _, _, _, _, _⟩) rfl (fun K hK => ?str29_0) (AllReady.cons (o := ⟨some 49, _, _, _, _, _⟩) rfl (fun K hK => ?str29_1) AllReady.nil)
                  case str29_0 =>
                    go_simp
                    refine hK _ _ ?_
                    clear hK K
                    try simp only [Act.put, List.setIfInBounds_toArray, List.set_cons_zero, List.set_cons_succ]
                    refine wpAny_ready (rs := [11]) (by kernel_rfl) (by simp) ?_
                    refine AllReady.cons (o := ⟨some 49, _, _, _, _, _⟩) rfl (fun K hK => ?str30_0) AllReady.nil
                    case str30_0 =>
                      go_simp
                      with_reducible refine (next_x _ _ _ _ (by omega) (by omega) HM2.out.tp).mono ?_
                      rintro e tq2 ⟨q2, q20, q21, rfl, T5, g5⟩
                      replace HM2 := Lib.hid (HM2.out.next T5 g5)
                      clear T5 g5 x0 x1 x2 x3
                      obtain ⟨x0, x1, x2, x3⟩ := HM2.out.box.two
                      clear e0 e1 e4 e6 f4 f2
                      obtain ⟨e0, e1, -, -, e4, -, e6, e7⟩ := HM2.out.k.atG HKO.out
                      rw [HRV.out] at e6
                      rw [HOV.out] at e4
                      have f4 := e7 (k * 5 + 4)
                      have f2 := e7 (k * 5 + 2)
                      clear e7
                      have nn : IntKind.i64.wrap (q2 - 1) = q2 - 1 := IntWalk.i64_in _ (by omega)
                      obtain ⟨z, hz⟩ : ∃ z, IntKind.i64.wrap (r + (q2 - 1)) = z := ⟨_, rfl⟩
                      dsimp only
                      refine hK _ _ ?_
                      clear hK K
                      try simp only [Act.put, List.setIfInBounds_toArray, List.set_cons_zero, List.set_cons_succ]
                      refine wpAny_take (i := 12) (oi := ⟨some 50, _, _, _, _, _⟩) (v := ?vvr31) rfl (by kernel_rfl) (by kernel_rfl) (by kernel_rfl) (fun _ _ _ h => h) (Or.inl ⟨by rfl, ?yyr31⟩) ?rrr31
                      case yyr31 => (intro w; go_simp; (try with_reducible rfl))
                      try simp only [Act.put, List.setIfInBounds_toArray, List.set_cons_zero, List.set_cons_succ]
                      refine wpAny_take (i := 13) (oi := ⟨some 51, _, _, _, _, _⟩) (v := ?vvr32) rfl (by kernel_rfl) (by kernel_rfl) (by kernel_rfl) (fun _ _ _ h => h) (Or.inl ⟨by rfl, ?yyr32⟩) ?rrr32
                      case yyr32 => (intro w; go_simp; (try with_reducible rfl))
                      try simp only [Act.put, List.setIfInBounds_toArray, List.set_cons_zero, List.set_cons_succ]
                      refine wpAny_take (i := 14) (oi := ⟨some 52, _, _, _, _, _⟩) (v := ?vvr33) rfl (by kernel_rfl) (by kernel_rfl) (by kernel_rfl) (fun _ _ _ h => h) (Or.inl ⟨by rfl, ?yyr33⟩) ?rrr33
                      case yyr33 => (intro w; go_simp; (try with_reducible rfl))
                      try simp only [Act.put, List.setIfInBounds_toArray, List.set_cons_zero, List.set_cons_succ]
                      refine wpAny_take (i := 15) (oi := ⟨some 53, _, _, _, _, _⟩) (v := ?vvr34) rfl (by kernel_rfl) (by kernel_rfl) (by kernel_rfl) (fun _ _ _ h => h) (Or.inl ⟨by rfl, ?yyr34⟩) ?rrr34
                      case yyr34 => (intro w; go_simp; (try with_reducible rfl))
                      try simp only [Act.put, List.setIfInBounds_toArray, List.set_cons_zero, List.set_cons_succ]
                      refine wpAny_ready (rs := [16]) (by kernel_rfl) (by simp) ?_
                      refine AllReady.cons (o := ⟨none, _, _, _, _, _⟩) rfl (fun K hK => ?str35_0) AllReady.nil
                      case str35_0 =>
                        go_simp
                        refine hK _ _ ?_
                        clear hK K
                        try simp only [Act.put, List.setIfInBounds_toArray, List.set_cons_zero, List.set_cons_succ]
                        refine wpAny_done (by kernel_rfl) ?_ _
                        (first | go_wp2_with fail | skip)
                        have K5 := HM2.out.k.storeO (k := k) (j := 4) HKO.out (by omega) (u := .int .i64 z) (y := { d.o.getD k zDs with r := z }) rfl
                        have HF := Lib.hid (HM2.out.fin (i := k * 5 + 4) (u := .int .i64 z) e0 hne K5.dd)
                        have HSF : Hid (SmD ⟨d.t, d.o.set k { d.o.getD k zDs with r := z }⟩) := Lib.hid ⟨by show (d.o.set k _).length ≤ 1000; rw [List.length_set]; exact HSM.out.o, HSM.out.t1, HSM.out.t3, HSM.out.r⟩
                        clear K5 x0 x1 x2 x3 e0 e1 e4 e6 f4 f2
                        generalize World.setCell _ _ _ = w7 at *
                        go_meet
                        exact ⟨_, _, _, HSF, HF⟩
                  case str29_1 =>
                    go_simp
                    with_reducible refine (next_x _ _ _ _ (by omega) (by omega) HM2.out.tp).mono ?_
                    rintro e tq2 ⟨q2, q20, q21, rfl, T5, g5⟩
                    replace HM2 := Lib.hid (HM2.out.next T5 g5)
                    clear T5 g5 x0 x1 x2 x3
                    obtain ⟨x0, x1, x2, x3⟩ := HM2.out.box.two
                    clear e0 e1 e4 e6 f4 f2
                    obtain ⟨e0, e1, -, -, e4, -, e6, e7⟩ := HM2.out.k.atG HKO.out
                    rw [HRV.out] at e6
                    rw [HOV.out] at e4
                    have f4 := e7 (k * 5 + 4)
                    have f2 := e7 (k * 5 + 2)
                    clear e7
                    have nn : IntKind.i64.wrap (q2 - 1) = q2 - 1 := IntWalk.i64_in _ (by omega)
                    obtain ⟨z, hz⟩ : ∃ z, IntKind.i64.wrap (r + (q2 - 1)) = z := ⟨_, rfl⟩
                    dsimp only
                    refine hK _ _ ?_
                    clear hK K
                    try simp only [Act.put, List.setIfInBounds_toArray, List.set_cons_zero, List.set_cons_succ]
                    refine wpAny_take (i := 12) (oi := ⟨some 50, _, _, _, _, _⟩) (v := ?vvr36) rfl (by kernel_rfl) (by kernel_rfl) (by kernel_rfl) (fun _ _ _ h => h) (Or.inl ⟨by rfl, ?yyr36⟩) ?rrr36
                    case yyr36 => (intro w; go_simp; (try with_reducible rfl))
                    try simp only [Act.put, List.setIfInBounds_toArray, List.set_cons_zero, List.set_cons_succ]
                    refine wpAny_ready (rs := [9]) (by kernel_rfl) (by simp) ?_
                    refine AllReady.cons (o := ⟨some 47, _, _, _, _, _⟩) rfl (fun K hK => ?str37_0) AllReady.nil
                    case str37_0 =>
                      go_simp
                      refine hK _ _ ?_
                      clear hK K
                      try simp only [Act.put, List.setIfInBounds_toArray, List.set_cons_zero, List.set_cons_succ]
                      refine wpAny_take (i := 13) (oi := ⟨some 51, _, _, _, _, _⟩) (v := ?vvr38) rfl (by kernel_rfl) (by kernel_rfl) (by kernel_rfl) (fun _ _ _ h => h) (Or.inl ⟨by rfl, ?yyr38⟩) ?rrr38
                      case yyr38 => (intro w; go_simp; (try with_reducible rfl))
                      try simp only [Act.put, List.setIfInBounds_toArray, List.set_cons_zero, List.set_cons_succ]
                      refine wpAny_take (i := 14) (oi := ⟨some 52, _, _, _, _, _⟩) (v := ?vvr39) rfl (by kernel_rfl) (by kernel_rfl) (by kernel_rfl) (fun _ _ _ h => h) (Or.inl ⟨by rfl, ?yyr39⟩) ?rrr39
                      case yyr39 => (intro w; go_simp; (try with_reducible rfl))
                      try simp only [Act.put, List.setIfInBounds_toArray, List.set_cons_zero, List.set_cons_succ]
                      refine wpAny_take (i := 15) (oi := ⟨some 53, _, _, _, _, _⟩) (v := ?vvr40) rfl (by kernel_rfl) (by kernel_rfl) (by kernel_rfl) (fun _ _ _ h => h) (Or.inl ⟨by rfl, ?yyr40⟩) ?rrr40
                      case yyr40 => (intro w; go_simp; (try with_reducible rfl))
                      try simp only [Act.put, List.setIfInBounds_toArray, List.set_cons_zero, List.set_cons_succ]
                      refine wpAny_ready (rs := [16]) (by kernel_rfl) (by simp) ?_
                      refine AllReady.cons (o := ⟨none, _, _, _, _, _⟩) rfl (fun K hK => ?str41_0) AllReady.nil
                      case str41_0 =>
                        go_simp
                        refine hK _ _ ?_
                        clear hK K
                        try simp only [Act.put, List.setIfInBounds_toArray, List.set_cons_zero, List.set_cons_succ]
                        refine wpAny_done (by kernel_rfl) ?_ _
                        (first | go_wp2_with fail | skip)
                        have K5 := HM2.out.k.storeO (k := k) (j := 4) HKO.out (by omega) (u := .int .i64 z) (y := { d.o.getD k zDs with r := z }) rfl
                        have HF := Lib.hid (HM2.out.fin (i := k * 5 + 4) (u := .int .i64 z) e0 hne K5.dd)
                        have HSF : Hid (SmD ⟨d.t, d.o.set k { d.o.getD k zDs with r := z }⟩) := Lib.hid ⟨by show (d.o.set k _).length ≤ 1000; rw [List.length_set]; exact HSM.out.o, HSM.out.t1, HSM.out.t3, HSM.out.r⟩
                        clear K5 x0 x1 x2 x3 e0 e1 e4 e6 f4 f2
                        generalize World.setCell _ _ _ = w7 at *
                        go_meet
                        exact ⟨_, _, _, HSF, HF⟩
              case str25_1 =>
                go_simp
                with_reducible refine (next_x _ _ _ _ hm2 hm3 HM2.out.tp).mono ?_
                rintro e tq1 ⟨q1, q10, q11, rfl, T5, g5⟩
                replace HM2 := Lib.hid (HM2.out.next T5 g5)
                clear T5 g5 x0 x1 x2 x3
                obtain ⟨x0, x1, x2, x3⟩ := HM2.out.box.two
                obtain ⟨k, rfl⟩ := Int.eq_ofNat_of_zero_le q10
                have hkm : k < m := by omega
                have HKO : Hid (k < d.o.length) := Lib.hid (by rw [HM.out]; exact hkm)
                obtain ⟨e0, e1, e2, e3, e4, e5, e6, e7⟩ := HM2.out.k.atG HKO.out
                have hne : g3 ≠ ga := fun e => HM2.out.no.a (congrArg some e.symm)
                have hk5 : (0 : Int) ≤ (k : Int) := by omega
                obtain ⟨r, hr⟩ : ∃ r, (d.o.getD k zDs).r = r := ⟨_, rfl⟩
                obtain ⟨oo, hoo⟩ : ∃ oo, (d.o.getD k zDs).o = oo := ⟨_, rfl⟩
                have HRV := Lib.hid hr
                have HOV := Lib.hid hoo
                rw [hr] at e6
                rw [hoo] at e4
                have f4 := e7 (k * 5 + 4)
                have f2 := e7 (k * 5 + 2)
                clear e2 e3 e5 e7 hr hoo
                dsimp only
                refine hK _ _ ?_
                clear hK K
                try simp only [Act.put, List.setIfInBounds_toArray, List.set_cons_zero, List.set_cons_succ]
                refine wpAny_ready (rs := [1, 11]) (by kernel_rfl) (by simp) ?_
                refine AllReady.cons (o := ⟨some 39, _, _, _, _, _⟩) rfl (fun K hK => ?str42_0) (AllReady.cons (o := ⟨some 49, _, _, _, _, _⟩) rfl (fun K hK => ?str42_1) AllReady.nil)
                case str42_0 =>
                  go_simp
                  refine hK _ _ ?_
                  clear hK K
                  try simp only [Act.put, List.setIfInBounds_toArray, List.set_cons_zero, List.set_cons_succ]
                  refine wpAny_take (i := 7) (oi := ⟨some 45, _, _, _, _, _⟩) (v := ?vvr43) rfl (by kernel_rfl) (by kernel_rfl) (by kernel_rfl) (fun _ _ _ h => h) (Or.inl ⟨by rfl, ?yyr43⟩) ?rrr43
                  case yyr43 => (intro w; go_simp; (try with_reducible rfl))
                  try simp only [Act.put, List.setIfInBounds_toArray, List.set_cons_zero, List.set_cons_succ]
                  refine wpAny_take (i := 8) (oi := ⟨some 46, _, _, _, _, _⟩) (v := ?vvr44) rfl (by kernel_rfl) (by kernel_rfl) (by kernel_rfl) (fun _ _ _ h => h) (Or.inl ⟨by rfl, ?yyr44⟩) ?rrr44
                  case yyr44 => (intro w; go_simp; (try with_reducible rfl))
                  try simp only [Act.put, List.setIfInBounds_toArray, List.set_cons_zero, List.set_cons_succ]
                  refine wpAny_ready (rs := [9, 11]) (by kernel_rfl) (by simp) ?_
                  refine AllReady.cons (o := ⟨some 47, _, _, _, _, _⟩) rfl (fun K hK => ?str45_0) (AllReady.cons (o := ⟨some 49, _, _, _, _, _⟩) rfl (fun K hK => ?str45_1) AllReady.nil)
                  case str45_0 =>
                    go_simp
                    refine hK _ _ ?_
                    clear hK K
                    try simp only [Act.put, List.setIfInBounds_toArray, List.set_cons_zero, List.set_cons_succ]
                    refine wpAny_ready (rs := [11]) (by kernel_rfl) (by simp) ?_
                    refine AllReady.cons (o := ⟨some 49, _, _, _, _, _⟩) rfl (fun K hK => ?str46_0) AllReady.nil
                    case str46_0 =>
                      go_simp
                      with_reducible refine (next_x _ _ _ _ (by omega) (by omega) HM2.out.tp).mono ?_
                      rintro e tq2 ⟨q2, q20, q21, rfl, T5, g5⟩
                      replace HM2 := Lib.hid (HM2.out.next T5 g5)
                      clear T5 g5 x0 x1 x2 x3
                      obtain ⟨x0, x1, x2, x3⟩ := HM2.out.box.two
                      clear e0 e1 e4 e6 f4 f2
                      obtain ⟨e0, e1, -, -, e4, -, e6, e7⟩ := HM2.out.k.atG HKO.out
                      rw [HRV.out] at e6
                      rw [HOV.out] at e4
                      have f4 := e7 (k * 5 + 4)
                      have f2 := e7 (k * 5 + 2)
                      clear e7
                      have nn : IntKind.i64.wrap (q2 - 1) = q2 - 1 := IntWalk.i64_in _ (by omega)
                      obtain ⟨z, hz⟩ : ∃ z, IntKind.i64.wrap (r + (q2 - 1)) = z := ⟨_, rfl⟩
                      dsimp only
                      refine hK _ _ ?_
                      clear hK K
                      try simp only [Act.put, List.setIfInBounds_toArray, List.set_cons_zero, List.set_cons_succ]
                      refine wpAny_take (i := 12) (oi := ⟨some 50, _, _, _, _, _⟩) (v := ?vvr47) rfl (by kernel_rfl) (by kernel_rfl) (by kernel_rfl) (fun _ _ _ h => h) (Or.inl ⟨by rfl, ?yyr47⟩) ?rrr47
                      case yyr47 => (intro w; go_simp; (try with_reducible rfl))
                      try simp only [Act.put, List.setIfInBounds_toArray, List.set_cons_zero, List.set_cons_succ]
                      refine wpAny_take (i := 13) (oi := ⟨some 51, _, _, _, _, _⟩) (v := ?vvr48) rfl (by kernel_rfl) (by kernel_rfl) (by kernel_rfl) (fun _ _ _ h => h) (Or.inl ⟨by rfl, ?yyr48⟩) ?rrr48
                      case yyr48 => (intro w; go_simp; (try with_reducible rfl))
                      try simp only [Act.put, List.setIfInBounds_toArray, List.set_cons_zero, List.set_cons_succ]
                      refine wpAny_take (i := 14) (oi := ⟨some 52, _, _, _, _, _⟩) (v := ?vvr49) rfl (by kernel_rfl) (by kernel_rfl) (by kernel_rfl) (fun _ _ _ h => h) (Or.inl ⟨by rfl, ?yyr49⟩) ?rrr49
                      case yyr49 => (intro w; go_simp; (try with_reducible rfl))
                      try simp only [Act.put, List.setIfInBounds_toArray, List.set_cons_zero, List.set_cons_succ]
                      refine wpAny_take (i := 15) (oi := ⟨some 53, _, _, _, _, _⟩) (v := ?vvr50) rfl (by kernel_rfl) (by kernel_rfl) (by kernel_rfl) (fun _ _ _ h => h) (Or.inl ⟨by rfl, ?yyr50⟩) ?rrr50
                      case yyr50 => (intro w; go_simp; (try with_reducible rfl))
                      try simp only [Act.put, List.setIfInBounds_toArray, List.set_cons_zero, List.set_cons_succ]
                      refine wpAny_ready (rs := [16]) (by kernel_rfl) (by simp) ?_
                      refine AllReady.cons (o := ⟨none, _, _, _, _, _⟩) rfl (fun K hK => ?str51_0) AllReady.nil
                      case str51_0 =>
                        go_simp
                        refine hK _ _ ?_
                        clear hK K
                        try simp only [Act.put, List.setIfInBounds_toArray, List.set_cons_zero, List.set_cons_succ]
                        refine wpAny_done (by kernel_rfl) ?_ _
                        (first | go_wp2_with fail | skip)
                        have K5 := HM2.out.k.storeO (k := k) (j := 4) HKO.out (by omega) (u := .int .i64 z) (y := { d.o.getD k zDs with r := z }) rfl
                        have HF := Lib.hid (HM2.out.fin (i := k * 5 + 4) (u := .int .i64 z) e0 hne K5.dd)
                        have HSF : Hid (SmD ⟨d.t, d.o.set k { d.o.getD k zDs with r := z }⟩) := Lib.hid ⟨by show (d.o.set k _).length ≤ 1000; rw [List.length_set]; exact HSM.out.o, HSM.out.t1, HSM.out.t3, HSM.out.r⟩
                        clear K5 x0 x1 x2 x3 e0 e1 e4 e6 f4 f2
                        generalize World.setCell _ _ _ = w7 at *
                        go_meet
                        exact ⟨_, _, _, HSF, HF⟩
                  case str45_1 =>
                    go_simp
                    with_reducible refine (next_x _ _ _ _ (by omega) (by omega) HM2.out.tp).mono ?_
                    rintro e tq2 ⟨q2, q20, q21, rfl, T5, g5⟩
                    replace HM2 := Lib.hid (HM2.out.next T5 g5)
                    clear T5 g5 x0 x1 x2 x3
                    obtain ⟨x0, x1, x2, x3⟩ := HM2.out.box.two
                    clear e0 e1 e4 e6 f4 f2
                    obtain ⟨e0, e1, -, -, e4, -, e6, e7⟩ := HM2.out.k.atG HKO.out
                    rw [HRV.out] at e6
                    rw [HOV.out] at e4
                    have f4 := e7 (k * 5 + 4)
                    have f2 := e7 (k * 5 + 2)
                    clear e7
                    have nn : IntKind.i64.wrap (q2 - 1) = q2 - 1 := IntWalk.i64_in _ (by omega)
                    obtain ⟨z, hz⟩ : ∃ z, IntKind.i64.wrap (r + (q2 - 1)) = z := ⟨_, rfl⟩
                    dsimp only
                    refine hK _ _ ?_
                    clear hK K
                    try simp only [Act.put, List.setIfInBounds_toArray, List.set_cons_zero, List.set_cons_succ]
                    refine wpAny_take (i := 12) (oi := ⟨some 50, _, _, _, _, _⟩) (v := ?vvr52) rfl (by kernel_rfl) (by kernel_rfl) (by kernel_rfl) (fun _ _ _ h => h) (Or.inl ⟨by rfl, ?yyr52⟩) ?rrr52
                    case yyr52 => (intro w; go_simp; (try with_reducible rfl))
                    try simp only [Act.put, List.setIfInBounds_toArray, List.set_cons_zero, List.set_cons_succ]
                    refine wpAny_ready (rs := [9]) (by kernel_rfl) (by simp) ?_
                    refine AllReady.cons (o := ⟨some 47, _, _, _, _, _⟩) rfl (fun K hK => ?str53_0) AllReady.nil
                    case str53_0 =>
                      go_simp
                      refine hK _ _ ?_
                      clear hK K
                      try simp only [Act.put, List.setIfInBounds_toArray, List.set_cons_zero, List.set_cons_succ]
                      refine wpAny_take (i := 13) (oi := ⟨some 51, _, _, _, _, _⟩) (v := ?vvr54) rfl (by kernel_rfl) (by kernel_rfl) (by kernel_rfl) (fun _ _ _ h => h) (Or.inl ⟨by rfl, ?yyr54⟩) ?rrr54
                      case yyr54 => (intro w; go_simp; (try with_reducible rfl))
                      try simp only [Act.put, List.setIfInBounds_toArray, List.set_cons_zero, List.set_cons_succ]
                      refine wpAny_take (i := 14) (oi := ⟨some 52, _, _, _, _, _⟩) (v := ?vvr55) rfl (by kernel_rfl) (by kernel_rfl) (by kernel_rfl) (fun _ _ _ h => h) (Or.inl ⟨by rfl, ?yyr55⟩) ?rrr55
                      case yyr55 => (intro w; go_simp; (try with_reducible rfl))
                      try simp only [Act.put, List.setIfInBounds_toArray, List.set_cons_zero, List.set_cons_succ]
                      refine wpAny_take (i := 15) (oi := ⟨some 53, _, _, _, _, _⟩) (v := ?vvr56) rfl (by kernel_rfl) (by kernel_rfl) (by kernel_rfl) (fun _ _ _ h => h) (Or.inl ⟨by rfl, ?yyr56⟩) ?rrr56
                      case yyr56 => (intro w; go_simp; (try with_reducible rfl))
                      try simp only [Act.put, List.setIfInBounds_toArray, List.set_cons_zero, List.set_cons_succ]
                      refine wpAny_ready (rs := [16]) (by kernel_rfl) (by simp) ?_
                      refine AllReady.cons (o := ⟨none, _, _, _, _, _⟩) rfl (fun K hK => ?str57_0) AllReady.nil
                      case str57_0 =>
                        go_simp
                        refine hK _ _ ?_
                        clear hK K
                        try simp only [Act.put, List.setIfInBounds_toArray, List.set_cons_zero, List.set_cons_succ]
                        refine wpAny_done (by kernel_rfl) ?_ _
                        (first | go_wp2_with fail | skip)
                        have K5 := HM2.out.k.storeO (k := k) (j := 4) HKO.out (by omega) (u := .int .i64 z) (y := { d.o.getD k zDs with r := z }) rfl
                        have HF := Lib.hid (HM2.out.fin (i := k * 5 + 4) (u := .int .i64 z) e0 hne K5.dd)
                        have HSF : Hid (SmD ⟨d.t, d.o.set k { d.o.getD k zDs with r := z }⟩) := Lib.hid ⟨by show (d.o.set k _).length ≤ 1000; rw [List.length_set]; exact HSM.out.o, HSM.out.t1, HSM.out.t3, HSM.out.r⟩
                        clear K5 x0 x1 x2 x3 e0 e1 e4 e6 f4 f2
                        generalize World.setCell _ _ _ = w7 at *
                        go_meet
                        exact ⟨_, _, _, HSF, HF⟩
                case str42_1 =>
                  go_simp
                  with_reducible refine (next_x _ _ _ _ (by omega) (by omega) HM2.out.tp).mono ?_
                  rintro e tq2 ⟨q2, q20, q21, rfl, T5, g5⟩
                  replace HM2 := Lib.hid (HM2.out.next T5 g5)
                  clear T5 g5 x0 x1 x2 x3
                  obtain ⟨x0, x1, x2, x3⟩ := HM2.out.box.two
                  clear e0 e1 e4 e6 f4 f2
                  obtain ⟨e0, e1, -, -, e4, -, e6, e7⟩ := HM2.out.k.atG HKO.out
                  rw [HRV.out] at e6
                  rw [HOV.out] at e4
                  have f4 := e7 (k * 5 + 4)
                  have f2 := e7 (k * 5 + 2)
                  clear e7
                  have nn : IntKind.i64.wrap (q2 - 1) = q2 - 1 := IntWalk.i64_in _ (by omega)
                  obtain ⟨z, hz⟩ : ∃ z, IntKind.i64.wrap (r + (q2 - 1)) = z := ⟨_, rfl⟩
                  dsimp only
                  refine hK _ _ ?_
                  clear hK K
                  try simp only [Act.put, List.setIfInBounds_toArray, List.set_cons_zero, List.set_cons_succ]
                  refine wpAny_take (i := 12) (oi := ⟨some 50, _, _, _, _, _⟩) (v := ?vvr58) rfl (by kernel_rfl) (by kernel_rfl) (by kernel_rfl) (fun _ _ _ h => h) (Or.inl ⟨by rfl, ?yyr58⟩) ?rrr58
                  case yyr58 => (intro w; go_simp; (try with_reducible rfl))
                  try simp only [Act.put, List.setIfInBounds_toArray, List.set_cons_zero, List.set_cons_succ]
                  refine wpAny_ready (rs := [1]) (by kernel_rfl) (by simp) ?_
                  refine AllReady.cons (o := ⟨some 39, _, _, _, _, _⟩) rfl (fun K hK => ?str59_0) AllReady.nil
                  case str59_0 =>
                    go_simp
                    refine hK _ _ ?_
                    clear hK K
                    try simp only [Act.put, List.setIfInBounds_toArray, List.set_cons_zero, List.set_cons_succ]
                    refine wpAny_take (i := 7) (oi := ⟨some 45, _, _, _, _, _⟩) (v := ?vvr60) rfl (by kernel_rfl) (by kernel_rfl) (by kernel_rfl) (fun _ _ _ h => h) (Or.inl ⟨by rfl, ?yyr60⟩) ?rrr60
                    case yyr60 => (intro w; go_simp; (try with_reducible rfl))
                    try simp only [Act.put, List.setIfInBounds_toArray, List.set_cons_zero, List.set_cons_succ]
                    refine wpAny_take (i := 8) (oi := ⟨some 46, _, _, _, _, _⟩) (v := ?vvr61) rfl (by kernel_rfl) (by kernel_rfl) (by kernel_rfl) (fun _ _ _ h => h) (Or.inl ⟨by rfl, ?yyr61⟩) ?rrr61
                    case yyr61 => (intro w; go_simp; (try with_reducible rfl))
                    try simp only [Act.put, List.setIfInBounds_toArray, List.set_cons_zero, List.set_cons_succ]
                    refine wpAny_ready (rs := [9]) (by kernel_rfl) (by simp) ?_
                    refine AllReady.cons (o := ⟨some 47, _, _, _, _, _⟩) rfl (fun K hK => ?str62_0) AllReady.nil
                    case str62_0 =>
                      go_simp
                      refine hK _ _ ?_
                      clear hK K
                      try simp only [Act.put, List.setIfInBounds_toArray, List.set_cons_zero, List.set_cons_succ]
                      refine wpAny_take (i := 13) (oi := ⟨some 51, _, _, _, _, _⟩) (v := ?vvr63) rfl (by kernel_rfl) (by kernel_rfl) (by kernel_rfl) (fun _ _ _ h => h) (Or.inl ⟨by rfl, ?yyr63⟩) ?rrr63
                      case yyr63 => (intro w; go_simp; (try with_reducible rfl))
                      try simp only [Act.put, List.setIfInBounds_toArray, List.set_cons_zero, List.set_cons_succ]
                      refine wpAny_take (i := 14) (oi := ⟨some 52, _, _, _, _, _⟩) (v := ?vvr64) rfl (by kernel_rfl) (by kernel_rfl) (by kernel_rfl) (fun _ _ _ h => h) (Or.inl ⟨by rfl, ?yyr64⟩) ?rrr64
                      case yyr64 => (intro w; go_simp; (try with_reducible rfl))
                      try simp only [Act.put, List.setIfInBounds_toArray, List.set_cons_zero, List.set_cons_succ]
                      refine wpAny_take (i := 15) (oi := ⟨some 53, _, _, _, _, _⟩) (v := ?vvr65) rfl (by kernel_rfl) (by kernel_rfl) (by kernel_rfl) (fun _ _ _ h => h) (Or.inl ⟨by rfl, ?yyr65⟩) ?rrr65
                      case yyr65 => (intro w; go_simp; (try with_reducible rfl))
                      try simp only [Act.put, List.setIfInBounds_toArray, List.set_cons_zero, List.set_cons_succ]
                      refine wpAny_ready (rs := [16]) (by kernel_rfl) (by simp) ?_
                      refine AllReady.cons (o := ⟨none, _, _, _, _, _⟩) rfl (fun K hK => ?str66_0) AllReady.nil
                      case str66_0 =>
                        go_simp
                        refine hK _ _ ?_
                        clear hK K
                        try simp only [Act.put, List.setIfInBounds_toArray, List.set_cons_zero, List.set_cons_succ]
                        refine wpAny_done (by kernel_rfl) ?_ _
                        (first | go_wp2_with fail | skip)
                        have K5 := HM2.out.k.storeO (k := k) (j := 4) HKO.out (by omega) (u := .int .i64 z) (y := { d.o.getD k zDs with r := z }) rfl
                        have HF := Lib.hid (HM2.out.fin (i := k * 5 + 4) (u := .int .i64 z) e0 hne K5.dd)
                        have HSF : Hid (SmD ⟨d.t, d.o.set k { d.o.getD k zDs with r := z }⟩) := Lib.hid ⟨by show (d.o.set k _).length ≤ 1000; rw [List.length_set]; exact HSM.out.o, HSM.out.t1, HSM.out.t3, HSM.out.r⟩
                        clear K5 x0 x1 x2 x3 e0 e1 e4 e6 f4 f2
                        generalize World.setCell _ _ _ = w7 at *
                        go_meet
                        exact ⟨_, _, _, HSF, HF⟩
          · obtain rfl : m = 0 := by omega
            have HF := Lib.hid HM2.out.same
            have HSF := HSM
            go_wp2_with fail
            go_meet
            exact ⟨_, _, _, HSF, HF⟩
        have n0 : (c == 0) = false := by simpa using e0
        by_cases e1 : c = 1
        · subst e1
          obtain ⟨d0, d1, d2, d3⟩ := HM2.out.k.t.atG (k := 0) HN0.out
          rw [H160.out] at d2
          have hi0 : (0 : Int) < (i : Int) := by omega
          have hi0' : 0 < i := by omega
          go_upto_region 12 with fail
          replace HM2 := Lib.hid HM2.out.drew
          clear x0 x1 x2 x3
          obtain ⟨x0, x1, x2, x3⟩ := HM2.out.box.two
          refine wp_region_any (by kernel_rfl) ?_
          refine wpAny_take (i := 0) (oi := ⟨some 56, _, _, _, _, _⟩) (v := ?vvs1) rfl (by kernel_rfl) (by kernel_rfl) (by kernel_rfl) (fun _ _ _ h => h) (Or.inl ⟨by rfl, ?yys1⟩) ?rrs1
          case yys1 => (intro w; go_simp; (try with_reducible rfl))
          try simp only [Act.put, List.setIfInBounds_toArray, List.set_cons_zero, List.set_cons_succ]
          refine wpAny_take (i := 4) (oi := ⟨some 60, _, _, _, _, _⟩) (v := ?vvs2) rfl (by kernel_rfl) (by kernel_rfl) (by kernel_rfl) (fun _ _ _ h => h) (Or.inl ⟨by rfl, ?yys2⟩) ?rrs2
          case yys2 => (intro w; go_simp; (try with_reducible rfl))
          try simp only [Act.put, List.setIfInBounds_toArray, List.set_cons_zero, List.set_cons_succ]
          refine wpAny_take (i := 6) (oi := ⟨some 62, _, _, _, _, _⟩) (v := ?vvs3) rfl (by kernel_rfl) (by kernel_rfl) (by kernel_rfl) (fun _ _ _ h => h) (Or.inl ⟨by rfl, ?yys3⟩) ?rrs3
          case yys3 => (intro w; go_simp; (try with_reducible rfl))
          try simp only [Act.put, List.setIfInBounds_toArray, List.set_cons_zero, List.set_cons_succ]
          refine wpAny_ready (rs := [1, 5]) (by kernel_rfl) (by simp) ?_
          refine AllReady.cons (o := ⟨some 57, _, _, _, _, _⟩) rfl (fun K hK => ?sts4_0) (AllReady.cons (o := ⟨some 61, _, _, _, _, _⟩) rfl (fun K hK => ?sts4_1) AllReady.nil)
          case sts4_0 =>
            go_simp
            refine hK _ _ ?_
            clear hK K
            try simp only [Act.put, List.setIfInBounds_toArray, List.set_cons_zero, List.set_cons_succ]
            refine wpAny_take (i := 2) (oi := ⟨some 58, _, _, _, _, _⟩) (v := ?vvs5) rfl (by kernel_rfl) (by kernel_rfl) (by kernel_rfl) (fun _ _ _ h => h) (Or.inl ⟨by rfl, ?yys5⟩) ?rrs5
            case yys5 => (intro w; go_simp; (try with_reducible rfl))
            try simp only [Act.put, List.setIfInBounds_toArray, List.set_cons_zero, List.set_cons_succ]
            refine wpAny_ready (rs := [3, 5]) (by kernel_rfl) (by simp) ?_
            refine AllReady.cons (o := ⟨some 59, _, _, _, _, _⟩) rfl (fun K hK => ?sts6_0) (AllReady.cons (o := ⟨some 61, _, _, _, _, _⟩) rfl (fun K hK => ?sts6_1) AllReady.nil)
            case sts6_0 =>
              go_simp
              refine hK _ _ ?_
              clear hK K
              try simp only [Act.put, List.setIfInBounds_toArray, List.set_cons_zero, List.set_cons_succ]
              refine wpAny_ready (rs := [5]) (by kernel_rfl) (by simp) ?_
              refine AllReady.cons (o := ⟨some 61, _, _, _, _, _⟩) rfl (fun K hK => ?sts7_0) AllReady.nil
              case sts7_0 =>
                go_simp
                with_reducible refine (next_x _ _ _ _ (by omega) (by omega) HM2.out.tp).mono ?_
                rintro e tq1 ⟨q1, q10, q11, rfl, T5, g5⟩
                replace HM2 := Lib.hid (HM2.out.next T5 g5)
                clear T5 g5 x0 x1 x2 x3
                obtain ⟨x0, x1, x2, x3⟩ := HM2.out.box.two
                clear d0 d1 d2 d3
                obtain ⟨d0, d1, d2, d3⟩ := HM2.out.k.t.atG (k := 0) HN0.out
                rw [H160.out] at d2
                obtain ⟨k, rfl⟩ := Int.eq_ofNat_of_zero_le q10
                have hk16 : k < 16 := by omega
                have hk5 : (0 : Int) ≤ (k : Int) := by omega
                dsimp only
                refine hK _ _ ?_
                clear hK K
                try simp only [Act.put, List.setIfInBounds_toArray, List.set_cons_zero, List.set_cons_succ]
                refine wpAny_ready (rs := [7]) (by kernel_rfl) (by simp) ?_
                refine AllReady.cons (o := ⟨some 63, _, _, _, _, _⟩) rfl (fun K hK => ?sts8_0) AllReady.nil
                case sts8_0 =>
                  go_simp
                  with_reducible refine (next_x _ _ _ _ (by omega) (by omega) HM2.out.tp).mono ?_
                  rintro e tq2 ⟨q2, q20, q21, rfl, T5, g5⟩
                  replace HM2 := Lib.hid (HM2.out.next T5 g5)
                  clear T5 g5 x0 x1 x2 x3
                  obtain ⟨x0, x1, x2, x3⟩ := HM2.out.box.two
                  clear d0 d1 d2 d3
                  obtain ⟨d0, d1, d2, d3⟩ := HM2.out.k.t.atG (k := 0) HN0.out
                  rw [H160.out] at d2
                  have nn : IntKind.i64.wrap (q2 - 1) = q2 - 1 := IntWalk.i64_in _ (by omega)
                  have ein := HM2.out.k.t.in_ (k := 0) (i := k) HN0.out (by rw [H160.out]; exact hk16)
                  obtain ⟨e0, ef, hBG, hgp⟩ := ein
                  generalize (d.t.getD 0 []).getD k 0 = yy at e0
                  dsimp only
                  refine hK _ _ ?_
                  clear hK K
                  try simp only [Act.put, List.setIfInBounds_toArray, List.set_cons_zero, List.set_cons_succ]
                  refine wpAny_take (i := 8) (oi := ⟨some 64, _, _, _, _, _⟩) (v := ?vvs9) rfl (by kernel_rfl) (by kernel_rfl) (by kernel_rfl) (fun _ _ _ h => h) (Or.inl ⟨by rfl, ?yys9⟩) ?rrs9
                  case yys9 => (intro w; go_simp; (try with_reducible rfl))
                  try simp only [Act.put, List.setIfInBounds_toArray, List.set_cons_zero, List.set_cons_succ]
                  refine wpAny_take (i := 9) (oi := ⟨some 65, _, _, _, _, _⟩) (v := ?vvs10) rfl (by kernel_rfl) (by kernel_rfl) (by kernel_rfl) (fun _ _ _ h => h) (Or.inl ⟨by rfl, ?yys10⟩) ?rrs10
                  case yys10 => (intro w; go_simp; (try with_reducible rfl))
                  try simp only [Act.put, List.setIfInBounds_toArray, List.set_cons_zero, List.set_cons_succ]
                  refine wpAny_ready (rs := [10]) (by kernel_rfl) (by simp) ?_
                  refine AllReady.cons (o := ⟨none, _, _, _, _, _⟩) rfl (fun K hK => ?sts11_0) AllReady.nil
                  case sts11_0 =>
                    go_simp
                    refine hK _ _ ?_
                    clear hK K
                    try simp only [Act.put, List.setIfInBounds_toArray, List.set_cons_zero, List.set_cons_succ]
                    refine wpAny_done (by kernel_rfl) ?_ _
                    (first | go_wp2_with fail | skip)
                    have hne : g3 ≠ G 0 := fun e => HM2.out.no.g 0 HN0.out e.symm
                    have K5 := HM2.out.k.storeT (p := 0) HN0.out k (q2 - 1)
                    have HF := Lib.hid (HM2.out.fin (i := k) (u := .int .i64 (q2 - 1)) hBG hne K5.dd)
                    have HSF : Hid (SmD ⟨setT d.t 0 k (q2 - 1), d.o⟩) := Lib.hid ⟨HSM.out.o, by show 1 ≤ (setT _ _ _ _).length; rw [setT_len]; exact HSM.out.t1, by show (setT _ _ _ _).length ≤ 3; rw [setT_len]; exact HSM.out.t3, fun p hp => by have h2 := setT_row (T := d.t) (p := 0) (i := k) (v := q2 - 1) HOK.out.t p hp; show ((setT d.t 0 k (q2 - 1)).getD p []).length ≤ 1000; omega⟩
                    clear K5 x0 x1 x2 x3 e0 ef d0 d1 d2 d3
                    generalize World.setCell _ _ _ = w7 at *
                    go_meet
                    exact ⟨_, _, _, HSF, HF⟩
            case sts6_1 =>
              go_simp
              with_reducible refine (next_x _ _ _ _ (by omega) (by omega) HM2.out.tp).mono ?_
              rintro e tq1 ⟨q1, q10, q11, rfl, T5, g5⟩
              replace HM2 := Lib.hid (HM2.out.next T5 g5)
              clear T5 g5 x0 x1 x2 x3
              obtain ⟨x0, x1, x2, x3⟩ := HM2.out.box.two
              clear d0 d1 d2 d3
              obtain ⟨d0, d1, d2, d3⟩ := HM2.out.k.t.atG (k := 0) HN0.out
              rw [H160.out] at d2
              obtain ⟨k, rfl⟩ := Int.eq_ofNat_of_zero_le q10
              have hk16 : k < 16 := by omega
              have hk5 : (0 : Int) ≤ (k : Int) := by omega
              dsimp only
              refine hK _ _ ?_
              clear hK K
              try simp only [Act.put, List.setIfInBounds_toArray, List.set_cons_zero, List.set_cons_succ]
              refine wpAny_ready (rs := [3, 7]) (by kernel_rfl) (by simp) ?_
              refine AllReady.cons (o := ⟨some 59, _, _, _, _, _⟩) rfl (fun K hK => ?sts12_0) (AllReady.cons (o := ⟨some 63, _, _, _, _, _⟩) rfl (fun K hK => ?sts12_1) AllReady.nil)
              case sts12_0 =>
                go_simp
                refine hK _ _ ?_
                clear hK K
                try simp only [Act.put, List.setIfInBounds_toArray, List.set_cons_zero, List.set_cons_succ]
                refine wpAny_ready (rs := [7]) (by kernel_rfl) (by simp) ?_
                refine AllReady.cons (o := ⟨some 63, _, _, _, _, _⟩) rfl (fun K hK => ?sts13_0) AllReady.nil
                case sts13_0 =>
                  go_simp
                  with_reducible refine (next_x _ _ _ _ (by omega) (by omega) HM2.out.tp).mono ?_
                  rintro e tq2 ⟨q2, q20, q21, rfl, T5, g5⟩
                  replace HM2 := Lib.hid (HM2.out.next T5 g5)
                  clear T5 g5 x0 x1 x2 x3
                  obtain ⟨x0, x1, x2, x3⟩ := HM2.out.box.two
                  clear d0 d1 d2 d3
                  obtain ⟨d0, d1, d2, d3⟩ := HM2.out.k.t.atG (k := 0) HN0.out
                  rw [H160.out] at d2
                  have nn : IntKind.i64.wrap (q2 - 1) = q2 - 1 := IntWalk.i64_in _ (by omega)
                  have ein := HM2.out.k.t.in_ (k := 0) (i := k) HN0.out (by rw [H160.out]; exact hk16)
                  obtain ⟨e0, ef, hBG, hgp⟩ := ein
                  generalize (d.t.getD 0 []).getD k 0 = yy at e0
                  dsimp only
                  refine hK _ _ ?_
                  clear hK K
                  try simp only [Act.put, List.setIfInBounds_toArray, List.set_cons_zero, List.set_cons_succ]
                  refine wpAny_take (i := 8) (oi := ⟨some 64, _, _, _, _, _⟩) (v := ?vvs14) rfl (by kernel_rfl) (by kernel_rfl) (by kernel_rfl) (fun _ _ _ h => h) (Or.inl ⟨by rfl, ?yys14⟩) ?rrs14
                  case yys14 => (intro w; go_simp; (try with_reducible rfl))
                  try simp only [Act.put, List.setIfInBounds_toArray, List.set_cons_zero, List.set_cons_succ]
                  refine wpAny_take (i := 9) (oi := ⟨some 65, _, _, _, _, _⟩) (v := ?vvs15) rfl (by kernel_rfl) (by kernel_rfl) (by kernel_rfl) (fun _ _ _ h => h) (Or.inl ⟨by rfl, ?yys15⟩) ?rrs15
                  case yys15 => (intro w; go_simp; (try with_reducible rfl))
                  try simp only [Act.put, List.setIfInBounds_toArray, List.set_cons_zero, List.set_cons_succ]
                  refine wpAny_ready (rs := [10]) (by kernel_rfl) (by simp) ?_
                  refine AllReady.cons (o := ⟨none, _, _, _, _, _⟩) rfl (fun K hK => ?sts16_0) AllReady.nil
                  case sts16_0 =>
                    go_simp
                    refine hK _ _ ?_
                    clear hK K
                    try simp only [Act.put, List.setIfInBounds_toArray, List.set_cons_zero, List.set_cons_succ]
                    refine wpAny_done (by kernel_rfl) ?_ _
                    (first | go_wp2_with fail | skip)
                    have hne : g3 ≠ G 0 := fun e => HM2.out.no.g 0 HN0.out e.symm
                    have K5 := HM2.out.k.storeT (p := 0) HN0.out k (q2 - 1)
                    have HF := Lib.hid (HM2.out.fin (i := k) (u := .int .i64 (q2 - 1)) hBG hne K5.dd)
                    have HSF : Hid (SmD ⟨setT d.t 0 k (q2 - 1), d.o⟩) := Lib.hid ⟨HSM.out.o, by show 1 ≤ (setT _ _ _ _).length; rw [setT_len]; exact HSM.out.t1, by show (setT _ _ _ _).length ≤ 3; rw [setT_len]; exact HSM.out.t3, fun p hp => by have h2 := setT_row (T := d.t) (p := 0) (i := k) (v := q2 - 1) HOK.out.t p hp; show ((setT d.t 0 k (q2 - 1)).getD p []).length ≤ 1000; omega⟩
                    clear K5 x0 x1 x2 x3 e0 ef d0 d1 d2 d3
                    generalize World.setCell _ _ _ = w7 at *
                    go_meet
                    exact ⟨_, _, _, HSF, HF⟩
              case sts12_1 =>
                go_simp
                with_reducible refine (next_x _ _ _ _ (by omega) (by omega) HM2.out.tp).mono ?_
                rintro e tq2 ⟨q2, q20, q21, rfl, T5, g5⟩
                replace HM2 := Lib.hid (HM2.out.next T5 g5)
                clear T5 g5 x0 x1 x2 x3
                obtain ⟨x0, x1, x2, x3⟩ := HM2.out.box.two
                clear d0 d1 d2 d3
                obtain ⟨d0, d1, d2, d3⟩ := HM2.out.k.t.atG (k := 0) HN0.out
                rw [H160.out] at d2
                have nn : IntKind.i64.wrap (q2 - 1) = q2 - 1 := IntWalk.i64_in _ (by omega)
                have ein := HM2.out.k.t.in_ (k := 0) (i := k) HN0.out (by rw [H160.out]; exact hk16)
                obtain ⟨e0, ef, hBG, hgp⟩ := ein
                generalize (d.t.getD 0 []).getD k 0 = yy at e0
                dsimp only
                refine hK _ _ ?_
                clear hK K
                try simp only [Act.put, List.setIfInBounds_toArray, List.set_cons_zero, List.set_cons_succ]
                refine wpAny_take (i := 8) (oi := ⟨some 64, _, _, _, _, _⟩) (v := ?vvs17) rfl (by kernel_rfl) (by kernel_rfl) (by kernel_rfl) (fun _ _ _ h => h) (Or.inl ⟨by rfl, ?yys17⟩) ?rrs17
                case yys17 => (intro w; go_simp; (try with_reducible rfl))
                try simp only [Act.put, List.setIfInBounds_toArray, List.set_cons_zero, List.set_cons_succ]
                refine wpAny_ready (rs := [3]) (by kernel_rfl) (by simp) ?_
                refine AllReady.cons (o := ⟨some 59, _, _, _, _, _⟩) rfl (fun K hK => ?sts18_0) AllReady.nil
                case sts18_0 =>
                  go_simp
                  refine hK _ _ ?_
                  clear hK K
                  try simp only [Act.put, List.setIfInBounds_toArray, List.set_cons_zero, List.set_cons_succ]
                  refine wpAny_take (i := 9) (oi := ⟨some 65, _, _, _, _, _⟩) (v := ?vvs19) rfl (by kernel_rfl) (by kernel_rfl) (by kernel_rfl) (fun _ _ _ h => h) (Or.inl ⟨by rfl, ?yys19⟩) ?rrs19
                  case yys19 => (intro w; go_simp; (try with_reducible rfl))
                  try simp only [Act.put, List.setIfInBounds_toArray, List.set_cons_zero, List.set_cons_succ]
                  refine wpAny_ready (rs := [10]) (by kernel_rfl) (by simp) ?_
                  refine AllReady.cons (o := ⟨none, _, _, _, _, _⟩) rfl (fun K hK => ?sts20_0) AllReady.nil
                  case sts20_0 =>
                    go_simp
                    refine hK _ _ ?_
                    clear hK K
                    try simp only [Act.put, List.setIfInBounds_toArray, List.set_cons_zero, List.set_cons_succ]
                    refine wpAny_done (by kernel_rfl) ?_ _
                    (first | go_wp2_with fail | skip)
                    have hne : g3 ≠ G 0 := fun e => HM2.out.no.g 0 HN0.out e.symm
                    have K5 := HM2.out.k.storeT (p := 0) HN0.out k (q2 - 1)
                    have HF := Lib.hid (HM2.out.fin (i := k) (u := .int .i64 (q2 - 1)) hBG hne K5.dd)
                    have HSF : Hid (SmD ⟨setT d.t 0 k (q2 - 1), d.o⟩) := Lib.hid ⟨HSM.out.o, by show 1 ≤ (setT _ _ _ _).length; rw [setT_len]; exact HSM.out.t1, by show (setT _ _ _ _).length ≤ 3; rw [setT_len]; exact HSM.out.t3, fun p hp => by have h2 := setT_row (T := d.t) (p := 0) (i := k) (v := q2 - 1) HOK.out.t p hp; show ((setT d.t 0 k (q2 - 1)).getD p []).length ≤ 1000; omega⟩
                    clear K5 x0 x1 x2 x3 e0 ef d0 d1 d2 d3
                    generalize World.setCell _ _ _ = w7 at *
                    go_meet
                    exact ⟨_, _, _, HSF, HF⟩
          case sts4_1 =>
            go_simp
            with_reducible refine (next_x _ _ _ _ (by omega) (by omega) HM2.out.tp).mono ?_
            rintro e tq1 ⟨q1, q10, q11, rfl, T5, g5⟩
            replace HM2 := Lib.hid (HM2.out.next T5 g5)
            clear T5 g5 x0 x1 x2 x3
            obtain ⟨x0, x1, x2, x3⟩ := HM2.out.box.two
            clear d0 d1 d2 d3
            obtain ⟨d0, d1, d2, d3⟩ := HM2.out.k.t.atG (k := 0) HN0.out
            rw [H160.out] at d2
            obtain ⟨k, rfl⟩ := Int.eq_ofNat_of_zero_le q10
            have hk16 : k < 16 := by omega
            have hk5 : (0 : Int) ≤ (k : Int) := by omega
            dsimp only
            refine hK _ _ ?_
            clear hK K
            try simp only [Act.put, List.setIfInBounds_toArray, List.set_cons_zero, List.set_cons_succ]
            refine wpAny_ready (rs := [1, 7]) (by kernel_rfl) (by simp) ?_
            refine AllReady.cons (o := ⟨some 57, _, _, _, _, _⟩) rfl (fun K hK => ?sts21_0) (AllReady.cons (o := ⟨some 63, _, _, _, _, _⟩) rfl (fun K hK => ?sts21_1) AllReady.nil)
            case sts21_0 =>
              go_simp
              refine hK _ _ ?_
              clear hK K
              try simp only [Act.put, List.setIfInBounds_toArray, List.set_cons_zero, List.set_cons_succ]
              refine wpAny_take (i := 2) (oi := ⟨some 58, _, _, _, _, _⟩) (v := ?vvs22) rfl (by kernel_rfl) (by kernel_rfl) (by kernel_rfl) (fun _ _ _ h => h) (Or.inl ⟨by rfl, ?yys22⟩) ?rrs22
              case yys22 => (intro w; go_simp; (try with_reducible rfl))
              try simp only [Act.put, List.setIfInBounds_toArray, List.set_cons_zero, List.set_cons_succ]
              refine wpAny_ready (rs := [3, 7]) (by kernel_rfl) (by simp) ?_
              refine AllReady.cons (o := ⟨some 59, _, _, _, _, _⟩) rfl (fun K hK => ?sts23_0) (AllReady.cons (o := ⟨some 63, _, _, _, _, _⟩) rfl (fun K hK => ?sts23_1) AllReady.nil)
              case sts23_0 =>
                go_simp
                refine hK _ _ ?_
                clear hK K
                try simp only [Act.put, List.setIfInBounds_toArray, List.set_cons_zero, List.set_cons_succ]
                refine wpAny_ready (rs := [7]) (by kernel_rfl) (by simp) ?_
                refine AllReady.cons (o := ⟨some 63, _, _, _, _, _⟩) rfl (fun K hK => ?sts24_0) AllReady.nil
                case sts24_0 =>
                  go_simp
                  with_reducible refine (next_x _ _ _ _ (by omega) (by omega) HM2.out.tp).mono ?_
                  rintro e tq2 ⟨q2, q20, q21, rfl, T5, g5⟩
                  replace HM2 := Lib.hid (HM2.out.next T5 g5)
                  clear T5 g5 x0 x1 x2 x3
                  obtain ⟨x0, x1, x2, x3⟩ := HM2.out.box.two
                  clear d0 d1 d2 d3
                  obtain ⟨d0, d1, d2, d3⟩ := HM2.out.k.t.atG (k := 0) HN0.out
                  rw [H160.out] at d2
                  have nn : IntKind.i64.wrap (q2 - 1) = q2 - 1 := IntWalk.i64_in _ (by omega)
                  have ein := HM2.out.k.t.in_ (k := 0) (i := k) HN0.out (by rw [H160.out]; exact hk16)
                  obtain ⟨e0, ef, hBG, hgp⟩ := ein
                  generalize (d.t.getD 0 []).getD k 0 = yy at e0
                  dsimp only
                  refine hK _ _ ?_
                  clear hK K
                  try simp only [Act.put, List.setIfInBounds_toArray, List.set_cons_zero, List.set_cons_succ]
                  refine wpAny_take (i := 8) (oi := ⟨some 64, _, _, _, _, _⟩) (v := ?vvs25) rfl (by kernel_rfl) (by kernel_rfl) (by kernel_rfl) (fun _ _ _ h => h) (Or.inl ⟨by rfl, ?yys25⟩) ?rrs25
                  case yys25 => (intro w; go_simp; (try with_reducible rfl))
                  try simp only [Act.put, List.setIfInBounds_toArray, List.set_cons_zero, List.set_cons_succ]
                  refine wpAny_take (i := 9) (oi := ⟨some 65, _, _, _, _, _⟩) (v := ?vvs26) rfl (by kernel_rfl) (by kernel_rfl) (by kernel_rfl) (fun _ _ _ h => h) (Or.inl ⟨by rfl, ?yys26⟩) ?rrs26
                  case yys26 => (intro w; go_simp; (try with_reducible rfl))
                  try simp only [Act.put, List.setIfInBounds_toArray, List.set_cons_zero, List.set_cons_succ]
                  refine wpAny_ready (rs := [10]) (by kernel_rfl) (by simp) ?_
                  refine AllReady.cons (o := ⟨none, _, _, _, _, _⟩) rfl (fun K hK => ?sts27_0) AllReady.nil
                  case sts27_0 =>
                    go_simp
                    refine hK _ _ ?_
                    clear hK K
                    try simp only [Act.put, List.setIfInBounds_toArray, List.set_cons_zero, List.set_cons_succ]
                    refine wpAny_done (by kernel_rfl) ?_ _
                    (first | go_wp2_with fail | skip)
                    have hne : g3 ≠ G 0 := fun e => HM2.out.no.g 0 HN0.out e.symm
                    have K5 := HM2.out.k.storeT (p := 0) HN0.out k (q2 - 1)
                    have HF := Lib.hid (HM2.out.fin (i := k) (u := .int .i64 (q2 - 1)) hBG hne K5.dd)
                    have HSF : Hid (SmD ⟨setT d.t 0 k (q2 - 1), d.o⟩) := Lib.hid ⟨HSM.out.o, by show 1 ≤ (setT _ _ _ _).length; rw [setT_len]; exact HSM.out.t1, by show (setT _ _ _ _).length ≤ 3; rw [setT_len]; exact HSM.out.t3, fun p hp => by have h2 := setT_row (T := d.t) (p := 0) (i := k) (v := q2 - 1) HOK.out.t p hp; show ((setT d.t 0 k (q2 - 1)).getD p []).length ≤ 1000; omega⟩
                    clear K5 x0 x1 x2 x3 e0 ef d0 d1 d2 d3
                    generalize World.setCell _ _ _ = w7 at *
                    go_meet
                    exact ⟨_, _, _, HSF, HF⟩
              case sts23_1 =>
                go_simp
                with_reducible refine (next_x _ _ _ _ (by omega) (by omega) HM2.out.tp).mono ?_
                rintro e tq2 ⟨q2, q20, q21, rfl, T5, g5⟩
                replace HM2 := Lib.hid (HM2.out.next T5 g5)
                clear T5 g5 x0 x1 x2 x3
                obtain ⟨x0, x1, x2, x3⟩ := HM2.out.box.two
                clear d0 d1 d2 d3
                obtain ⟨d0, d1, d2, d3⟩ := HM2.out.k.t.atG (k := 0) HN0.out
                rw [H160.out] at d2
                have nn : IntKind.i64.wrap (q2 - 1) = q2 - 1 := IntWalk.i64_in _ (by omega)
                have ein := HM2.out.k.t.in_ (k := 0) (i := k) HN0.out (by rw [H160.out]; exact hk16)
                obtain ⟨e0, ef, hBG, hgp⟩ := ein
                generalize (d.t.getD 0 []).getD k 0 = yy at e0
                dsimp only
                refine hK _ _ ?_
                clear hK K
                try simp only [Act.put, List.setIfInBounds_toArray, List.set_cons_zero, List.set_cons_succ]
                refine wpAny_take (i := 8) (oi := ⟨some 64, _, _, _, _, _⟩) (v := ?vvs28) rfl (by kernel_rfl) (by kernel_rfl) (by kernel_rfl) (fun _ _ _ h => h) (Or.inl ⟨by rfl, ?yys28⟩) ?rrs28
                case yys28 => (intro w; go_simp; (try with_reducible rfl))
                try simp only [Act.put, List.setIfInBounds_toArray, List.set_cons_zero, List.set_cons_succ]
                refine wpAny_ready (rs := [3]) (by kernel_rfl) (by simp) ?_
                refine AllReady.cons (o := ⟨some 59, _, _, _, _, _⟩) rfl (fun K hK => ?sts29_0) AllReady.nil
                case sts29_0 =>
                  go_simp
                  refine hK _ _ ?_
                  clear hK K
                  try simp only [Act.put, List.setIfInBounds_toArray, List.set_cons_zero, List.set_cons_succ]
                  refine wpAny_take (i := 9) (oi := ⟨some 65, _, _, _, _, _⟩) (v := ?vvs30) rfl (by kernel_rfl) (by kernel_rfl) (by kernel_rfl) (fun _ _ _ h => h) (Or.inl ⟨by rfl, ?yys30⟩) ?rrs30
                  case yys30 => (intro w; go_simp; (try with_reducible rfl))
                  try simp only [Act.put, List.setIfInBounds_toArray, List.set_cons_zero, List.set_cons_succ]
                  refine wpAny_ready (rs := [10]) (by kernel_rfl) (by simp) ?_
                  refine AllReady.cons (o := ⟨none, _, _, _, _, _⟩) rfl (fun K hK => ?sts31_0) AllReady.nil
                  case sts31_0 =>
                    go_simp
                    refine hK _ _ ?_
                    clear hK K
                    try simp only [Act.put, List.setIfInBounds_toArray, List.set_cons_zero, List.set_cons_succ]
                    refine wpAny_done (by kernel_rfl) ?_ _
                    (first | go_wp2_with fail | skip)
                    have hne : g3 ≠ G 0 := fun e => HM2.out.no.g 0 HN0.out e.symm
                    have K5 := HM2.out.k.storeT (p := 0) HN0.out k (q2 - 1)
                    have HF := Lib.hid (HM2.out.fin (i := k) (u := .int .i64 (q2 - 1)) hBG hne K5.dd)
                    have HSF : Hid (SmD ⟨setT d.t 0 k (q2 - 1), d.o⟩) := Lib.hid ⟨HSM.out.o, by show 1 ≤ (setT _ _ _ _).length; rw [setT_len]; exact HSM.out.t1, by show (setT _ _ _ _).length ≤ 3; rw [setT_len]; exact HSM.out.t3, fun p hp => by have h2 := setT_row (T := d.t) (p := 0) (i := k) (v := q2 - 1) HOK.out.t p hp; show ((setT d.t 0 k (q2 - 1)).getD p []).length ≤ 1000; omega⟩
                    clear K5 x0 x1 x2 x3 e0 ef d0 d1 d2 d3
                    generalize World.setCell _ _ _ = w7 at *
                    go_meet
                    exact ⟨_, _, _, HSF, HF⟩
            case sts21_1 =>
              go_simp
              with_reducible refine (next_x _ _ _ _ (by omega) (by omega) HM2.out.tp).mono ?_
              rintro e tq2 ⟨q2, q20, q21, rfl, T5, g5⟩
              replace HM2 := Lib.hid (HM2.out.next T5 g5)
              clear T5 g5 x0 x1 x2 x3
              obtain ⟨x0, x1, x2, x3⟩ := HM2.out.box.two
              clear d0 d1 d2 d3
              obtain ⟨d0, d1, d2, d3⟩ := HM2.out.k.t.atG (k := 0) HN0.out
              rw [H160.out] at d2
              have nn : IntKind.i64.wrap (q2 - 1) = q2 - 1 := IntWalk.i64_in _ (by omega)
              have ein := HM2.out.k.t.in_ (k := 0) (i := k) HN0.out (by rw [H160.out]; exact hk16)
              obtain ⟨e0, ef, hBG, hgp⟩ := ein
              generalize (d.t.getD 0 []).getD k 0 = yy at e0
              dsimp only
              refine hK _ _ ?_
              clear hK K
              try simp only [Act.put, List.setIfInBounds_toArray, List.set_cons_zero, List.set_cons_succ]
              refine wpAny_take (i := 8) (oi := ⟨some 64, _, _, _, _, _⟩) (v := ?vvs32) rfl (by kernel_rfl) (by kernel_rfl) (by kernel_rfl) (fun _ _ _ h => h) (Or.inl ⟨by rfl, ?yys32⟩) ?rrs32
              case yys32 => (intro w; go_simp; (try with_reducible rfl))
              try simp only [Act.put, List.setIfInBounds_toArray, List.set_cons_zero, List.set_cons_succ]
              refine wpAny_ready (rs := [1]) (by kernel_rfl) (by simp) ?_
              refine AllReady.cons (o := ⟨some 57, _, _, _, _, _⟩) rfl (fun K hK => ?sts33_0) AllReady.nil
              case sts33_0 =>
                go_simp
                refine hK _ _ ?_
                clear hK K
                try simp only [Act.put, List.setIfInBounds_toArray, List.set_cons_zero, List.set_cons_succ]
                refine wpAny_take (i := 2) (oi := ⟨some 58, _, _, _, _, _⟩) (v := ?vvs34) rfl (by kernel_rfl) (by kernel_rfl) (by kernel_rfl) (fun _ _ _ h => h) (Or.inl ⟨by rfl, ?yys34⟩) ?rrs34
                case yys34 => (intro w; go_simp; (try with_reducible rfl))
                try simp only [Act.put, List.setIfInBounds_toArray, List.set_cons_zero, List.set_cons_succ]
                refine wpAny_ready (rs := [3]) (by kernel_rfl) (by simp) ?_
                refine AllReady.cons (o := ⟨some 59, _, _, _, _, _⟩) rfl (fun K hK => ?sts35_0) AllReady.nil
                case sts35_0 =>
                  go_simp
                  refine hK _ _ ?_
                  clear hK K
                  try simp only [Act.put, List.setIfInBounds_toArray, List.set_cons_zero, List.set_cons_succ]
                  refine wpAny_take (i := 9) (oi := ⟨some 65, _, _, _, _, _⟩) (v := ?vvs36) rfl (by kernel_rfl) (by kernel_rfl) (by kernel_rfl) (fun _ _ _ h => h) (Or.inl ⟨by rfl, ?yys36⟩) ?rrs36
                  case yys36 => (intro w; go_simp; (try with_reducible rfl))
                  try simp only [Act.put, List.setIfInBounds_toArray, List.set_cons_zero, List.set_cons_succ]
                  refine wpAny_ready (rs := [10]) (by kernel_rfl) (by simp) ?_
                  refine AllReady.cons (o := ⟨none, _, _, _, _, _⟩) rfl (fun K hK => ?sts37_0) AllReady.nil
                  case sts37_0 =>
                    go_simp
                    refine hK _ _ ?_
                    clear hK K
                    try simp only [Act.put, List.setIfInBounds_toArray, List.set_cons_zero, List.set_cons_succ]
                    refine wpAny_done (by kernel_rfl) ?_ _
                    (first | go_wp2_with fail | skip)
                    have hne : g3 ≠ G 0 := fun e => HM2.out.no.g 0 HN0.out e.symm
                    have K5 := HM2.out.k.storeT (p := 0) HN0.out k (q2 - 1)
                    have HF := Lib.hid (HM2.out.fin (i := k) (u := .int .i64 (q2 - 1)) hBG hne K5.dd)
                    have HSF : Hid (SmD ⟨setT d.t 0 k (q2 - 1), d.o⟩) := Lib.hid ⟨HSM.out.o, by show 1 ≤ (setT _ _ _ _).length; rw [setT_len]; exact HSM.out.t1, by show (setT _ _ _ _).length ≤ 3; rw [setT_len]; exact HSM.out.t3, fun p hp => by have h2 := setT_row (T := d.t) (p := 0) (i := k) (v := q2 - 1) HOK.out.t p hp; show ((setT d.t 0 k (q2 - 1)).getD p []).length ≤ 1000; omega⟩
                    clear K5 x0 x1 x2 x3 e0 ef d0 d1 d2 d3
                    generalize World.setCell _ _ _ = w7 at *
                    go_meet
                    exact ⟨_, _, _, HSF, HF⟩
        have n1 : (c == 1) = false := by simpa using e1
        by_cases e2 : c = 2
        · subst e2
          obtain ⟨d0, d1, d2, d3⟩ := HM2.out.k.t.atG (k := 0) HN0.out
          rw [H160.out] at d2
          have hi0 : (0 : Int) < (i : Int) := by omega
          have hi0' : 0 < i := by omega
          go_upto_region 14 with fail
          have hC16 : 16 ≤ C 0 := by
            obtain ⟨a', c', e, h1, -⟩ := RowE.rdS enc1_len (HM2.out.k.t.inn 0 HN0.out)
            injection e with e1 e2 e3
            rw [H160.out] at h1
            omega
          have hC1 : ¬C 0 = 1 := by omega
          have hC2 : (1 : Int) ≤ (C 0 : Int) := by omega
          have hC3 : (16 : Int) ≤ (C 0 : Int) := by omega
          replace HM2 := Lib.hid HM2.out.drew
          clear x0 x1 x2 x3
          obtain ⟨x0, x1, x2, x3⟩ := HM2.out.box.two
          refine wp_region_any (by kernel_rfl) ?_
          refine wpAny_take (i := 0) (oi := ⟨some 68, _, _, _, _, _⟩) (v := ?vvv1) rfl (by kernel_rfl) (by kernel_rfl) (by kernel_rfl) (fun _ _ _ h => h) (Or.inl ⟨by rfl, ?yyv1⟩) ?rrv1
          case yyv1 => (intro w; go_simp; (try with_reducible rfl))
          try simp only [Act.put, List.setIfInBounds_toArray, List.set_cons_zero, List.set_cons_succ]
          refine wpAny_take (i := 2) (oi := ⟨some 70, _, _, _, _, _⟩) (v := ?vvv2) rfl (by kernel_rfl) (by kernel_rfl) (by kernel_rfl) (fun _ _ _ h => h) (Or.inl ⟨by rfl, ?yyv2⟩) ?rrv2
          case yyv2 => (intro w; go_simp; (try with_reducible rfl))
          try simp only [Act.put, List.setIfInBounds_toArray, List.set_cons_zero, List.set_cons_succ]
          refine wpAny_ready (rs := [1, 3]) (by kernel_rfl) (by simp) ?_
          refine AllReady.cons (o := ⟨some 69, _, _, _, _, _⟩) rfl (fun K hK => ?stv3_0) (AllReady.cons (o := ⟨some 71, _, _, _, _, _⟩) rfl (fun K hK => ?stv3_1) AllReady.nil)
          case stv3_0 =>
            go_simp
            refine hK _ _ ?_
            clear hK K
            try simp only [Act.put, List.setIfInBounds_toArray, List.set_cons_zero, List.set_cons_succ]
            refine wpAny_ready (rs := [3]) (by kernel_rfl) (by simp) ?_
            refine AllReady.cons (o := ⟨some 71, _, _, _, _, _⟩) rfl (fun K hK => ?stv4_0) AllReady.nil
            case stv4_0 =>
              go_simp
              refine hK _ _ ?_
              clear hK K
              try simp only [Act.put, List.setIfInBounds_toArray, List.set_cons_zero, List.set_cons_succ]
              refine wpAny_take (i := 4) (oi := ⟨some 72, _, _, _, _, _⟩) (v := ?vvv5) rfl (by kernel_rfl) (by kernel_rfl) (by kernel_rfl) (fun _ _ _ h => h) (Or.inl ⟨by rfl, ?yyv5⟩) ?rrv5
              case yyv5 => (intro w; go_simp; (try with_reducible rfl))
              try simp only [Act.put, List.setIfInBounds_toArray, List.set_cons_zero, List.set_cons_succ]
              refine wpAny_ready (rs := [5]) (by kernel_rfl) (by simp) ?_
              refine AllReady.cons (o := ⟨some 73, _, _, _, _, _⟩) rfl (fun K hK => ?stv6_0) AllReady.nil
              case stv6_0 =>
                go_simp
                refine hK _ _ ?_
                clear hK K
                try simp only [Act.put, List.setIfInBounds_toArray, List.set_cons_zero, List.set_cons_succ]
                refine wpAny_take (i := 6) (oi := ⟨some 74, _, _, _, _, _⟩) (v := ?vvv7) rfl (by kernel_rfl) (by kernel_rfl) (by kernel_rfl) (fun _ _ _ h => h) (Or.inl ⟨by rfl, ?yyv7⟩) ?rrv7
                case yyv7 => (intro w; go_simp; (try with_reducible rfl))
                try simp only [Act.put, List.setIfInBounds_toArray, List.set_cons_zero, List.set_cons_succ]
                refine wpAny_take (i := 7) (oi := ⟨some 75, _, _, _, _, _⟩) (v := ?vvv8) rfl (by kernel_rfl) (by kernel_rfl) (by kernel_rfl) (fun _ _ _ h => h) (Or.inl ⟨by rfl, ?yyv8⟩) ?rrv8
                case yyv8 => (intro w; go_simp; (try with_reducible rfl))
                try simp only [Act.put, List.setIfInBounds_toArray, List.set_cons_zero, List.set_cons_succ]
                refine wpAny_ready (rs := [8]) (by kernel_rfl) (by simp) ?_
                refine AllReady.cons (o := ⟨none, _, _, _, _, _⟩) rfl (fun K hK => ?stv9_0) AllReady.nil
                case stv9_0 =>
                  go_simp
                  refine hK _ _ ?_
                  clear hK K
                  try simp only [Act.put, List.setIfInBounds_toArray, List.set_cons_zero, List.set_cons_succ]
                  refine wpAny_done (by kernel_rfl) ?_ _
                  (first | go_wp2_with fail | skip)
                  have hne : g3 ≠ gv := fun e => HM2.out.no.b (congrArg some e.symm)
                  have D5 := HM2.out.k.short HN0.out H160.out
                  have HF := Lib.hid (HM2.out.fin (i := 0) (u := .slice (some ⟨G 0, 1, none⟩) 15 (C 0 - 1)) d0 hne D5)
                  have HSF := Lib.hid (shortD_sm HSM.out HN0.out)
                  clear D5 x0 x1 x2 x3 d0 d1 d2 d3
                  go_meet
                  exact ⟨_, _, _, HSF, HF⟩
          case stv3_1 =>
            go_simp
            refine hK _ _ ?_
            clear hK K
            try simp only [Act.put, List.setIfInBounds_toArray, List.set_cons_zero, List.set_cons_succ]
            refine wpAny_take (i := 4) (oi := ⟨some 72, _, _, _, _, _⟩) (v := ?vvv10) rfl (by kernel_rfl) (by kernel_rfl) (by kernel_rfl) (fun _ _ _ h => h) (Or.inl ⟨by rfl, ?yyv10⟩) ?rrv10
            case yyv10 => (intro w; go_simp; (try with_reducible rfl))
            try simp only [Act.put, List.setIfInBounds_toArray, List.set_cons_zero, List.set_cons_succ]
            refine wpAny_ready (rs := [1, 5]) (by kernel_rfl) (by simp) ?_
            refine AllReady.cons (o := ⟨some 69, _, _, _, _, _⟩) rfl (fun K hK => ?stv11_0) (AllReady.cons (o := ⟨some 73, _, _, _, _, _⟩) rfl (fun K hK => ?stv11_1) AllReady.nil)
            case stv11_0 =>
              go_simp
              refine hK _ _ ?_
              clear hK K
              try simp only [Act.put, List.setIfInBounds_toArray, List.set_cons_zero, List.set_cons_succ]
              refine wpAny_ready (rs := [5]) (by kernel_rfl) (by simp) ?_
              refine AllReady.cons (o := ⟨some 73, _, _, _, _, _⟩) rfl (fun K hK => ?stv12_0) AllReady.nil
              case stv12_0 =>
                go_simp
                refine hK _ _ ?_
                clear hK K
                try simp only [Act.put, List.setIfInBounds_toArray, List.set_cons_zero, List.set_cons_succ]
                refine wpAny_take (i := 6) (oi := ⟨some 74, _, _, _, _, _⟩) (v := ?vvv13) rfl (by kernel_rfl) (by kernel_rfl) (by kernel_rfl) (fun _ _ _ h => h) (Or.inl ⟨by rfl, ?yyv13⟩) ?rrv13
                case yyv13 => (intro w; go_simp; (try with_reducible rfl))
                try simp only [Act.put, List.setIfInBounds_toArray, List.set_cons_zero, List.set_cons_succ]
                refine wpAny_take (i := 7) (oi := ⟨some 75, _, _, _, _, _⟩) (v := ?vvv14) rfl (by kernel_rfl) (by kernel_rfl) (by kernel_rfl) (fun _ _ _ h => h) (Or.inl ⟨by rfl, ?yyv14⟩) ?rrv14
                case yyv14 => (intro w; go_simp; (try with_reducible rfl))
                try simp only [Act.put, List.setIfInBounds_toArray, List.set_cons_zero, List.set_cons_succ]
                refine wpAny_ready (rs := [8]) (by kernel_rfl) (by simp) ?_
                refine AllReady.cons (o := ⟨none, _, _, _, _, _⟩) rfl (fun K hK => ?stv15_0) AllReady.nil
                case stv15_0 =>
                  go_simp
                  refine hK _ _ ?_
                  clear hK K
                  try simp only [Act.put, List.setIfInBounds_toArray, List.set_cons_zero, List.set_cons_succ]
                  refine wpAny_done (by kernel_rfl) ?_ _
                  (first | go_wp2_with fail | skip)
                  have hne : g3 ≠ gv := fun e => HM2.out.no.b (congrArg some e.symm)
                  have D5 := HM2.out.k.short HN0.out H160.out
                  have HF := Lib.hid (HM2.out.fin (i := 0) (u := .slice (some ⟨G 0, 1, none⟩) 15 (C 0 - 1)) d0 hne D5)
                  have HSF := Lib.hid (shortD_sm HSM.out HN0.out)
                  clear D5 x0 x1 x2 x3 d0 d1 d2 d3
                  go_meet
                  exact ⟨_, _, _, HSF, HF⟩
            case stv11_1 =>
              go_simp
              refine hK _ _ ?_
              clear hK K
              try simp only [Act.put, List.setIfInBounds_toArray, List.set_cons_zero, List.set_cons_succ]
              refine wpAny_take (i := 6) (oi := ⟨some 74, _, _, _, _, _⟩) (v := ?vvv16) rfl (by kernel_rfl) (by kernel_rfl) (by kernel_rfl) (fun _ _ _ h => h) (Or.inl ⟨by rfl, ?yyv16⟩) ?rrv16
              case yyv16 => (intro w; go_simp; (try with_reducible rfl))
              try simp only [Act.put, List.setIfInBounds_toArray, List.set_cons_zero, List.set_cons_succ]
              refine wpAny_ready (rs := [1]) (by kernel_rfl) (by simp) ?_
              refine AllReady.cons (o := ⟨some 69, _, _, _, _, _⟩) rfl (fun K hK => ?stv17_0) AllReady.nil
              case stv17_0 =>
                go_simp
                refine hK _ _ ?_
                clear hK K
                try simp only [Act.put, List.setIfInBounds_toArray, List.set_cons_zero, List.set_cons_succ]
                refine wpAny_take (i := 7) (oi := ⟨some 75, _, _, _, _, _⟩) (v := ?vvv18) rfl (by kernel_rfl) (by kernel_rfl) (by kernel_rfl) (fun _ _ _ h => h) (Or.inl ⟨by rfl, ?yyv18⟩) ?rrv18
                case yyv18 => (intro w; go_simp; (try with_reducible rfl))
                try simp only [Act.put, List.setIfInBounds_toArray, List.set_cons_zero, List.set_cons_succ]
                refine wpAny_ready (rs := [8]) (by kernel_rfl) (by simp) ?_
                refine AllReady.cons (o := ⟨none, _, _, _, _, _⟩) rfl (fun K hK => ?stv19_0) AllReady.nil
                case stv19_0 =>
                  go_simp
                  refine hK _ _ ?_
                  clear hK K
                  try simp only [Act.put, List.setIfInBounds_toArray, List.set_cons_zero, List.set_cons_succ]
                  refine wpAny_done (by kernel_rfl) ?_ _
                  (first | go_wp2_with fail | skip)
                  have hne : g3 ≠ gv := fun e => HM2.out.no.b (congrArg some e.symm)
                  have D5 := HM2.out.k.short HN0.out H160.out
                  have HF := Lib.hid (HM2.out.fin (i := 0) (u := .slice (some ⟨G 0, 1, none⟩) 15 (C 0 - 1)) d0 hne D5)
                  have HSF := Lib.hid (shortD_sm HSM.out HN0.out)
                  clear D5 x0 x1 x2 x3 d0 d1 d2 d3
                  go_meet
                  exact ⟨_, _, _, HSF, HF⟩
        have n2 : (c == 2) = false := by simpa using e2
        by_cases e3 : c = 3
        · subst e3
          by_cases hm0 : 0 < m
          · have hm1 : (0 : Int) < (m : Int) := by omega
            have hm2 : (1 : Int) ≤ (m : Int) := by omega
            have hm3 : (m : Int) ≤ 1000000 := by omega
            obtain ⟨ga, rfl, -, hga, -, -, -, -, -, -⟩ := HM2.out.k.atO (k := 0) (by rw [HM.out]; exact hm0)
            go_upto_region 17 with fail
            replace HM2 := Lib.hid HM2.out.drew
            clear x0 x1 x2 x3
            obtain ⟨x0, x1, x2, x3⟩ := HM2.out.box.two
            refine wp_region_any (by kernel_rfl) ?_
            refine wpAny_take (i := 0) (oi := ⟨some 82, _, _, _, _, _⟩) (v := ?vvu1) rfl (by kernel_rfl) (by kernel_rfl) (by kernel_rfl) (fun _ _ _ h => h) (Or.inl ⟨by rfl, ?yyu1⟩) ?rru1
            case yyu1 => (intro w; go_simp; (try with_reducible rfl))
            try simp only [Act.put, List.setIfInBounds_toArray, List.set_cons_zero, List.set_cons_succ]
            refine wpAny_take (i := 2) (oi := ⟨some 84, _, _, _, _, _⟩) (v := ?vvu2) rfl (by kernel_rfl) (by kernel_rfl) (by kernel_rfl) (fun _ _ _ h => h) (Or.inl ⟨by rfl, ?yyu2⟩) ?rru2
            case yyu2 => (intro w; go_simp; (try with_reducible rfl))
            try simp only [Act.put, List.setIfInBounds_toArray, List.set_cons_zero, List.set_cons_succ]
            refine wpAny_take (i := 3) (oi := ⟨some 85, _, _, _, _, _⟩) (v := ?vvu3) rfl (by kernel_rfl) (by kernel_rfl) (by kernel_rfl) (fun _ _ _ h => h) (Or.inl ⟨by rfl, ?yyu3⟩) ?rru3
            case yyu3 => (intro w; go_simp; (try with_reducible rfl))
            try simp only [Act.put, List.setIfInBounds_toArray, List.set_cons_zero, List.set_cons_succ]
            refine wpAny_take (i := 7) (oi := ⟨some 89, _, _, _, _, _⟩) (v := ?vvu4) rfl (by kernel_rfl) (by kernel_rfl) (by kernel_rfl) (fun _ _ _ h => h) (Or.inl ⟨by rfl, ?yyu4⟩) ?rru4
            case yyu4 => (intro w; go_simp; (try with_reducible rfl))
            try simp only [Act.put, List.setIfInBounds_toArray, List.set_cons_zero, List.set_cons_succ]
            refine wpAny_ready (rs := [1, 4]) (by kernel_rfl) (by simp) ?_
            refine AllReady.cons (o := ⟨some 83, _, _, _, _, _⟩) rfl (fun K hK => ?stu5_0) (AllReady.cons (o := ⟨some 86, _, _, _, _, _⟩) rfl (fun K hK => ?stu5_1) AllReady.nil)
            case stu5_0 =>
              go_simp
              refine hK _ _ ?_
              clear hK K
              try simp only [Act.put, List.setIfInBounds_toArray, List.set_cons_zero, List.set_cons_succ]
              refine wpAny_ready (rs := [4]) (by kernel_rfl) (by simp) ?_
              refine AllReady.cons (o := ⟨some 86, _, _, _, _, _⟩) rfl (fun K hK => ?stu6_0) AllReady.nil
              case stu6_0 =>
                go_simp
                refine hK _ _ ?_
                clear hK K
                try simp only [Act.put, List.setIfInBounds_toArray, List.set_cons_zero, List.set_cons_succ]
                refine wpAny_take (i := 5) (oi := ⟨some 87, _, _, _, _, _⟩) (v := ?vvu7) rfl (by kernel_rfl) (by kernel_rfl) (by kernel_rfl) (fun _ _ _ h => h) (Or.inl ⟨by rfl, ?yyu7⟩) ?rru7
                case yyu7 => (intro w; go_simp; (try with_reducible rfl))
                try simp only [Act.put, List.setIfInBounds_toArray, List.set_cons_zero, List.set_cons_succ]
                refine wpAny_ready (rs := [6]) (by kernel_rfl) (by simp) ?_
                refine AllReady.cons (o := ⟨some 88, _, _, _, _, _⟩) rfl (fun K hK => ?stu8_0) AllReady.nil
                case stu8_0 =>
                  go_simp
                  with_reducible refine (next_x _ _ _ _ hm2 hm3 HM2.out.tp).mono ?_
                  rintro e tq1 ⟨q1, q10, q11, rfl, T5, g5⟩
                  replace HM2 := Lib.hid (HM2.out.next T5 g5)
                  clear T5 g5 x0 x1 x2 x3
                  obtain ⟨x0, x1, x2, x3⟩ := HM2.out.box.two
                  obtain ⟨k, rfl⟩ := Int.eq_ofNat_of_zero_le q10
                  have hkm : k < m := by omega
                  have HKO : Hid (k < d.o.length) := Lib.hid (by rw [HM.out]; exact hkm)
                  obtain ⟨e0, e1, e2, e3, e4, e5, e6, e7⟩ := HM2.out.k.atG HKO.out
                  have hne : g3 ≠ ga := fun e => HM2.out.no.a (congrArg some e.symm)
                  have hk5 : (0 : Int) ≤ (k : Int) := by omega
                  obtain ⟨r, hr⟩ : ∃ r, (d.o.getD k zDs).r = r := ⟨_, rfl⟩
                  obtain ⟨oo, hoo⟩ : ∃ oo, (d.o.getD k zDs).o = oo := ⟨_, rfl⟩
                  have HRV := Lib.hid hr
                  have HOV := Lib.hid hoo
                  rw [hr] at e6
                  rw [hoo] at e4
                  have f4 := e7 (k * 5 + 4)
                  have f2 := e7 (k * 5 + 2)
                  clear e2 e3 e5 e7 hr hoo
                  dsimp only
                  refine hK _ _ ?_
                  clear hK K
                  try simp only [Act.put, List.setIfInBounds_toArray, List.set_cons_zero, List.set_cons_succ]
                  refine wpAny_ready (rs := [8]) (by kernel_rfl) (by simp) ?_
                  refine AllReady.cons (o := ⟨some 90, _, _, _, _, _⟩) rfl (fun K hK => ?stu9_0) AllReady.nil
                  case stu9_0 =>
                    go_simp
                    have hb2 := Nat.le_trans hbw HM2.out.gr.size
                    with_reducible refine (odd_x _ _ _ HM2.out.tp hb2).mono ?_
                    rintro e tq2 ⟨z, rfl, T5, g5⟩
                    replace HM2 := Lib.hid (HM2.out.next T5 g5)
                    clear T5 g5 x0 x1 x2 x3
                    obtain ⟨x0, x1, x2, x3⟩ := HM2.out.box.two
                    clear e0 e1 e4 e6 f4 f2
                    obtain ⟨e0, e1, -, -, e4, -, e6, e7⟩ := HM2.out.k.atG HKO.out
                    rw [HRV.out] at e6
                    rw [HOV.out] at e4
                    have f4 := e7 (k * 5 + 4)
                    have f2 := e7 (k * 5 + 2)
                    clear e7
                    dsimp only
                    refine hK _ _ ?_
                    clear hK K
                    try simp only [Act.put, List.setIfInBounds_toArray, List.set_cons_zero, List.set_cons_succ]
                    refine wpAny_take (i := 9) (oi := ⟨some 91, _, _, _, _, _⟩) (v := ?vvu10) rfl (by kernel_rfl) (by kernel_rfl) (by kernel_rfl) (fun _ _ _ h => h) (Or.inl ⟨by rfl, ?yyu10⟩) ?rru10
                    case yyu10 => (intro w; go_simp; (try with_reducible rfl))
                    try simp only [Act.put, List.setIfInBounds_toArray, List.set_cons_zero, List.set_cons_succ]
                    refine wpAny_take (i := 10) (oi := ⟨some 92, _, _, _, _, _⟩) (v := ?vvu11) rfl (by kernel_rfl) (by kernel_rfl) (by kernel_rfl) (fun _ _ _ h => h) (Or.inl ⟨by rfl, ?yyu11⟩) ?rru11
                    case yyu11 => (intro w; go_simp; (try with_reducible rfl))
                    try simp only [Act.put, List.setIfInBounds_toArray, List.set_cons_zero, List.set_cons_succ]
                    refine wpAny_ready (rs := [11]) (by kernel_rfl) (by simp) ?_
                    refine AllReady.cons (o := ⟨none, _, _, _, _, _⟩) rfl (fun K hK => ?stu12_0) AllReady.nil
                    case stu12_0 =>
                      go_simp
                      refine hK _ _ ?_
                      clear hK K
                      try simp only [Act.put, List.setIfInBounds_toArray, List.set_cons_zero, List.set_cons_succ]
                      refine wpAny_done (by kernel_rfl) ?_ _
                      (first | go_wp2_with fail | skip)
                      have K5 := HM2.out.k.storeO (k := k) (j := 2) HKO.out (by omega) (u := .int .i64 z) (y := { d.o.getD k zDs with o := z }) rfl
                      have HF := Lib.hid (HM2.out.fin (i := k * 5 + 2) (u := .int .i64 z) e0 hne K5.dd)
                      have HSF : Hid (SmD ⟨d.t, d.o.set k { d.o.getD k zDs with o := z }⟩) := Lib.hid ⟨by show (d.o.set k _).length ≤ 1000; rw [List.length_set]; exact HSM.out.o, HSM.out.t1, HSM.out.t3, HSM.out.r⟩
                      clear K5 x0 x1 x2 x3 e0 e1 e4 e6 f4 f2
                      generalize World.setCell _ _ _ = w7 at *
                      go_meet
                      exact ⟨_, _, _, HSF, HF⟩
            case stu5_1 =>
              go_simp
              refine hK _ _ ?_
              clear hK K
              try simp only [Act.put, List.setIfInBounds_toArray, List.set_cons_zero, List.set_cons_succ]
              refine wpAny_take (i := 5) (oi := ⟨some 87, _, _, _, _, _⟩) (v := ?vvu13) rfl (by kernel_rfl) (by kernel_rfl) (by kernel_rfl) (fun _ _ _ h => h) (Or.inl ⟨by rfl, ?yyu13⟩) ?rru13
              case yyu13 => (intro w; go_simp; (try with_reducible rfl))
              try simp only [Act.put, List.setIfInBounds_toArray, List.set_cons_zero, List.set_cons_succ]
              refine wpAny_ready (rs := [1, 6]) (by kernel_rfl) (by simp) ?_
              refine AllReady.cons (o := ⟨some 83, _, _, _, _, _⟩) rfl (fun K hK => ?stu14_0) (AllReady.cons (o := ⟨some 88, _, _, _, _, _⟩) rfl (fun K hK => ?stu14_1) AllReady.nil)
              case stu14_0 =>
                go_simp
                refine hK _ _ ?_
                clear hK K
                try simp only [Act.put, List.setIfInBounds_toArray, List.set_cons_zero, List.set_cons_succ]
                refine wpAny_ready (rs := [6]) (by kernel_rfl) (by simp) ?_
                refine AllReady.cons (o := ⟨some 88, _, _, _, _, _⟩) rfl (fun K hK => ?stu15_0) AllReady.nil
                case stu15_0 =>
                  go_simp
                  with_reducible refine (next_x _ _ _ _ hm2 hm3 HM2.out.tp).mono ?_
                  rintro e tq1 ⟨q1, q10, q11, rfl, T5, g5⟩
                  replace HM2 := Lib.hid (HM2.out.next T5 g5)
                  clear T5 g5 x0 x1 x2 x3
                  obtain ⟨x0, x1, x2, x3⟩ := HM2.out.box.two
                  obtain ⟨k, rfl⟩ := Int.eq_ofNat_of_zero_le q10
                  have hkm : k < m := by omega
                  have HKO : Hid (k < d.o.length) := Lib.hid (by rw [HM.out]; exact hkm)
                  obtain ⟨e0, e1, e2, e3, e4, e5, e6, e7⟩ := HM2.out.k.atG HKO.out
                  have hne : g3 ≠ ga := fun e => HM2.out.no.a (congrArg some e.symm)
                  have hk5 : (0 : Int) ≤ (k : Int) := by omega
                  obtain ⟨r, hr⟩ : ∃ r, (d.o.getD k zDs).r = r := ⟨_, rfl⟩
                  obtain ⟨oo, hoo⟩ : ∃ oo, (d.o.getD k zDs).o = oo := ⟨_, rfl⟩
                  have HRV := Lib.hid hr
                  have HOV := Lib.hid hoo
                  rw [hr] at e6
                  rw [hoo] at e4
                  have f4 := e7 (k * 5 + 4)
                  have f2 := e7 (k * 5 + 2)
                  clear e2 e3 e5 e7 hr hoo
                  dsimp only
                  refine hK _ _ ?_
                  clear hK K
                  try simp only [Act.put, List.setIfInBounds_toArray, List.set_cons_zero, List.set_cons_succ]
                  refine wpAny_ready (rs := [8]) (by kernel_rfl) (by simp) ?_
                  refine AllReady.cons (o := ⟨some 90, _, _, _, _, _⟩) rfl (fun K hK => ?stu16_0) AllReady.nil
                  case stu16_0 =>
                    go_simp
                    have hb2 := Nat.le_trans hbw HM2.out.gr.size
                    with_reducible refine (odd_x _ _ _ HM2.out.tp hb2).mono ?_
                    rintro e tq2 ⟨z, rfl, T5, g5⟩
                    replace HM2 := Lib.hid (HM2.out.next T5 g5)
                    clear T5 g5 x0 x1 x2 x3
                    obtain ⟨x0, x1, x2, x3⟩ := HM2.out.box.two
                    clear e0 e1 e4 e6 f4 f2
                    obtain ⟨e0, e1, -, -, e4, -, e6, e7⟩ := HM2.out.k.atG HKO.out
                    rw [HRV.out] at e6
                    rw [HOV.out] at e4
                    have f4 := e7 (k * 5 + 4)
                    have f2 := e7 (k * 5 + 2)
                    clear e7
                    dsimp only
                    refine hK _ _ ?_
                    clear hK K
                    try simp only [Act.put, List.setIfInBounds_toArray, List.set_cons_zero, List.set_cons_succ]
                    refine wpAny_take (i := 9) (oi := ⟨some 91, _, _, _, _, _⟩) (v := ?vvu17) rfl (by kernel_rfl) (by kernel_rfl) (by kernel_rfl) (fun _ _ _ h => h) (Or.inl ⟨by rfl, ?yyu17⟩) ?rru17
                    case yyu17 => (intro w; go_simp; (try with_reducible rfl))
                    try simp only [Act.put, List.setIfInBounds_toArray, List.set_cons_zero, List.set_cons_succ]
                    refine wpAny_take (i := 10) (oi := ⟨some 92, _, _, _, _, _⟩) (v := ?vvu18) rfl (by kernel_rfl) (by kernel_rfl) (by kernel_rfl) (fun _ _ _ h => h) (Or.inl ⟨by rfl, ?yyu18⟩) ?rru18
                    case yyu18 => (intro w; go_simp; (try with_reducible rfl))
                    try simp only [Act.put, List.setIfInBounds_toArray, List.set_cons_zero, List.set_cons_succ]
                    refine wpAny_ready (rs := [11]) (by kernel_rfl) (by simp) ?_
                    refine AllReady.cons (o := ⟨none, _, _, _, _, _⟩) rfl (fun K hK => ?stu19_0) AllReady.nil
                    case stu19_0 =>
                      go_simp
                      refine hK _ _ ?_
                      clear hK K
                      try simp only [Act.put, List.setIfInBounds_toArray, List.set_cons_zero, List.set_cons_succ]
                      refine wpAny_done (by kernel_rfl) ?_ _
                      (first | go_wp2_with fail | skip)
                      have K5 := HM2.out.k.storeO (k := k) (j := 2) HKO.out (by omega) (u := .int .i64 z) (y := { d.o.getD k zDs with o := z }) rfl
                      have HF := Lib.hid (HM2.out.fin (i := k * 5 + 2) (u := .int .i64 z) e0 hne K5.dd)
                      have HSF : Hid (SmD ⟨d.t, d.o.set k { d.o.getD k zDs with o := z }⟩) := Lib.hid ⟨by show (d.o.set k _).length ≤ 1000; rw [List.length_set]; exact HSM.out.o, HSM.out.t1, HSM.out.t3, HSM.out.r⟩
                      clear K5 x0 x1 x2 x3 e0 e1 e4 e6 f4 f2
                      generalize World.setCell _ _ _ = w7 at *
                      go_meet
                      exact ⟨_, _, _, HSF, HF⟩
              case stu14_1 =>
                go_simp
                with_reducible refine (next_x _ _ _ _ hm2 hm3 HM2.out.tp).mono ?_
                rintro e tq1 ⟨q1, q10, q11, rfl, T5, g5⟩
                replace HM2 := Lib.hid (HM2.out.next T5 g5)
                clear T5 g5 x0 x1 x2 x3
                obtain ⟨x0, x1, x2, x3⟩ := HM2.out.box.two
                obtain ⟨k, rfl⟩ := Int.eq_ofNat_of_zero_le q10
                have hkm : k < m := by omega
                have HKO : Hid (k < d.o.length) := Lib.hid (by rw [HM.out]; exact hkm)
                obtain ⟨e0, e1, e2, e3, e4, e5, e6, e7⟩ := HM2.out.k.atG HKO.out
                have hne : g3 ≠ ga := fun e => HM2.out.no.a (congrArg some e.symm)
                have hk5 : (0 : Int) ≤ (k : Int) := by omega
                obtain ⟨r, hr⟩ : ∃ r, (d.o.getD k zDs).r = r := ⟨_, rfl⟩
                obtain ⟨oo, hoo⟩ : ∃ oo, (d.o.getD k zDs).o = oo := ⟨_, rfl⟩
                have HRV := Lib.hid hr
                have HOV := Lib.hid hoo
                rw [hr] at e6
                rw [hoo] at e4
                have f4 := e7 (k * 5 + 4)
                have f2 := e7 (k * 5 + 2)
                clear e2 e3 e5 e7 hr hoo
                dsimp only
                refine hK _ _ ?_
                clear hK K
                try simp only [Act.put, List.setIfInBounds_toArray, List.set_cons_zero, List.set_cons_succ]
                refine wpAny_ready (rs := [1, 8]) (by kernel_rfl) (by simp) ?_
                refine AllReady.cons (o := ⟨some 83, _, _, _, _, _⟩) rfl (fun K hK => ?stu20_0) (AllReady.cons (o := ⟨some 90, _, _, _, _, _⟩) rfl (fun K hK => ?stu20_1) AllReady.nil)
                case stu20_0 =>
                  go_simp
                  refine hK _ _ ?_
                  clear hK K
                  try simp only [Act.put, List.setIfInBounds_toArray, List.set_cons_zero, List.set_cons_succ]
                  refine wpAny_ready (rs := [8]) (by kernel_rfl) (by simp) ?_
                  refine AllReady.cons (o := ⟨some 90, _, _, _, _, _⟩) rfl (fun K hK => ?stu21_0) AllReady.nil
                  case stu21_0 =>
                    go_simp
                    have hb2 := Nat.le_trans hbw HM2.out.gr.size
                    with_reducible refine (odd_x _ _ _ HM2.out.tp hb2).mono ?_
                    rintro e tq2 ⟨z, rfl, T5, g5⟩
                    replace HM2 := Lib.hid (HM2.out.next T5 g5)
                    clear T5 g5 x0 x1 x2 x3
                    obtain ⟨x0, x1, x2, x3⟩ := HM2.out.box.two
                    clear e0 e1 e4 e6 f4 f2
                    obtain ⟨e0, e1, -, -, e4, -, e6, e7⟩ := HM2.out.k.atG HKO.out
                    rw [HRV.out] at e6
                    rw [HOV.out] at e4
                    have f4 := e7 (k * 5 + 4)
                    have f2 := e7 (k * 5 + 2)
                    clear e7
                    dsimp only
                    refine hK _ _ ?_
                    clear hK K
                    try simp only [Act.put, List.setIfInBounds_toArray, List.set_cons_zero, List.set_cons_succ]
                    refine wpAny_take (i := 9) (oi := ⟨some 91, _, _, _, _, _⟩) (v := ?vvu22) rfl (by kernel_rfl) (by kernel_rfl) (by kernel_rfl) (fun _ _ _ h => h) (Or.inl ⟨by rfl, ?yyu22⟩) ?rru22
                    case yyu22 => (intro w; go_simp; (try with_reducible rfl))
                    try simp only [Act.put, List.setIfInBounds_toArray, List.set_cons_zero, List.set_cons_succ]
                    refine wpAny_take (i := 10) (oi := ⟨some 92, _, _, _, _, _⟩) (v := ?vvu23) rfl (by kernel_rfl) (by kernel_rfl) (by kernel_rfl) (fun _ _ _ h => h) (Or.inl ⟨by rfl, ?yyu23⟩) ?rru23
                    case yyu23 => (intro w; go_simp; (try with_reducible rfl))
                    try simp only [Act.put, List.setIfInBounds_toArray, List.set_cons_zero, List.set_cons_succ]
                    refine wpAny_ready (rs := [11]) (by kernel_rfl) (by simp) ?_
                    refine AllReady.cons (o := ⟨none, _, _, _, _, _⟩) rfl (fun K hK => ?stu24_0) AllReady.nil
                    case stu24_0 =>
                      go_simp
                      refine hK _ _ ?_
                      clear hK K
                      try simp only [Act.put, List.setIfInBounds_toArray, List.set_cons_zero, List.set_cons_succ]
                      refine wpAny_done (by kernel_rfl) ?_ _
                      (first | go_wp2_with fail | skip)
                      have K5 := HM2.out.k.storeO (k := k) (j := 2) HKO.out (by omega) (u := .int .i64 z) (y := { d.o.getD k zDs with o := z }) rfl
                      have HF := Lib.hid (HM2.out.fin (i := k * 5 + 2) (u := .int .i64 z) e0 hne K5.dd)
                      have HSF : Hid (SmD ⟨d.t, d.o.set k { d.o.getD k zDs with o := z }⟩) := Lib.hid ⟨by show (d.o.set k _).length ≤ 1000; rw [List.length_set]; exact HSM.out.o, HSM.out.t1, HSM.out.t3, HSM.out.r⟩
                      clear K5 x0 x1 x2 x3 e0 e1 e4 e6 f4 f2
                      generalize World.setCell _ _ _ = w7 at *
                      go_meet
                      exact ⟨_, _, _, HSF, HF⟩
                case stu20_1 =>
                  go_simp
                  have hb2 := Nat.le_trans hbw HM2.out.gr.size
                  with_reducible refine (odd_x _ _ _ HM2.out.tp hb2).mono ?_
                  rintro e tq2 ⟨z, rfl, T5, g5⟩
                  replace HM2 := Lib.hid (HM2.out.next T5 g5)
                  clear T5 g5 x0 x1 x2 x3
                  obtain ⟨x0, x1, x2, x3⟩ := HM2.out.box.two
                  clear e0 e1 e4 e6 f4 f2
                  obtain ⟨e0, e1, -, -, e4, -, e6, e7⟩ := HM2.out.k.atG HKO.out
                  rw [HRV.out] at e6
                  rw [HOV.out] at e4
                  have f4 := e7 (k * 5 + 4)
                  have f2 := e7 (k * 5 + 2)
                  clear e7
                  dsimp only
                  refine hK _ _ ?_
                  clear hK K
                  try simp only [Act.put, List.setIfInBounds_toArray, List.set_cons_zero, List.set_cons_succ]
                  refine wpAny_ready (rs := [1]) (by kernel_rfl) (by simp) ?_
                  refine AllReady.cons (o := ⟨some 83, _, _, _, _, _⟩) rfl (fun K hK => ?stu25_0) AllReady.nil
                  case stu25_0 =>
                    go_simp
                    refine hK _ _ ?_
                    clear hK K
                    try simp only [Act.put, List.setIfInBounds_toArray, List.set_cons_zero, List.set_cons_succ]
                    refine wpAny_take (i := 9) (oi := ⟨some 91, _, _, _, _, _⟩) (v := ?vvu26) rfl (by kernel_rfl) (by kernel_rfl) (by kernel_rfl) (fun _ _ _ h => h) (Or.inl ⟨by rfl, ?yyu26⟩) ?rru26
                    case yyu26 => (intro w; go_simp; (try with_reducible rfl))
                    try simp only [Act.put, List.setIfInBounds_toArray, List.set_cons_zero, List.set_cons_succ]
                    refine wpAny_take (i := 10) (oi := ⟨some 92, _, _, _, _, _⟩) (v := ?vvu27) rfl (by kernel_rfl) (by kernel_rfl) (by kernel_rfl) (fun _ _ _ h => h) (Or.inl ⟨by rfl, ?yyu27⟩) ?rru27
                    case yyu27 => (intro w; go_simp; (try with_reducible rfl))
                    try simp only [Act.put, List.setIfInBounds_toArray, List.set_cons_zero, List.set_cons_succ]
                    refine wpAny_ready (rs := [11]) (by kernel_rfl) (by simp) ?_
                    refine AllReady.cons (o := ⟨none, _, _, _, _, _⟩) rfl (fun K hK => ?stu28_0) AllReady.nil
                    case stu28_0 =>
                      go_simp
                      refine hK _ _ ?_
                      clear hK K
                      try simp only [Act.put, List.setIfInBounds_toArray, List.set_cons_zero, List.set_cons_succ]
                      refine wpAny_done (by kernel_rfl) ?_ _
                      (first | go_wp2_with fail | skip)
                      have K5 := HM2.out.k.storeO (k := k) (j := 2) HKO.out (by omega) (u := .int .i64 z) (y := { d.o.getD k zDs with o := z }) rfl
                      have HF := Lib.hid (HM2.out.fin (i := k * 5 + 2) (u := .int .i64 z) e0 hne K5.dd)
                      have HSF : Hid (SmD ⟨d.t, d.o.set k { d.o.getD k zDs with o := z }⟩) := Lib.hid ⟨by show (d.o.set k _).length ≤ 1000; rw [List.length_set]; exact HSM.out.o, HSM.out.t1, HSM.out.t3, HSM.out.r⟩
                      clear K5 x0 x1 x2 x3 e0 e1 e4 e6 f4 f2
                      generalize World.setCell _ _ _ = w7 at *
                      go_meet
                      exact ⟨_, _, _, HSF, HF⟩
          · obtain rfl : m = 0 := by omega
            have HF := Lib.hid HM2.out.same
            have HSF := HSM
            go_wp2_with fail
            go_meet
            exact ⟨_, _, _, HSF, HF⟩
        have n3 : (c == 3) = false := by simpa using e3
        by_cases e4 : c = 4
        · subst e4
          have HRW := Lib.hid (HM2.out.k.o.alloc (.cells #[.int .i64 0, .int .i64 0, .int .i64 0, .int .i64 0, .int .i64 0] 34))
          have HBW := Lib.hid (HM2.out.box.alloc (.cells #[.int .i64 0, .int .i64 0, .int .i64 0, .int .i64 0, .int .i64 0] 34))
          have hzB : Bk ≤ (w5.alloc (.cells #[.int .i64 0, .int .i64 0, .int .i64 0, .int .i64 0, .int .i64 0] 34)).heap.size := by have := HM2.out.box.lt; have := HM2.out.bo; simp; omega
          have hl6 : d.o.length < 1000000 := by rw [HM.out]; omega
          have hna : ¬(Value.slice a2 m c2).ownBlock = some g3 := HM2.out.no.a
          have HSF : Hid (SmD ⟨d.t, d.o ++ [zDs]⟩) := Lib.hid ⟨by show (d.o ++ [zDs]).length ≤ 1000; rw [List.length_append, HM.out]; simp; omega, HSM.out.t1, HSM.out.t3, HSM.out.r⟩
          go_upto_region 19 with fail
          go_wp2_with (at_builtin; go_loud (
            refine wpList_append_row _ rfl _ _ 26 rfl Bk info_desc Try.underlying26 (by decide) (by decide) encDs_len (.slice a2 m c2) d.o rfl HRW.out w5.heap.size 1 zDs rfl (Mine.Own.new w5 _ _) encDs_one hl6 (by decide) hzB ?_
            intro g9 cap9 w9 R9 G9 o9
            have HF := Lib.hid (HM2.out.app ((Grew.refl w5).alloc _) R9 G9 o9)
            clear x0 x1 x2 x3
            obtain ⟨x0, x1, x2, x3⟩ := (HBW.out.keptN G9 (fun e => hna e)).two
            clear R9 G9 o9))
          clear x0 x1 x2 x3
          generalize World.setCell w9 _ _ = w7 at *
          go_meet
          exact ⟨_, _, _, HSF, HF⟩
        have n4 : (c == 4) = false := by simpa using e4
        have HF := Lib.hid HM2.out.same
        have HSF := HSM
        go_wp2_with fail
        go_meet
        exact ⟨_, _, _, HSF, HF⟩
      case rest =>
        obtain ⟨a9, v9, d9, HSF, HF⟩ := hcut
        obtain ⟨a8, c8, rfl, -, -⟩ := HF.out.dd.o.slice
        obtain ⟨v8, e8, rfl, -, -⟩ := HF.out.dd.t.slice
        generalize hl1 : d9.o.length = l1 at HF
        generalize hl2 : d9.t.length = l2 at HF
        clear hl1 hl2
        obtain ⟨x0, x1, x2, x3⟩ := HF.out.box.two
        obtain ⟨r0, r1, r2, r3⟩ := HF.out.res.two
        go_wp2
        generalize hw : World.setCell (World.setCell _ _ _) _ _ = E
        obtain ⟨k0, k1, -, -⟩ := (HF.out.res.store2D hw).two
        refine bodyPost_ret (v := .agg #[.slice a8 l1 c8, .slice v8 l2 e8]) (by simp [results, Try.results7, go_sem, k0, k1]) rfl ?_
        have hlo := HF.out.lo
        refine ⟨_, _, _, rfl, HSF.out, ((HF.out.dd.past (grown2D hw) hlo).toP fun x h => by omega), ?_, ?_⟩
        · rw [← hw]
          exact (HF.out.tp.set (p := ⟨w.heap.size, 0, none⟩) (show B ≤ w.heap.size from hbw) _).set (p := ⟨w.heap.size, 1, none⟩) (show B ≤ w.heap.size from hbw) _
        · rw [← hw]
          exact grown_set (p := ⟨w.heap.size, 1, none⟩) (grown_set (p := ⟨w.heap.size, 0, none⟩) HF.out.gr (.inr (Nat.le_refl _)) _) (.inr (Nat.le_refl _)) _
end Go.Proofs.Ytokijggckiidjaa
