/- slices.Clone, copied of the program (layer 18). -/
import Derived.Test.YtokijggckiidjaaDp3
import Derived.Test.YtokijggckiidjaaDpC
namespace Go.Mine
open Go Go.RowKit
abbrev Sl3 := Option Addr × Nat × Nat
def mkS (s : Sl3) : Value := .slice s.1 s.2.1 s.2.2
def eS (s : Sl3) : List Value := [mkS s]
theorem eS_len (s : Sl3) : (eS s).length = 1 := rfl
theorem eS_one {s : Sl3} : ∀ u ∈ eS s, u.oneCell' = true := fun u hu => by rw [List.mem_singleton.1 hu]; rfl
theorem eS_map (ss : List Sl3) : (ss.map mkS).flatMap eV = ss.flatMap eS := by rw [List.flatMap_map]; rfl
def unS : Value → Sl3
  | .slice a n c => (a, n, c)
  | _ => (none, 0, 0)
theorem unS_map {vs : List Value} (h : ∀ k, k < vs.length → ∃ a n c, vs.getD k nilV = .slice a n c) : (vs.map unS).map mkS = vs := by
  refine List.ext_getElem (by simp) fun k h1 h2 => ?_
  obtain ⟨a, n, c, e⟩ := h k h2
  rw [getD_get h2] at e
  simp [e, unS, mkS]
theorem RowE.ofS {T : TypeId} {w : World} {B : Nat} {v : Value} {ss : List Sl3} (h : RowE T 1 eS w B v ss) : RowE T 1 eV w B v (ss.map mkS) := by
  unfold RowE at h ⊢
  rw [List.length_map, eS_map]; exact h
theorem RdS.toS {w : World} {B : Nat} {v : Value} {ss : List Sl3} (h : RdS 1 eV w B v (ss.map mkS)) : RdS 1 eS w B v ss := by
  obtain ⟨a, c, h1, h2, h3, h4⟩ := h
  rw [List.length_map] at h1 h2
  refine ⟨a, c, h1, h2, h3, ?_⟩
  rcases h4 with h4 | ⟨b, o, e, hB, hb, hc⟩
  · exact .inl (List.map_eq_nil_iff.1 h4)
  · refine .inr ⟨b, o, e, hB, hb, fun k hk j hj => ?_⟩
    rw [hc k (by rw [List.length_map]; exact hk) j hj]
    simp [eV, eS]
theorem TbR.slices {w : World} {B : Nat} {T : List (List Int)} {vs : List Value} (hl : vs.length = T.length) (h : ∀ k, k < T.length → RdS 1 enc1 w B (vs.getD k nilV) (T.getD k [])) : ∀ k, k < vs.length → ∃ a n c, vs.getD k nilV = .slice a n c := fun k hk => by
  obtain ⟨a, c, e, -⟩ := h k (by rw [← hl]; exact hk)
  exact ⟨a, _, c, e⟩
/-- What has been copied: i tables. -/
structure CqW (w : World) (T To Ts Ti : TypeId) (a b : Value) (B g3 : Nat) (a' v : Value) (d : Dd) (vs : List Value) (i : Nat) (G C : Nat → Nat) (wr : World) : Prop where
  dbox : Own wr w.heap.size T #[a, b]
  res : Own wr (w.heap.size + 1) T #[.slice none 0 0, .slice none 0 0]
  box : Own wr g3 T #[a', v]
  o : RowE To 5 encDs wr B a' d.o
  t : TbP Ts Ti wr B v G C d.t vs i
  s1 : ∀ x, a'.ownBlock = some x → v.ownBlock ≠ some x
  s2 : ∀ x, a'.ownBlock = some x → ∀ k, k < i → G k ≠ x
  no : NoD a' v G i g3
  g : Grew w wr
  lo : w.heap.size + 2 ≤ B
  bo : B ≤ g3
section
variable {w wo wz : World} {T To Ts Ti : TypeId} {a b a' : Value} {B g3 : Nat} {d : Dd} {vs : List Value} {i : Nat} {G C : Nat → Nat}
theorem CqW.next {gv n c g : Nat} (h : CqW w T To Ts Ti a b B g3 a' (.slice (some ⟨gv, 0, none⟩) n c) d vs i G C wo) (hi : i < d.t.length) (hg : Grew wo wz) (hgg : wo.heap.size ≤ g) {m cap : Nat} (hm : m = (d.t.getD i []).length) {Z : List Int} (hz : RowE Ti 1 enc1 wz B (slV g m cap) Z) :
    CqW w T To Ts Ti a b B g3 a' (.slice (some ⟨gv, 0, none⟩) n c) d vs (i + 1) (fun k => if k = i then g else G k) (fun k => if k = i then cap else C k) ((wz.setCell ⟨gv, i, none⟩ (slV g m cap)).setCells g 0 ((d.t.getD i []).flatMap enc1)) := by
  have g1 : wz.grownBy (wz.setCell ⟨gv, i, none⟩ (slV g m cap)) (some gv) := grown_set (p := ⟨gv, i, none⟩) (grown_refl wz (some gv)) (.inl rfl) _
  have g2 := copy_grown (wz.setCell ⟨gv, i, none⟩ (slV g m cap)) g ((d.t.getD i []).flatMap enc1)
  have hgv := h.t.row.above gv rfl
  have hlo := h.lo
  have hbo := h.bo
  have hb3 := h.box.lt
  have hs := h.g.size
  have n1 : g3 ≠ gv := fun e => h.no.b (congrArg some e.symm)
  refine ⟨((h.dbox.grew hg).keptN g1 (fun e => by injection e with e; omega)).keptN g2 (fun e => by injection e with e; omega), ((h.res.grew hg).keptN g1 (fun e => by injection e with e; omega)).keptN g2 (fun e => by injection e with e; have := h.res.lt; omega),
    ((h.box.grew hg).keptN g1 (fun e => by injection e with e; exact n1 e.symm)).keptN g2 (fun e => by injection e with e; omega), ((h.o.grew hg).keptG g1 (fun x e e2 => ?_)).keptG g2 (fun x e e2 => ?_), h.t.next hi hg hgg hm hz, h.s1, fun x e k hk e2 => ?_, ⟨h.no.a, h.no.b, fun k hk e2 => ?_⟩, ((h.g.trans hg).past g1 (by omega)).past g2 (by omega), hlo, hbo⟩
  · injection e with e; subst e
    exact h.s1 _ e2 rfl
  · injection e with e; subst e
    have := h.o.lt _ e2
    omega
  · by_cases e3 : k = i
    · simp only [if_pos e3] at e2
      have := h.o.lt _ e
      omega
    · simp only [if_neg e3] at e2
      exact h.s2 x e k (by omega) e2
  · by_cases e3 : k = i
    · simp only [if_pos e3] at e2
      omega
    · simp only [if_neg e3] at e2
      exact h.no.g k (by omega) e2
/-- The box was made behind both copies. -/
theorem CqW.startA {w3 w4 : World} {v : Value} {B3 B4 : Nat} (hD : Own w4 w.heap.size T #[a, b]) (hR : Own w4 (w.heap.size + 1) T #[.slice none 0 0, .slice none 0 0]) (g : Grew w w4) (h3 : RowE To 5 encDs w3 B3 a' d.o) (hB3 : w.heap.size + 2 ≤ B3) (g34 : Grew w3 w4) (h4 : RowE Ts 1 eV w4 B4 v vs) (h34 : w3.heap.size ≤ B4) (hb3 : w.heap.size + 2 ≤ w3.heap.size) (hl : vs.length = d.t.length) :
    CqW w T To Ts Ti a b (w.heap.size + 2) w4.heap.size a' v d vs 0 G C (w4.alloc (.cells #[a', v] T)) := by
  have h5 := h4.alloc (.cells #[a', v] T)
  refine ⟨hD.alloc _, hR.alloc _, Own.new w4 T _, ((h3.grew g34).alloc _).wider hB3, TbP.start (h5.wider (by omega)) hl, fun x e e2 => ?_, fun x e k hk => absurd hk (Nat.not_lt_zero k), ⟨fun e => ?_, fun e => ?_, fun k hk => absurd hk (Nat.not_lt_zero k)⟩, g.alloc _, Nat.le_refl _, ?_⟩
  · have := h3.lt x e; have := h4.above x e2; omega
  · have := (h3.grew g34).lt _ e; omega
  · have := h4.lt _ e; omega
  · have := g34.size; omega
/-- The box was made ahead of one. -/
theorem CqW.startB {w3 w4 wf : World} {v z0 z1 : Value} {B3 B4 : Nat} (hD : Own w4 w.heap.size T #[a, b]) (hR : Own w4 (w.heap.size + 1) T #[.slice none 0 0, .slice none 0 0]) (g : Grew w w4) (h3 : RowE To 5 encDs w3 B3 a' d.o) (hB3 : w.heap.size + 2 ≤ B3) (g34 : Grew w3 w4) (h4 : RowE Ts 1 eV w4 B4 v vs) (h34 : w3.heap.size ≤ B4) (_ : w.heap.size + 2 ≤ w3.heap.size) (hl : vs.length = d.t.length)
    (hbox : Own w4 g3 T #[z0, z1]) (hg3 : w.heap.size + 2 ≤ g3) (hn : g3 < B3 ∨ w3.heap.size ≤ g3) (hn4 : g3 < B4) (hw : (w4.setCell ⟨g3, 0, none⟩ a').setCell ⟨g3, 1, none⟩ v = wf) : CqW w T To Ts Ti a b (w.heap.size + 2) g3 a' v d vs 0 G C wf := by
  have gr := grown2D hw
  have n3 : ∀ x, a'.ownBlock = some x → x ≠ g3 := fun x e => by have := h3.lt x e; have := h3.above x e; omega
  have n4 : ∀ x, v.ownBlock = some x → x ≠ g3 := fun x e => by have := h4.above x e; omega
  refine ⟨hD.far2D hw (by omega), hR.far2D hw (by omega), hbox.store2D hw, (((h3.grew g34).keptG gr (fun x e e2 => n3 x e2 (by injection e with e; exact e.symm)))).wider hB3, TbP.start ((h4.keptG gr (fun x e e2 => n4 x e2 (by injection e with e; exact e.symm))).wider (by omega)) hl, fun x e e2 => ?_, fun x e k hk => absurd hk (Nat.not_lt_zero k), ⟨fun e => n3 _ e rfl, fun e => n4 _ e rfl, fun k hk => absurd hk (Nat.not_lt_zero k)⟩, g.far2D hw (by omega), Nat.le_refl _, hg3⟩
  have := h3.lt x e; have := h4.above x e2; omega
theorem CqW.ret {v x y : Value} {wf : World} (h : CqW w T To Ts Ti a b B g3 a' v d vs d.t.length G C wo) (hw : (wo.setCell ⟨w.heap.size + 1, 0, none⟩ x).setCell ⟨w.heap.size + 1, 1, none⟩ y = wf) : Own wf (w.heap.size + 1) T #[x, y] ∧ DdK To Ts Ti wf w.heap.size a' v G C d ∧ Grew w wf := by
  have hlo := h.lo
  have k : DdK To Ts Ti wo B a' v G C d := ⟨h.o, h.t.done, h.s1, h.s2⟩
  exact ⟨h.res.store2D hw, (k.keptG (grown2D hw) (fun z e => by injection e with e; subst e; exact k.no_lo (by omega))).wider (by omega), h.g.far2D hw (by omega)⟩
end
end Go.Mine
namespace Go.Proofs.Ytokijggckiidjaa
open Go.ChangeShapes Go.WideShapes Go.ChangeAt Go.RowKit Go.Mine
theorem info_des : (Try.prog.info? 34).map (fun i => (i.zero, i.size, i.bytes)) = some (some (dsV zDs), 5, 40) := by kernel_rfl
set_option maxHeartbeats 1000000 in
theorem cloneD_p {B : Nat} {v : Value} {L : List Ds} {w : World} (h : RdS 5 encDs w B v L) (hl : L.length ≤ 1000) : Calls Try.prog 45 #[v] w (fun e w' => ∃ v, e = .returned v ∧ RowE 34 5 encDs w' w.heap.size v L ∧ Grew w w') := by
  obtain ⟨a, c, rfl, -, -⟩ := h.slice
  obtain ⟨-, hs, hlies⟩ := h.lies encDs_len
  have q22 : ∀ (w : World) (a : Option Addr) (n c n' c' : Nat), (binOp .eql 26 (.slice a n c) (.slice none n' c')).run Try.prog w = .ok (.bool a.isNone) w := fun w a n c n' c' => Lib.run_eql_slice_nil w _ _ a n c n' c' Try.underlying26
  cases a with
  | none =>
    have hx : L = [] := hs.resolve_right (by simp)
    subst hx
    go_enter Try.func45, Try.ntmps45
    go_wp2
    go_ret
    exact ⟨_, rfl, RowE.nil _ _, Grew.refl _⟩
  | some A =>
    have hk : Lies encDs (w.alloc (.cells #[] 34)) (some A) L := by
      rcases hlies with h0 | ⟨b, e, hb⟩
      · exact .inl h0
      · refine .inr ⟨b, e, fun j u hu => ?_⟩
        rw [← hb j u hu]
        exact World.cell?_of_block (Below.heap_alloc w _ _ (World.block_lt_of_cell? w _ (hb j u hu)))
    have HL := Lib.hid hk
    obtain ⟨n, hn⟩ : ∃ n, L.length = n := ⟨_, rfl⟩
    have HN := Lib.hid hn
    rw [hn] at hl ⊢
    have hx6 : ([] : List Ds).length + L.length < 1000000 := by rw [hn]; simp; omega
    have R0 : RowE 34 5 encDs (w.alloc (.cells #[] 34)) w.heap.size (.slice (some ⟨w.heap.size, 0, none⟩) 0 0) [] := RowE.lit w #[] rfl rfl (by decide) (Nat.le_refl _)
    have HR0 := Lib.hid R0
    have HG0 := Lib.hid ((Grew.refl w).alloc (.cells #[] 34))
    have hz : w.heap.size ≤ (w.alloc (.cells #[] 34)).heap.size := by simp
    clear h R0 hlies hk hs hn
    go_enter Try.func45, Try.ntmps45
    go_wp2_with (at_builtin; go_loud (
      refine wpList_append_src _ rfl _ _ 26 rfl w.heap.size info_des Try.underlying26 (by decide) (by decide) encDs_len (fun z => encDs_one) _ [] rfl HR0.out _ _ _ L rfl HN.out.symm HL.out hx6 (by decide) hz ?_
      intro v2 w2 R2 G2 o2))
    have HG2 := Lib.hid (Grew.keptA (B := w.heap.size) HG0.out G2 (fun x e => HR0.out.above x e) (Nat.le_refl _))
    go_wp2
    go_ret
    exact ⟨_, rfl, R2, HG2.out⟩
theorem info_tab : (Try.prog.info? 22).map (fun i => (i.zero, i.size, i.bytes)) = some (some (.slice none 0 0), 1, 24) := by kernel_rfl
set_option maxHeartbeats 1000000 in
theorem cloneS_p {B : Nat} {v : Value} {L : List Sl3} {w : World} (h : RdS 1 eS w B v L) (hl : L.length ≤ 1000) : Calls Try.prog 46 #[v] w (fun e w' => ∃ v, e = .returned v ∧ RowE 22 1 eS w' w.heap.size v L ∧ Grew w w') := by
  obtain ⟨a, c, rfl, -, -⟩ := h.slice
  obtain ⟨-, hs, hlies⟩ := h.lies eS_len
  have q22 : ∀ (w : World) (a : Option Addr) (n c n' c' : Nat), (binOp .eql 27 (.slice a n c) (.slice none n' c')).run Try.prog w = .ok (.bool a.isNone) w := fun w a n c n' c' => Lib.run_eql_slice_nil w _ _ a n c n' c' Try.underlying27
  cases a with
  | none =>
    have hx : L = [] := hs.resolve_right (by simp)
    subst hx
    go_enter Try.func46, Try.ntmps46
    go_wp2
    go_ret
    exact ⟨_, rfl, RowE.nil _ _, Grew.refl _⟩
  | some A =>
    have hk : Lies eS (w.alloc (.cells #[] 22)) (some A) L := by
      rcases hlies with h0 | ⟨b, e, hb⟩
      · exact .inl h0
      · refine .inr ⟨b, e, fun j u hu => ?_⟩
        rw [← hb j u hu]
        exact World.cell?_of_block (Below.heap_alloc w _ _ (World.block_lt_of_cell? w _ (hb j u hu)))
    have HL := Lib.hid hk
    obtain ⟨n, hn⟩ : ∃ n, L.length = n := ⟨_, rfl⟩
    have HN := Lib.hid hn
    rw [hn] at hl ⊢
    have hx6 : ([] : List Sl3).length + L.length < 1000000 := by rw [hn]; simp; omega
    have R0 : RowE 22 1 eS (w.alloc (.cells #[] 22)) w.heap.size (.slice (some ⟨w.heap.size, 0, none⟩) 0 0) [] := RowE.lit w #[] rfl rfl (by decide) (Nat.le_refl _)
    have HR0 := Lib.hid R0
    have HG0 := Lib.hid ((Grew.refl w).alloc (.cells #[] 22))
    have hz : w.heap.size ≤ (w.alloc (.cells #[] 22)).heap.size := by simp
    clear h R0 hlies hk hs hn
    go_enter Try.func46, Try.ntmps46
    go_wp2_with (at_builtin; go_loud (
      refine wpList_append_src _ rfl _ _ 27 rfl w.heap.size info_tab Try.underlying27 (by decide) (by decide) eS_len (fun z => eS_one) _ [] rfl HR0.out _ _ _ L rfl HN.out.symm HL.out hx6 (by decide) hz ?_
      intro v2 w2 R2 G2 o2))
    have HG2 := Lib.hid (Grew.keptA (B := w.heap.size) HG0.out G2 (fun x e => HR0.out.above x e) (Nat.le_refl _))
    go_wp2
    go_ret
    exact ⟨_, rfl, R2, HG2.out⟩
theorem cloneT_p {B : Nat} {v : Value} {vs : List Value} {w : World} (h : RdS 1 eV w B v vs) (hs : ∀ k, k < vs.length → ∃ a n c, vs.getD k nilV = .slice a n c) (hl : vs.length ≤ 1000) : Calls Try.prog 46 #[v] w (fun e w' => ∃ v, e = .returned v ∧ RowE 22 1 eV w' w.heap.size v vs ∧ Grew w w') := by
  have e := unS_map hs
  have h2 := RdS.toS (ss := vs.map unS) (by rw [e]; exact h)
  refine (cloneS_p h2 (by rw [List.length_map]; exact hl)).mono fun e9 w' ⟨v', e1, R, G⟩ => ⟨v', e1, ?_, G⟩
  have := RowE.ofS R
  rw [e] at this
  exact this
set_option maxRecDepth 100000 in
set_option maxHeartbeats 16000000 in
theorem copied_p {B : Nat} {a b : Value} {d : Dd} {w : World} (h : DdR w B a b d) (ho : d.o.length ≤ 1000) (ht : d.t.length ≤ 1000) (hr : Hid (∀ p, p < d.t.length → (d.t.getD p []).length ≤ 1000)) :
    Calls Try.prog 31 #[.agg #[a, b]] w (RetK 34 22 3 d w) := by
  obtain ⟨a1, ca, rfl, -, -⟩ := h.o.slice
  obtain ⟨b1, cb, rfl, -, -⟩ := h.t.slice
  obtain ⟨m, hm⟩ : ∃ m, d.o.length = m := ⟨_, rfl⟩
  obtain ⟨N, hN⟩ : ∃ N, d.t.length = N := ⟨_, rfl⟩
  have HM := Lib.hid hm
  have HN := Lib.hid hN
  have hol : Hid (d.o.length ≤ 1000) := Lib.hid ho
  have htl : Hid (d.t.length ≤ 1000) := Lib.hid ht
  rw [hm] at h ho ⊢
  rw [hN] at h ht ⊢
  have HH := Lib.hid h
  have D0 := (Mine.Own.new w 29 #[.slice a1 m ca, .slice b1 N cb]).alloc (.cells #[.slice none 0 0, .slice none 0 0] 29)
  have R0 := Mine.Own.new2 w (.cells #[.slice a1 m ca, .slice b1 N cb] 29) 29 #[.slice none 0 0, .slice none 0 0]
  have G0 := ((Grew.refl w).alloc (.cells #[.slice a1 m ca, .slice b1 N cb] 29)).alloc (.cells #[.slice none 0 0, .slice none 0 0] 29)
  clear h hm hN
  go_enter Try.func31, Try.ntmps31
  go_upto_region 1 with fail
  generalize World.alloc (World.alloc w _) _ = w0 at *
  obtain ⟨x0, x1, x2, x3⟩ := D0.two
  have hw0 : w.heap.size + 2 ≤ w0.heap.size := R0.lt
  have hd0 : w.heap.size < w0.heap.size := D0.lt
  have HD := Lib.hid D0
  have HR := Lib.hid R0
  have HG := Lib.hid G0
  have HDO := Lib.hid (HH.out.o.grew G0)
  obtain ⟨vs, hv1, hv2, hv3⟩ := HH.out.t.grew G0
  have HV1 := Lib.hid hv1
  have HV2 := Lib.hid hv2
  have HVS := Lib.hid (TbR.slices hv2 hv3)
  have HVL : Hid (vs.length ≤ 1000) := Lib.hid (by rw [hv2]; exact htl.out)
  clear D0 R0 G0 hv1 hv2 hv3
  go_cut [3] from 6 to 12 (fun v wx => ∃ (g3 : Nat) (a' v' : Value), v = .pointer (some ⟨g3, 0, none⟩) ∧ CqW w 29 34 22 3 (.slice a1 m ca) (.slice b1 N cb) (w.heap.size + 2) g3 a' v' d vs 0 (fun _ => 0) (fun _ => 0) wx)
  case first =>
    refine wp_region_held_drew (S := (fun w' => w'.cell? ⟨w.heap.size, 0, none⟩ = some (.slice a1 m ca) ∧ w'.cell? ⟨w.heap.size, 1, none⟩ = some (.slice b1 N cb))) (by kernel_rfl) ?_ (fun hHeld => ?_)
    · (try dsimp only); (refine ⟨?_, ?_⟩ <;> (repeat (first | (with_reducible assumption) | (with_reducible refine far_drew ?_) | (with_reducible refine far_alloc ?_) | (with_reducible refine far_cell hneB2 ?_))))
    first | refine wpAnyH_take (i := 0) (v := undef) rfl (by kernel_rfl) (by kernel_rfl) (by kernel_rfl) (fun _ _ _ h => h) (Or.inr ⟨by rfl, rfl⟩) (by assumption) ?_ | (refine' wpAnyH_take (i := 0) (v := _) rfl (by kernel_rfl) (by kernel_rfl) (by kernel_rfl) (fun _ _ _ h => h) (Or.inl ⟨by rfl, ?hyp1⟩) (by assumption) ?restp1; case hyp1 => (intro w hSw; (try dsimp only at hSw); (first | (go_simp; done) | (go_simp; with_reducible rfl))))
    try simp only [Act.put, List.setIfInBounds_toArray, List.set_cons_zero, List.set_cons_succ, List.getElem_toArray, List.getElem_cons_zero]
    first | refine wpAnyH_take (i := 3) (v := undef) rfl (by kernel_rfl) (by kernel_rfl) (by kernel_rfl) (fun _ _ _ h => h) (Or.inr ⟨by rfl, rfl⟩) (by assumption) ?_ | (refine' wpAnyH_take (i := 3) (v := _) rfl (by kernel_rfl) (by kernel_rfl) (by kernel_rfl) (fun _ _ _ h => h) (Or.inl ⟨by rfl, ?hyp2⟩) (by assumption) ?restp2; case hyp2 => (intro w hSw; (try dsimp only at hSw); (first | (go_simp; done) | (go_simp; with_reducible rfl))))
    try simp only [Act.put, List.setIfInBounds_toArray, List.set_cons_zero, List.set_cons_succ, List.getElem_toArray, List.getElem_cons_zero, List.getElem_cons_succ]
    first | refine wpAnyH_take (i := 1) (v := undef) rfl (by kernel_rfl) (by kernel_rfl) (by kernel_rfl) (fun _ _ _ h => h) (Or.inr ⟨by rfl, rfl⟩) (by assumption) ?_ | (refine' wpAnyH_take (i := 1) (v := _) rfl (by kernel_rfl) (by kernel_rfl) (by kernel_rfl) (fun _ _ _ h => h) (Or.inl ⟨by rfl, ?hyp3⟩) (by assumption) ?restp3; case hyp3 => (intro w hSw; (try dsimp only at hSw); (first | (go_simp; done) | (go_simp; with_reducible rfl))))
    try simp only [Act.put, List.setIfInBounds_toArray, List.set_cons_zero, List.set_cons_succ, List.getElem_toArray, List.getElem_cons_zero, List.getElem_cons_succ]
    first | refine wpAnyH_take (i := 4) (v := undef) rfl (by kernel_rfl) (by kernel_rfl) (by kernel_rfl) (fun _ _ _ h => h) (Or.inr ⟨by rfl, rfl⟩) (by assumption) ?_ | (refine' wpAnyH_take (i := 4) (v := _) rfl (by kernel_rfl) (by kernel_rfl) (by kernel_rfl) (fun _ _ _ h => h) (Or.inl ⟨by rfl, ?hyp4⟩) (by assumption) ?restp4; case hyp4 => (intro w hSw; (try dsimp only at hSw); (first | (go_simp; done) | (go_simp; with_reducible rfl))))
    try simp only [Act.put, List.setIfInBounds_toArray, List.set_cons_zero, List.set_cons_succ, List.getElem_toArray, List.getElem_cons_zero, List.getElem_cons_succ]
    refine wpAnyH_ready (rs := [2, 7]) (by kernel_rfl) (by simp) ?_
    refine AllReadyH.cons rfl (fun K hK => ?stp5_0) (AllReadyH.cons rfl (fun K hK => ?stp5_1) AllReadyH.nil)
    case stp5_0 =>
      try simp only [Act.put, List.setIfInBounds_toArray, List.set_cons_zero, List.set_cons_succ, List.getElem_toArray, List.getElem_cons_zero, List.getElem_cons_succ]
      go_simp
      have hq := (Grew.refl w0).drew
      go_at_call 45
      with_reducible refine (cloneD_p HDO.out.drew hol.out).mono ?_
      rintro e9 w3 ⟨v3, rfl, R3, g3⟩
      have HK3 := Lib.hid (hq.trans g3)
      have e0 := (HK3.out.cells.1 w.heap.size _ hd0).trans x0
      have e1 := (HK3.out.cells.1 w.heap.size _ hd0).trans x1
      have HR3 := Lib.hid R3
      have hs3 : w0.heap.size ≤ w3.heap.size := HK3.out.size
      have hd3 : w.heap.size < w3.heap.size := by omega
      obtain ⟨a3, c3, rfl⟩ := HR3.out.len
      rw [HM.out]
      clear R3 g3 hq
      refine hK.out _ _ ?_ (fun hHeld => ?_)
      · (try dsimp only); (refine ⟨?_, ?_⟩ <;> (repeat (first | (with_reducible assumption) | (with_reducible refine far_drew ?_) | (with_reducible refine far_alloc ?_) | (with_reducible refine far_cell hneB2 ?_))))
      clear hK K
      refine wpAnyH_ready (rs := [5, 7]) (by kernel_rfl) (by simp) ?_
      refine AllReadyH.cons rfl (fun K hK => ?stp6_0) (AllReadyH.cons rfl (fun K hK => ?stp6_1) AllReadyH.nil)
      case stp6_0 =>
        try simp only [Act.put, List.setIfInBounds_toArray, List.set_cons_zero, List.set_cons_succ, List.getElem_toArray, List.getElem_cons_zero, List.getElem_cons_succ]
        go_simp
        have hq := HK3.out
        go_at_call 46
        with_reducible refine (cloneT_p (HV1.out.grew HK3.out) HVS.out HVL.out).mono ?_
        rintro e9 w4 ⟨v4, rfl, R4, g4⟩
        have HK4 := Lib.hid (hq.trans g4)
        have f0 := (HK4.out.cells.1 w.heap.size _ hd0).trans x0
        have f1 := (HK4.out.cells.1 w.heap.size _ hd0).trans x1
        have HR4 := Lib.hid R4
        have hs4 : w0.heap.size ≤ w4.heap.size := HK4.out.size
        have G34 := Lib.hid g4
        obtain ⟨a4, c4, rfl⟩ := HR4.out.len
        rw [HV2.out, HN.out]
        clear R4 g4 hq
        refine hK.out _ _ ?_ (fun hHeld => ?_)
        · (try dsimp only); (refine ⟨?_, ?_⟩ <;> (repeat (first | (with_reducible assumption) | (with_reducible refine far_drew ?_) | (with_reducible refine far_alloc ?_) | (with_reducible refine far_cell hneB2 ?_))))
        clear hK K
        first | refine wpAnyH_take (i := 6) (v := undef) rfl (by kernel_rfl) (by kernel_rfl) (by kernel_rfl) (fun _ _ _ h => h) (Or.inr ⟨by rfl, rfl⟩) (by assumption) ?_ | (refine' wpAnyH_take (i := 6) (v := _) rfl (by kernel_rfl) (by kernel_rfl) (by kernel_rfl) (fun _ _ _ h => h) (Or.inl ⟨by rfl, ?hyp7⟩) (by assumption) ?restp7; case hyp7 => (intro w hSw; (try dsimp only at hSw); (first | (go_simp; done) | (go_simp; with_reducible rfl))))
        try simp only [Act.put, List.setIfInBounds_toArray, List.set_cons_zero, List.set_cons_succ, List.getElem_toArray, List.getElem_cons_zero, List.getElem_cons_succ]
        refine wpAnyH_ready (rs := [7]) (by kernel_rfl) (by simp) ?_
        refine AllReadyH.cons rfl (fun K hK => ?_) AllReadyH.nil
        try simp only [Act.put, List.setIfInBounds_toArray, List.set_cons_zero, List.set_cons_succ, List.getElem_toArray, List.getElem_cons_zero, List.getElem_cons_succ]
        go_simp
        have hneB : w.heap.size ≠ w4.heap.size := by omega
        have hneB2 : w4.heap.size ≠ w.heap.size := by omega
        refine hK.out _ _ ?_ (fun hHeld => ?_)
        · (try dsimp only); (refine ⟨?_, ?_⟩ <;> (repeat (first | (with_reducible assumption) | (with_reducible refine far_drew ?_) | (with_reducible refine far_alloc ?_) | (with_reducible refine far_cell hneB2 ?_))))
        clear hK K
        refine wpAnyH_ready (rs := [8]) (by kernel_rfl) (by simp) ?_
        refine AllReadyH.cons rfl (fun K hK => ?_) AllReadyH.nil
        try simp only [Act.put, List.getElem_toArray, List.getElem_cons_zero, List.getElem_cons_succ]
        go_simp
        refine hK.out _ _ ?_ (fun hHeld => ?_)
        · (try dsimp only); (refine ⟨?_, ?_⟩ <;> (repeat (first | (with_reducible assumption) | (with_reducible refine far_drew ?_) | (with_reducible refine far_alloc ?_) | (with_reducible refine far_cell hneB2 ?_))))
        clear hK K
        refine wpAnyH_done (by kernel_rfl) ?_ _
        (first | go_wp2_with fail | skip)
        try go_meet
        have e3 := HR3.out
        rw [HM.out] at e3
        have e4 := HR4.out
        rw [HV2.out, HN.out] at e4
        exact ⟨w4.heap.size, _, _, rfl, CqW.startA (HD.out.grew HK4.out) (HR.out.grew HK4.out) (HG.out.trans HK4.out) e3 hw0 G34.out e4 (Nat.le_refl _) (by omega) HV2.out⟩
      case stp6_1 =>
        try simp only [Act.put, List.setIfInBounds_toArray, List.set_cons_zero, List.set_cons_succ, List.getElem_toArray, List.getElem_cons_zero, List.getElem_cons_succ]
        go_simp
        have OB := Lib.hid (Mine.Own.new w3 29 #[.slice none 0 0, .slice none 0 0])
        have hneB : w.heap.size ≠ w3.heap.size := by omega
        have hneB2 : w3.heap.size ≠ w.heap.size := by omega
        refine hK.out _ _ ?_ (fun hHeld => ?_)
        · (try dsimp only); (refine ⟨?_, ?_⟩ <;> (repeat (first | (with_reducible assumption) | (with_reducible refine far_drew ?_) | (with_reducible refine far_alloc ?_) | (with_reducible refine far_cell hneB2 ?_))))
        clear hK K
        refine wpAnyH_ready (rs := [5]) (by kernel_rfl) (by simp) ?_
        refine AllReadyH.cons rfl (fun K hK => ?_) AllReadyH.nil
        try simp only [Act.put, List.setIfInBounds_toArray, List.set_cons_zero, List.set_cons_succ, List.getElem_toArray, List.getElem_cons_zero, List.getElem_cons_succ]
        go_simp
        have hq := (HK3.out.alloc (.cells #[.slice none 0 0, .slice none 0 0] 29))
        go_at_call 46
        with_reducible refine (cloneT_p (HV1.out.grew (HK3.out.alloc (.cells #[.slice none 0 0, .slice none 0 0] 29))) HVS.out HVL.out).mono ?_
        rintro e9 w4 ⟨v4, rfl, R4, g4⟩
        have HK4 := Lib.hid (hq.trans g4)
        have f0 := (HK4.out.cells.1 w.heap.size _ hd0).trans x0
        have f1 := (HK4.out.cells.1 w.heap.size _ hd0).trans x1
        have HR4 := Lib.hid R4
        have hs4 : w0.heap.size ≤ w4.heap.size := HK4.out.size
        have G34 := Lib.hid (((Grew.refl w3).alloc (.cells #[.slice none 0 0, .slice none 0 0] 29)).trans g4)
        have OB4 := Lib.hid (OB.out.grew g4)
        obtain ⟨z0, z1, z2, z3⟩ := OB4.out.two
        obtain ⟨a4, c4, rfl⟩ := HR4.out.len
        rw [HV2.out, HN.out]
        clear R4 g4 hq
        refine hK.out _ _ ?_ (fun hHeld => ?_)
        · (try dsimp only); (refine ⟨?_, ?_⟩ <;> (repeat (first | (with_reducible assumption) | (with_reducible refine far_drew ?_) | (with_reducible refine far_alloc ?_) | (with_reducible refine far_cell hneB2 ?_))))
        clear hK K
        first | refine wpAnyH_take (i := 6) (v := undef) rfl (by kernel_rfl) (by kernel_rfl) (by kernel_rfl) (fun _ _ _ h => h) (Or.inr ⟨by rfl, rfl⟩) (by assumption) ?_ | (refine' wpAnyH_take (i := 6) (v := _) rfl (by kernel_rfl) (by kernel_rfl) (by kernel_rfl) (fun _ _ _ h => h) (Or.inl ⟨by rfl, ?hyp8⟩) (by assumption) ?restp8; case hyp8 => (intro w hSw; (try dsimp only at hSw); (first | (go_simp; done) | (go_simp; with_reducible rfl))))
        try simp only [Act.put, List.setIfInBounds_toArray, List.set_cons_zero, List.set_cons_succ, List.getElem_toArray, List.getElem_cons_zero, List.getElem_cons_succ]
        refine wpAnyH_ready (rs := [8]) (by kernel_rfl) (by simp) ?_
        refine AllReadyH.cons rfl (fun K hK => ?_) AllReadyH.nil
        try simp only [Act.put, List.getElem_toArray, List.getElem_cons_zero, List.getElem_cons_succ]
        go_simp
        refine hK.out _ _ ?_ (fun hHeld => ?_)
        · (try dsimp only); (refine ⟨?_, ?_⟩ <;> (repeat (first | (with_reducible assumption) | (with_reducible refine far_drew ?_) | (with_reducible refine far_alloc ?_) | (with_reducible refine far_cell hneB2 ?_))))
        clear hK K
        refine wpAnyH_done (by kernel_rfl) ?_ _
        (first | go_wp2_with fail | skip)
        try go_meet
        generalize hw : World.setCell (World.setCell _ _ _) _ _ = E
        have e3 := HR3.out
        rw [HM.out] at e3
        have e4 := HR4.out
        rw [HV2.out, HN.out] at e4
        exact ⟨w3.heap.size, _, _, rfl, CqW.startB (HD.out.grew HK4.out) (HR.out.grew HK4.out) (HG.out.trans HK4.out) e3 hw0 G34.out e4 (by simp) (by omega) HV2.out OB4.out (by omega) (.inr (Nat.le_refl _)) (by simp) hw⟩
    case stp5_1 =>
      try simp only [Act.put, List.setIfInBounds_toArray, List.set_cons_zero, List.set_cons_succ, List.getElem_toArray, List.getElem_cons_zero, List.getElem_cons_succ]
      go_simp
      have OB := Lib.hid (Mine.Own.new w0 29 #[.slice none 0 0, .slice none 0 0])
      have hneB : w.heap.size ≠ w0.heap.size := by omega
      have hneB2 : w0.heap.size ≠ w.heap.size := by omega
      refine hK.out _ _ ?_ (fun hHeld => ?_)
      · (try dsimp only); (refine ⟨?_, ?_⟩ <;> (repeat (first | (with_reducible assumption) | (with_reducible refine far_drew ?_) | (with_reducible refine far_alloc ?_) | (with_reducible refine far_cell hneB2 ?_))))
      clear hK K
      refine wpAnyH_ready (rs := [2]) (by kernel_rfl) (by simp) ?_
      refine AllReadyH.cons rfl (fun K hK => ?_) AllReadyH.nil
      try simp only [Act.put, List.setIfInBounds_toArray, List.set_cons_zero, List.set_cons_succ, List.getElem_toArray, List.getElem_cons_zero, List.getElem_cons_succ]
      go_simp
      have hq := ((Grew.refl w0).alloc (.cells #[.slice none 0 0, .slice none 0 0] 29)).drew
      go_at_call 45
      with_reducible refine (cloneD_p ((HDO.out.alloc (.cells #[.slice none 0 0, .slice none 0 0] 29)).drew) hol.out).mono ?_
      rintro e9 w3 ⟨v3, rfl, R3, g3⟩
      have HK3 := Lib.hid (hq.trans g3)
      have e0 := (HK3.out.cells.1 w.heap.size _ hd0).trans x0
      have e1 := (HK3.out.cells.1 w.heap.size _ hd0).trans x1
      have HR3 := Lib.hid R3
      have hs3 : w0.heap.size ≤ w3.heap.size := HK3.out.size
      have hd3 : w.heap.size < w3.heap.size := by omega
      obtain ⟨a3, c3, rfl⟩ := HR3.out.len
      rw [HM.out]
      have OB3 := Lib.hid ((OB.out.drew).grew g3)
      clear R3 g3 hq
      refine hK.out _ _ ?_ (fun hHeld => ?_)
      · (try dsimp only); (refine ⟨?_, ?_⟩ <;> (repeat (first | (with_reducible assumption) | (with_reducible refine far_drew ?_) | (with_reducible refine far_alloc ?_) | (with_reducible refine far_cell hneB2 ?_))))
      clear hK K
      refine wpAnyH_ready (rs := [5]) (by kernel_rfl) (by simp) ?_
      refine AllReadyH.cons rfl (fun K hK => ?_) AllReadyH.nil
      try simp only [Act.put, List.setIfInBounds_toArray, List.set_cons_zero, List.set_cons_succ, List.getElem_toArray, List.getElem_cons_zero, List.getElem_cons_succ]
      go_simp
      have hq := HK3.out
      go_at_call 46
      with_reducible refine (cloneT_p (HV1.out.grew HK3.out) HVS.out HVL.out).mono ?_
      rintro e9 w4 ⟨v4, rfl, R4, g4⟩
      have HK4 := Lib.hid (hq.trans g4)
      have f0 := (HK4.out.cells.1 w.heap.size _ hd0).trans x0
      have f1 := (HK4.out.cells.1 w.heap.size _ hd0).trans x1
      have HR4 := Lib.hid R4
      have hs4 : w0.heap.size ≤ w4.heap.size := HK4.out.size
      have G34 := Lib.hid g4
      have OB4 := Lib.hid (OB3.out.grew g4)
      obtain ⟨z0, z1, z2, z3⟩ := OB4.out.two
      obtain ⟨a4, c4, rfl⟩ := HR4.out.len
      rw [HV2.out, HN.out]
      clear R4 g4 hq
      refine hK.out _ _ ?_ (fun hHeld => ?_)
      · (try dsimp only); (refine ⟨?_, ?_⟩ <;> (repeat (first | (with_reducible assumption) | (with_reducible refine far_drew ?_) | (with_reducible refine far_alloc ?_) | (with_reducible refine far_cell hneB2 ?_))))
      clear hK K
      first | refine wpAnyH_take (i := 6) (v := undef) rfl (by kernel_rfl) (by kernel_rfl) (by kernel_rfl) (fun _ _ _ h => h) (Or.inr ⟨by rfl, rfl⟩) (by assumption) ?_ | (refine' wpAnyH_take (i := 6) (v := _) rfl (by kernel_rfl) (by kernel_rfl) (by kernel_rfl) (fun _ _ _ h => h) (Or.inl ⟨by rfl, ?hyp9⟩) (by assumption) ?restp9; case hyp9 => (intro w hSw; (try dsimp only at hSw); (first | (go_simp; done) | (go_simp; with_reducible rfl))))
      try simp only [Act.put, List.setIfInBounds_toArray, List.set_cons_zero, List.set_cons_succ, List.getElem_toArray, List.getElem_cons_zero, List.getElem_cons_succ]
      refine wpAnyH_ready (rs := [8]) (by kernel_rfl) (by simp) ?_
      refine AllReadyH.cons rfl (fun K hK => ?_) AllReadyH.nil
      try simp only [Act.put, List.getElem_toArray, List.getElem_cons_zero, List.getElem_cons_succ]
      go_simp
      refine hK.out _ _ ?_ (fun hHeld => ?_)
      · (try dsimp only); (refine ⟨?_, ?_⟩ <;> (repeat (first | (with_reducible assumption) | (with_reducible refine far_drew ?_) | (with_reducible refine far_alloc ?_) | (with_reducible refine far_cell hneB2 ?_))))
      clear hK K
      refine wpAnyH_done (by kernel_rfl) ?_ _
      (first | go_wp2_with fail | skip)
      try go_meet
      generalize hw : World.setCell (World.setCell _ _ _) _ _ = E
      have e3 := HR3.out
      rw [HM.out] at e3
      have e4 := HR4.out
      rw [HV2.out, HN.out] at e4
      exact ⟨w0.heap.size, _, _, rfl, CqW.startB (HD.out.grew HK4.out) (HR.out.grew HK4.out) (HG.out.trans HK4.out) e3 (by simp; omega) G34.out e4 (Nat.le_refl _) (by omega) HV2.out OB4.out hw0 (.inl (by simp)) (by have := HR3.out; have := OB3.out.lt; omega) hw⟩
  case rest =>
    clear x0 x1 x2 x3
    obtain ⟨g3, a', v', rfl, W0⟩ := hcut
    have HW := Lib.hid W0
    obtain ⟨x0, x1, x2, x3⟩ := W0.dbox.two
    clear W0
    go_wp2_with fail
    clear x0 x1 x2 x3
    go_loopw [16] (fun iv wr => ∃ (i : Nat) (G C : Nat → Nat), iv = .int .i64 i ∧ i ≤ N ∧ CqW w 29 34 22 3 (.slice a1 m ca) (.slice b1 N cb) (w.heap.size + 2) g3 a' v' d vs i G C wr) (fun iv _ => N - (intOf iv).toNat)
    case atStart => exact ⟨0, _, _, rfl, Nat.zero_le _, HW.out⟩
    case round =>
      clear HW
      obtain ⟨i, G, C, rfl, hi, W⟩ := hrel
      obtain ⟨wo, rfl⟩ : ∃ wo : World, wo = wr := ⟨_, rfl⟩
      by_cases hlt : i < N
      · have hi0 : (0 : Int) ≤ (i : Int) := by omega
        have hi1 : (i : Int) < (N : Int) := by omega
        have hit : i < d.t.length := by rw [HN.out]; exact hlt
        obtain ⟨av, nv, cv, rfl⟩ : ∃ av nv cv, v' = .slice av nv cv := by
          obtain ⟨x, y, e⟩ := W.t.row.len; exact ⟨x, _, y, e⟩
        obtain ⟨gv, rfl, hBv, hgv, hcv, hfv⟩ := W.t.at_ hit
        have hnv : nv = N := by
          obtain ⟨x, y, e⟩ := W.t.row.len
          rw [parL_len, HN.out] at e
          injection e
        subst hnv
        obtain ⟨gb, ob, ta, tc, rfl, -, hgb0, c00, RT⟩ := HH.out.t.at_ hit
        have c0 := (W.g.cells.1 gb _ hgb0).trans c00
        have hgb : gb < wo.heap.size := Nat.lt_of_lt_of_le hgb0 W.g.size
        obtain ⟨K, hK⟩ : ∃ K, (d.t.getD i []).length = K := ⟨_, rfl⟩
        have HK := Lib.hid hK.symm
        have hK1 : K ≤ 1000 := by rw [← hK]; exact hr.out i hit
        rw [hK] at c0 RT
        clear c00 hgb0
        have HRT := Lib.hid RT
        have hmk := run_make_row' (P := Try.prog) 22 3 (.int .i64 0) 8 Try.underlying22 info_int rfl .i64 .i64 K (by omega) (by omega)
        obtain ⟨y0, y1, y2, y3⟩ := W.box.two
        have HW := Lib.hid W
        have hgb3 : g3 < wo.heap.size := W.box.lt
        have HIT := Lib.hid hit
        have hne : gv ≠ g3 := fun e => W.no.b (by rw [e]; rfl)
        have hne2 : g3 ≠ gv := fun e => hne e.symm
        have hlo : w.heap.size + 2 ≤ wo.heap.size := Nat.le_trans W.lo (Nat.le_trans W.bo (Nat.le_of_lt hgb3))
        clear RT hK W hit
        go_upto_region 5 with fail
        refine wp_region_held_drew (S := (fun w' => w'.cell? ⟨g3, 1, none⟩ = some (.slice (some ⟨gv, 0, none⟩) nv cv))) (by kernel_rfl) ?_ (fun hHeld => ?_)
        · (try dsimp only); (repeat (first | (with_reducible assumption) | (with_reducible refine far_drew ?_) | (with_reducible refine far_alloc ?_) | (with_reducible refine far_cell hne ?_)))
        first | refine wpAnyH_take (i := 0) (v := undef) rfl (by kernel_rfl) (by kernel_rfl) (by kernel_rfl) (fun _ _ _ h => h) (Or.inr ⟨by rfl, rfl⟩) (by assumption) ?_ | (refine' wpAnyH_take (i := 0) (v := _) rfl (by kernel_rfl) (by kernel_rfl) (by kernel_rfl) (fun _ _ _ h => h) (Or.inl ⟨by rfl, ?hyr1⟩) (by assumption) ?restr1; case hyr1 => (intro w hSw; (try dsimp only at hSw); (first | (go_simp; done) | (go_simp; with_reducible rfl))))
        try simp only [Act.put, List.setIfInBounds_toArray, List.set_cons_zero, List.set_cons_succ, List.getElem_toArray, List.getElem_cons_zero]
        first | refine wpAnyH_take (i := 2) (v := undef) rfl (by kernel_rfl) (by kernel_rfl) (by kernel_rfl) (fun _ _ _ h => h) (Or.inr ⟨by rfl, rfl⟩) (by assumption) ?_ | (refine' wpAnyH_take (i := 2) (v := _) rfl (by kernel_rfl) (by kernel_rfl) (by kernel_rfl) (fun _ _ _ h => h) (Or.inl ⟨by rfl, ?hyr2⟩) (by assumption) ?restr2; case hyr2 => (intro w hSw; (try dsimp only at hSw); (first | (go_simp; done) | (go_simp; with_reducible rfl))))
        try simp only [Act.put, List.setIfInBounds_toArray, List.set_cons_zero, List.set_cons_succ, List.getElem_toArray, List.getElem_cons_zero, List.getElem_cons_succ]
        first | refine wpAnyH_take (i := 3) (v := undef) rfl (by kernel_rfl) (by kernel_rfl) (by kernel_rfl) (fun _ _ _ h => h) (Or.inr ⟨by rfl, rfl⟩) (by assumption) ?_ | (refine' wpAnyH_take (i := 3) (v := _) rfl (by kernel_rfl) (by kernel_rfl) (by kernel_rfl) (fun _ _ _ h => h) (Or.inl ⟨by rfl, ?hyr3⟩) (by assumption) ?restr3; case hyr3 => (intro w hSw; (try dsimp only at hSw); (first | (go_simp; done) | (go_simp; with_reducible rfl))))
        try simp only [Act.put, List.setIfInBounds_toArray, List.set_cons_zero, List.set_cons_succ, List.getElem_toArray, List.getElem_cons_zero, List.getElem_cons_succ]
        first | refine wpAnyH_take (i := 1) (v := undef) rfl (by kernel_rfl) (by kernel_rfl) (by kernel_rfl) (fun _ _ _ h => h) (Or.inr ⟨by rfl, rfl⟩) (by assumption) ?_ | (refine' wpAnyH_take (i := 1) (v := _) rfl (by kernel_rfl) (by kernel_rfl) (by kernel_rfl) (fun _ _ _ h => h) (Or.inl ⟨by rfl, ?hyr4⟩) (by assumption) ?restr4; case hyr4 => (intro w hSw; (try dsimp only at hSw); (first | (go_simp; done) | (go_simp; with_reducible rfl))))
        try simp only [Act.put, List.setIfInBounds_toArray, List.set_cons_zero, List.set_cons_succ, List.getElem_toArray, List.getElem_cons_zero, List.getElem_cons_succ]
        first | refine wpAnyH_take (i := 4) (v := undef) rfl (by kernel_rfl) (by kernel_rfl) (by kernel_rfl) (fun _ _ _ h => h) (Or.inr ⟨by rfl, rfl⟩) (by assumption) ?_ | (refine' wpAnyH_take (i := 4) (v := _) rfl (by kernel_rfl) (by kernel_rfl) (by kernel_rfl) (fun _ _ _ h => h) (Or.inl ⟨by rfl, ?hyr5⟩) (by assumption) ?restr5; case hyr5 => (intro w hSw; (try dsimp only at hSw); (first | (go_simp; done) | (go_simp; with_reducible rfl))))
        try simp only [Act.put, List.setIfInBounds_toArray, List.set_cons_zero, List.set_cons_succ, List.getElem_toArray, List.getElem_cons_zero, List.getElem_cons_succ]
        refine wpAnyH_ready (rs := [5]) (by kernel_rfl) (by simp) ?_
        refine AllReadyH.cons rfl (fun K hK => ?_) AllReadyH.nil
        try simp only [Act.put, List.setIfInBounds_toArray, List.set_cons_zero, List.set_cons_succ, List.getElem_toArray, List.getElem_cons_zero, List.getElem_cons_succ]
        go_simp
        refine hK.out _ _ ?_ (fun hHeld => ?_)
        · (try dsimp only); (repeat (first | (with_reducible assumption) | (with_reducible refine far_drew ?_) | (with_reducible refine far_alloc ?_) | (with_reducible refine far_cell hne ?_)))
        clear hK K
        first | refine wpAnyH_take (i := 6) (v := undef) rfl (by kernel_rfl) (by kernel_rfl) (by kernel_rfl) (fun _ _ _ h => h) (Or.inr ⟨by rfl, rfl⟩) (by assumption) ?_ | (refine' wpAnyH_take (i := 6) (v := _) rfl (by kernel_rfl) (by kernel_rfl) (by kernel_rfl) (fun _ _ _ h => h) (Or.inl ⟨by rfl, ?hyr6⟩) (by assumption) ?restr6; case hyr6 => (intro w hSw; (try dsimp only at hSw); (first | (go_simp; done) | (go_simp; with_reducible rfl))))
        try simp only [Act.put, List.setIfInBounds_toArray, List.set_cons_zero, List.set_cons_succ, List.getElem_toArray, List.getElem_cons_zero, List.getElem_cons_succ]
        refine wpAnyH_ready (rs := [7]) (by kernel_rfl) (by simp) ?_
        refine AllReadyH.cons rfl (fun K hK => ?_) AllReadyH.nil
        try simp only [Act.put, List.getElem_toArray, List.getElem_cons_zero, List.getElem_cons_succ]
        go_simp
        refine hK.out _ _ ?_ (fun hHeld => ?_)
        · (try dsimp only); (repeat (first | (with_reducible assumption) | (with_reducible refine far_drew ?_) | (with_reducible refine far_alloc ?_) | (with_reducible refine far_cell hne ?_)))
        clear hK K
        refine wpAnyH_done (by kernel_rfl) ?_ _
        have hwz : World.setCell (wo.alloc (.cells (madeCells #[Value.int .i64 0] K) 3)).drew ⟨gv, i, none⟩ (slV wo.heap.size K K) = ((wo.setCell ⟨gv, i, none⟩ (slV wo.heap.size K K)).alloc (.cells (madeCells #[Value.int .i64 0] K) 3)).drew := by rw [World.setCell_drew, World.setCell_alloc_past _ _ _ _ hgv]
        rw [← hwz]
        have gz : Grew wo (wo.alloc (.cells (madeCells #[Value.int .i64 0] K) 3)).drew := ((Grew.refl wo).alloc _).drew
        have hRz : RowE 3 1 enc1 (wo.alloc (.cells (madeCells #[Value.int .i64 0] K) 3)).drew (w.heap.size + 2) (slV wo.heap.size K K) (List.replicate K 0) := by
          have q := RowE.lit (T := 3) (sz := 1) (enc := enc1) (L := List.replicate K (0 : Int)) (B := w.heap.size + 2) wo (madeCells #[Value.int .i64 0] K) (madeZ K) (by simp [madeCells]) (by simp [maxLen]; omega) hlo
          rw [List.length_replicate] at q
          exact q.drew
        generalize (wo.alloc (.cells (madeCells #[Value.int .i64 0] K) 3)).drew = wz at *
        have hsz : wo.heap.size < wz.heap.size := hRz.lt _ rfl
        have HW2 := Lib.hid (HW.out.next HIT.out gz (Nat.le_refl _) HK.out hRz)
        have gz2 : Grew w (wz.setCell ⟨gv, i, none⟩ (slV wo.heap.size K K)) := (HW.out.g.trans gz).set (p := ⟨gv, i, none⟩) (show w.heap.size ≤ gv by omega) _
        have hx2 := (HW.out.box.grew gz).far (p := ⟨gv, i, none⟩) (fun e => hne e.symm) (slV wo.heap.size K K)
        have hx3 : (wz.setCell ⟨gv, i, none⟩ (slV wo.heap.size K K)).cell? ⟨gv, i, none⟩ = some (slV wo.heap.size K K) := World.cell?_setCell_same' _ _ _ (by rw [gz.cells.1 gv _ hgv, hcv]; rfl)
        have hR2 : RowE 3 1 enc1 (wz.setCell ⟨gv, i, none⟩ (slV wo.heap.size K K)) (w.heap.size + 2) (slV wo.heap.size K K) (List.replicate K 0) := hRz.set (p := ⟨gv, i, none⟩) (fun e => by have e2 : some wo.heap.size = some gv := e; injection e2 with e2; omega) _
        have hgz : wo.heap.size < (wz.setCell ⟨gv, i, none⟩ (slV wo.heap.size K K)).heap.size := hR2.lt _ rfl
        have hgv2 : gv < (wz.setCell ⟨gv, i, none⟩ (slV wo.heap.size K K)).heap.size := by omega
        generalize wo.heap.size = gw at *
        generalize World.setCell wz ⟨gv, i, none⟩ _ = W2 at *
        have hcp := copy_run (P := Try.prog) (dT := 22) (sT := 22) (HRT.out.grew gz2) hR2 Try.underlying22 (by kernel_rfl)
        clear y0 y1 y2 y3 gz gz2 hwz hcv hfv hRz hsz hR2 hmk
        obtain ⟨y0, y1, y2, y3⟩ := hx2.two
        clear hx2
        go_wp2_with (at_builtin; refine wpList_copy_runI _ rfl _ _ 22 22 rfl _ _ rfl rfl (hcp _) ?_)
        go_roundw
        case rel => exact ⟨i + 1, _, _, by go_num, by omega, HW2.out⟩
        case measure => simp [intOf]; omega
      · obtain rfl : i = N := by omega
        obtain ⟨av, cv, rfl⟩ : ∃ av cv, a' = .slice av m cv := by
          obtain ⟨x, y, e⟩ := W.o.len; rw [HM.out] at e; exact ⟨x, y, e⟩
        obtain ⟨bv, cv2, rfl⟩ : ∃ av cv, v' = .slice av i cv := by
          obtain ⟨x, y, e⟩ := W.t.row.len; rw [parL_len, HN.out] at e; exact ⟨x, y, e⟩
        obtain ⟨y0, y1, y2, y3⟩ := W.box.two
        obtain ⟨r0, r1, r2, r3⟩ := W.res.two
        have HW := Lib.hid (show CqW w 29 34 22 3 (.slice a1 m ca) (.slice b1 i cb) (w.heap.size + 2) g3 (.slice av m cv) (.slice bv i cv2) d vs d.t.length G C wo by rw [HN.out]; exact W)
        clear W
        go_wp2
        generalize hw : World.setCell (World.setCell _ _ _) _ _ = E
        obtain ⟨RR, KK, GG⟩ := HW.out.ret hw
        obtain ⟨b0, b1, -, -⟩ := RR.two
        refine bodyPost_ret (v := .agg #[.slice av m cv, .slice bv i cv2]) (by simp [results, Try.results31, go_sem, b0, b1]) rfl ?_
        exact ⟨_, _, _, _, rfl, KK, GG⟩
end Go.Proofs.Ytokijggckiidjaa
