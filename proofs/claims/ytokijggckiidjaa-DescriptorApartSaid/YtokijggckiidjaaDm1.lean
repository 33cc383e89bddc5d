/- Made descriptors (layer 18). mkdm1.py writes this text out of dm1.base. -/
import Derived.Test.YtokijggckiidjaaDsc
import Derived.Test.YtokijggckiidjaaOdd
namespace Go.Mine
open Go Go.RowKit
/-! What the calls keep. -/
theorem opnD_ok {d : Dd} (h : OkDd d) (p : Int) {x : Ds} (hx : x.r = 1) : OkDd (opnD d p x).1 ∧ (opnD d p x).1.t.length = d.t.length := by
  by_cases e : (opnD d p x).2.2 = 0
  · obtain ⟨-, hr, pn, rfl, hp, hf, e2⟩ := opnD_get e
    rw [e2]
    exact ⟨opD_ok h hp hf (rtD_iff.1 hr) hx, setT_len _ _ _ _⟩
  · have : (opnD d p x).1 = d := by
      have hk := okD_iff.2 h
      unfold opnD at e ⊢
      rw [hk] at e ⊢
      cases h2 : inD p 0 ((d.t.length : Int) - 1) && rtD x
      · rfl
      · rw [h2] at e
        cases h3 : decide (frD (d.t.getD p.toNat []) < 16)
        · rfl
        · rw [h3] at e; exact absurd rfl e
    rw [this]; exact ⟨h, rfl⟩
theorem dupD_ok {d : Dd} (h : OkDd d) (p q : Int) : OkDd (dupD d p q).1 ∧ (dupD d p q).1.t.length = d.t.length := by
  by_cases e : (dupD d p q).2.2 = 0
  · obtain ⟨-, pn, qn, k, rfl, rfl, hp, hq, he, hk, hf, e2⟩ := dupD_get e
    rw [e2]
    exact ⟨duD_ok h hp hf hq hk he, setT_len _ _ _ _⟩
  · have : (dupD d p q).1 = d := by
      unfold dupD at e ⊢
      cases h2 : decide ((lkD d p q).2.2 = 0)
      · rfl
      · rw [h2] at e
        cases h3 : decide (frD (d.t.getD p.toNat []) < 16)
        · rfl
        · rw [h3] at e; exact absurd rfl e
    rw [this]; exact ⟨h, rfl⟩
theorem clsD_ok {d : Dd} (h : OkDd d) (p q : Int) : OkDd (clsD d p q).1 ∧ (clsD d p q).1.t.length = d.t.length := by
  by_cases e : (clsD d p q).2.2 = 0
  · obtain ⟨-, pn, qn, k, rfl, rfl, hp, hq, he, hk, e2⟩ := clsD_get e
    rw [e2]
    exact ⟨clD_ok h hp hq hk he, by show (clD d pn qn k).1.t.length = _; rw [clD_tab, setT_len]⟩
  · have : (clsD d p q).1 = d := by
      unfold clsD at e ⊢
      cases h2 : decide ((lkD d p q).2.2 = 0)
      · rfl
      · rw [h2] at e; exact absurd rfl e
    rw [this]; exact ⟨h, rfl⟩
theorem frkD_keeps {d : Dd} (h : OkDd d) (a b : Int) : OkDd (frkD d a b).1 ∧ (frkD d a b).1.t.length = d.t.length := by
  by_cases e : (frkD d a b).2 = 0
  · obtain ⟨-, an, bn, rfl, rfl, ha, hb, hab, hz, e2⟩ := frkD_get e
    rw [e2]
    exact ⟨fkD_ok h ha hb hz, List.length_set⟩
  · have : (frkD d a b).1 = d := by
      have hk := okD_iff.2 h
      unfold frkD at e ⊢
      rw [hk] at e ⊢
      cases h2 : inD a 0 ((d.t.length : Int) - 1) && inD b 0 ((d.t.length : Int) - 1) && !decide (a = b)
      · rfl
      · rw [h2] at e
        cases h3 : zrD (d.t.getD b.toNat [])
        · rfl
        · rw [h3] at e; exact absurd rfl e
    rw [this]; exact ⟨h, rfl⟩
theorem RdP.lt {α : Type} {sz : Nat} {enc : α → List Value} {w : World} {p : Nat → Prop} {v : Value} {L : List α} (h : RdP sz enc w p v L) : RdP sz enc w (fun g => p g ∧ g < w.heap.size) v L := by
  refine ⟨h.1, ?_⟩
  obtain ⟨⟨a, c, rfl, h1, h2, h3⟩, h4⟩ := h
  rcases h3 with h3 | ⟨b, o, rfl, hB, hb, hc⟩
  · exact .inl h3
  · rcases h4 with h4 | h4
    · exact .inl h4
    · exact .inr fun g e => ⟨h4 g e, by have e2 : some b = some g := e; injection e2 with e2; omega⟩
theorem DdP.lt {w : World} {p : Nat → Prop} {a b : Value} {d : Dd} (h : DdP w p a b d) : DdP w (fun g => p g ∧ g < w.heap.size) a b d := by
  obtain ⟨ho, vs, h1, h2, h3⟩ := h
  exact ⟨ho.lt, vs, h1.lt, h2, fun k hk => (h3 k hk).lt⟩
/-- Not below B, and not the box g. -/
def pB (B g x : Nat) : Prop := B ≤ x ∧ x ≠ g
/-- Descriptors in the box g, a result's box, a tape. -/
structure MdW (w : World) (T : TypeId) (B b g N : Nat) (a v : Value) (d : Dd) (wr : World) : Prop where
  res : Own wr w.heap.size T #[.slice none 0 0, .slice none 0 0]
  box : Own wr g T #[a, v]
  dd : DdP wr (pB (w.heap.size + 1) g) a v d
  tp : Tp B wr b
  gr : w.grownBy wr (some b)
  ok : OkDd d
  tl : d.t.length = N
  hg : w.heap.size < g
  hb : b < w.heap.size
section
variable {w wr w' : World} {T : TypeId} {B b g N : Nat} {a v : Value} {d : Dd}
theorem MdW.next (h : MdW w T B b g N a v d wr) (t : Tp B w' b) (k : wr.grownBy w' (some b)) : MdW w T B b g N a v d w' :=
  have hb := h.hb
  have hg := h.hg
  ⟨h.res.past k (by omega), h.box.past k (by omega), h.dd.past k (fun e => by have := e.1; omega), t, grown_trans h.gr k, h.ok, h.tl, h.hg, h.hb⟩
theorem MdW.drew (h : MdW w T B b g N a v d wr) : MdW w T B b g N a v d wr.drew := ⟨h.res.drew, h.box.drew, h.dd.grew (Grew.refl wr).drew, h.tp.grew (Grew.refl wr).drew, grown_drew h.gr, h.ok, h.tl, h.hg, h.hb⟩
theorem MdW.ol (h : MdW w T B b g N a v d wr) : d.o.length ≤ 1000 := by have := h.ok.o; omega
theorem MdW.tl8 (h : MdW w T B b g N a v d wr) : d.t.length ≤ 1000 := by have := h.ok.t8; omega
theorem MdW.put (h : MdW w T B b g N a v d wr) {w2 E : World} (hB : B ≤ w.heap.size) (g2 : Grew wr w2) {x y : Value} {d' : Dd} (D : DdP w2 (pW (pB (w.heap.size + 1) g) wr) x y d') (hw : (w2.setCell ⟨g, 0, none⟩ x).setCell ⟨g, 1, none⟩ y = E) (ok : OkDd d') (tl : d'.t.length = N) : MdW w T B b g N x y d' E := by
  have hg := h.hg
  have hb := h.hb
  have hgl := h.box.lt
  have hs := h.gr.size
  have D2 : DdP w2 (pB (w.heap.size + 1) g) x y d' := D.mono fun z hz => by
    rcases hz with hz | hz
    · exact hz
    · exact ⟨by omega, by omega⟩
  have gg := grown2D hw
  refine ⟨(h.res.grew g2).far2D hw (by omega), (h.box.grew g2).store2D hw, D2.past gg (fun e => e.2 rfl), ?_, ?_, ok, tl, hg, hb⟩
  · rw [← hw]
    exact ((h.tp.grew g2).set (p := ⟨g, 0, none⟩) (show B ≤ g by omega) x).set (p := ⟨g, 1, none⟩) (show B ≤ g by omega) y
  · rw [← hw]
    refine grown_set (p := ⟨g, 1, none⟩) (grown_set (p := ⟨g, 0, none⟩) (grown_trans h.gr ⟨g2.grown.os, g2.grown.tape, g2.grown.output, g2.grown.size, fun i hi _ => g2.grown.block i hi (by simp)⟩) (.inr (show w.heap.size ≤ g by omega)) x) (.inr (show w.heap.size ≤ g by omega)) y
end
/-- Made descriptors. -/
def RetMd (B b : Nat) (w : World) (e : Ending) (w' : World) : Prop := ∃ a v d, e = .returned (.agg #[a, v]) ∧ OkDd d ∧ d.t.length ≤ 3 ∧ DdP w' (fun x => w.heap.size ≤ x) a v d ∧ Tp B w' b ∧ w.grownBy w' (some b)
end Go.Mine
namespace Go.Proofs.Ytokijggckiidjaa
open Go.ChangeShapes Go.WideShapes Go.ChangeAt Go.RowKit Go.Mine
set_option maxRecDepth 100000 in
set_option maxHeartbeats 16000000 in
theorem made_x {B b : Nat} {w : World} (tp : Tp B w b) (hbw : B ≤ w.heap.size) : Calls Try.prog 29 #[.pointer (some ⟨b, 0, none⟩)] w (RetMd B b w) := by
  have hb := tp.ltB
  have T0 := tp.alloc (.cells #[.slice none 0 0, .slice none 0 0] 29)
  have R0 := Mine.Own.new w 29 #[.slice none 0 0, .slice none 0 0]
  have G0 : w.grownBy (w.alloc (.cells #[.slice none 0 0, .slice none 0 0] 29)) (some b) := grown_alloc (grown_refl _ _) _
  clear tp
  go_enter Try.func29, Try.ntmps29
  go_wp2_with fail
  with_reducible refine (next_x _ _ _ _ (by omega) (by omega) T0).mono ?_
  rintro e w1 ⟨q, q0, q1, rfl, T1, g1⟩
  have R1 := R0.past g1 (by omega)
  have G1 := grown_trans G0 g1
  obtain ⟨N, hN⟩ : ∃ N : Nat, 1 + q = N := ⟨(1 + q).toNat, by omega⟩
  have nN : IntKind.i64.wrap (1 + q) = N := (IntWalk.i64_in _ (by omega)).trans hN
  have hN1 : 1 ≤ N := by omega
  have hN3 : N ≤ 3 := by omega
  have HNW := Lib.hid (nwD_0 (n := N) hN1 (by omega))
  have HNO := Lib.hid (newD_ok (n := N) hN1 (by omega))
  have HR1 := Lib.hid R1
  have HG1 := Lib.hid G1
  have HT1 := Lib.hid T1
  clear T0 R0 G0 g1 q0 q1 hN R1 G1 T1
  go_wp2_with fail
  with_reducible refine (new_q HNW.out).mono ?_
  rintro e w2 ⟨a, v, rfl, D2, g2⟩
  obtain ⟨a1, c1, rfl, -, -⟩ := D2.rd.o.slice
  obtain ⟨v1, e1, rfl, -, -⟩ := D2.rd.t.slice
  have hgs := HR1.out.lt
  have HM2 : Hid (MdW w 29 B b w2.heap.size N (.slice a1 (newD N).o.length c1) (.slice v1 (newD N).t.length e1) (newD N) (w2.alloc (.cells #[.slice a1 (newD N).o.length c1, .slice v1 (newD N).t.length e1] 29))) := Lib.hid (by
    have gs := g2.size
    exact ⟨(HR1.out.grew g2).alloc _, Mine.Own.new w2 _ _, (D2.lt.mono (fun x h => ⟨by have := h.1.resolve_left id; omega, by have := h.2; omega⟩)).grew ((Grew.refl w2).alloc _), (HT1.out.grew g2).alloc _, grown_alloc (grown_trans HG1.out ⟨g2.grown.os, g2.grown.tape, g2.grown.output, g2.grown.size, fun i hi _ => g2.grown.block i hi (by simp)⟩) _, HNO.out, List.length_replicate, by omega, by omega⟩)
  have hgl : w.heap.size < w2.heap.size := by have := g2.size; omega
  generalize (newD N).o.length = on at *
  generalize (newD N).t.length = tn at *
  have HNW2 := HNW
  clear D2 g2 HR1 HG1 HT1 hgs HNW HNO HNW2
  go_wp2_with fail
  generalize World.alloc w2 _ = w3 at *
  generalize w2.heap.size = g at *
  with_reducible refine (next_x _ _ _ _ (by omega) (by omega) HM2.out.tp).mono ?_
  rintro e w4 ⟨q, q0, q1, rfl, T4, g4⟩
  obtain ⟨n, rfl⟩ := Int.eq_ofNat_of_zero_le q0
  have HM4 := Lib.hid (HM2.out.next T4 g4)
  clear T4 g4 HM2 q0
  go_wp2_with fail
  go_loopw [5] (fun iv wr => ∃ (k : Nat) (a v : Value) (d : Dd), iv = .int .i64 k ∧ k ≤ n ∧ Hid (MdW w 29 B b g N a v d wr)) (fun iv _ => (intOf iv).toNat)
  case atStart => exact ⟨n, _, _, _, rfl, Nat.le_refl _, HM4⟩
  case round =>
    clear HM4
    obtain ⟨k, a, v, d, rfl, hk, HM⟩ := hrel
    obtain ⟨wo, rfl⟩ : ∃ wo : World, wo = wr := ⟨_, rfl⟩
    obtain ⟨a1, c1, rfl, -, -⟩ := HM.out.dd.rd.o.slice
    obtain ⟨v1, e1, rfl, -, -⟩ := HM.out.dd.rd.t.slice
    rw [HM.out.tl] at HM
    obtain ⟨m, hm⟩ : ∃ m, d.o.length = m := ⟨_, rfl⟩
    rw [hm] at HM
    clear hm
    obtain ⟨x0, x1, x2, x3⟩ := HM.out.box.two
    rcases k with _ | k
    · obtain ⟨r0, r1, r2, r3⟩ := HM.out.res.two
      rw [show ((0 : Nat) : Int) = 0 from rfl]
      go_wp2
      generalize hw : World.setCell (World.setCell _ _ _) _ _ = E
      obtain ⟨k0, k1, -, -⟩ := (HM.out.res.store2D hw).two
      refine bodyPost_ret (v := .agg #[.slice a1 m c1, .slice v1 N e1]) (by simp [results, Try.results29, go_sem, k0, k1]) rfl ?_
      refine ⟨_, _, d, rfl, HM.out.ok, by rw [HM.out.tl]; exact hN3, (HM.out.dd.past (grown2D hw) (fun e => by have := e.1; omega)).mono (fun x h => by have := h.1; omega), ?_, ?_⟩
      · rw [← hw]
        exact (HM.out.tp.set (p := ⟨w.heap.size, 0, none⟩) (show B ≤ w.heap.size from hbw) _).set (p := ⟨w.heap.size, 1, none⟩) (show B ≤ w.heap.size from hbw) _
      · rw [← hw]
        exact grown_set (p := ⟨w.heap.size, 1, none⟩) (grown_set (p := ⟨w.heap.size, 0, none⟩) HM.out.gr (.inr (Nat.le_refl _)) _) (.inr (Nat.le_refl _)) _
    · have hk1 : (0 : Int) < ((k + 1 : Nat) : Int) := by omega
      have hN0 : (1 : Int) ≤ (N : Int) := by omega
      have hNm : (N : Int) ≤ 1000000 := by omega
      go_upto_region 5 with fail
      go_wp2_with fail
      with_reducible refine (next_x _ _ _ _ hN0 hNm HM.out.tp).mono ?_
      rintro e w5 ⟨p, p0, p1, rfl, T5, g5⟩
      replace HM := Lib.hid (HM.out.next T5 g5)
      clear T5 g5 x0 x1 x2 x3
      go_wp2_with fail
      with_reducible refine (next_x _ _ _ _ (by omega) (by omega) HM.out.tp).mono ?_
      rintro e w6 ⟨c, c0, c1', rfl, T6, g6⟩
      replace HM := Lib.hid (HM.out.next T6 g6)
      clear T6 g6
      by_cases e0 : c = 0
      · subst e0
        go_upto_region 9 with fail
        replace HM := Lib.hid HM.out.drew
        obtain ⟨x0, x1, x2, x3⟩ := HM.out.box.two
        refine wp_region_any (by kernel_rfl) ?_
        refine wpAny_take (i := 1) (oi := ⟨some 32, _, _, _, _, _⟩) (v := ?vvo1) rfl (by kernel_rfl) (by kernel_rfl) (by kernel_rfl) (fun _ _ _ h => h) (Or.inl ⟨by rfl, ?yyo1⟩) ?rro1
        case yyo1 => (intro w; go_simp; (try with_reducible rfl))
        try simp only [Act.put, List.setIfInBounds_toArray, List.set_cons_zero, List.set_cons_succ]
        refine wpAny_take (i := 2) (oi := ⟨some 33, _, _, _, _, _⟩) (v := ?vvo2) rfl (by kernel_rfl) (by kernel_rfl) (by kernel_rfl) (fun _ _ _ h => h) (Or.inl ⟨by rfl, ?yyo2⟩) ?rro2
        case yyo2 => (intro w; go_simp; (try with_reducible rfl))
        try simp only [Act.put, List.setIfInBounds_toArray, List.set_cons_zero, List.set_cons_succ]
        refine wpAny_take (i := 4) (oi := ⟨some 35, _, _, _, _, _⟩) (v := ?vvo3) rfl (by kernel_rfl) (by kernel_rfl) (by kernel_rfl) (fun _ _ _ h => h) (Or.inl ⟨by rfl, ?yyo3⟩) ?rro3
        case yyo3 => (intro w; go_simp; (try with_reducible rfl))
        try simp only [Act.put, List.setIfInBounds_toArray, List.set_cons_zero, List.set_cons_succ]
        refine wpAny_take (i := 7) (oi := ⟨some 38, _, _, _, _, _⟩) (v := ?vvo4) rfl (by kernel_rfl) (by kernel_rfl) (by kernel_rfl) (fun _ _ _ h => h) (Or.inl ⟨by rfl, ?yyo4⟩) ?rro4
        case yyo4 => (intro w; go_simp; (try with_reducible rfl))
        try simp only [Act.put, List.setIfInBounds_toArray, List.set_cons_zero, List.set_cons_succ]
        refine wpAny_ready (rs := [0, 3]) (by kernel_rfl) (by simp) ?_
        refine AllReady.cons (o := ⟨some 31, _, _, _, _, _⟩) rfl (fun K hK => ?sto5_0) (AllReady.cons (o := ⟨some 34, _, _, _, _, _⟩) rfl (fun K hK => ?sto5_1) AllReady.nil)
        case sto5_0 =>
          go_simp
          refine hK _ _ ?_
          clear hK K
          try simp only [Act.put, List.setIfInBounds_toArray, List.set_cons_zero, List.set_cons_succ]
          refine wpAny_ready (rs := [3]) (by kernel_rfl) (by simp) ?_
          refine AllReady.cons (o := ⟨some 34, _, _, _, _, _⟩) rfl (fun K hK => ?sto6_0) AllReady.nil
          case sto6_0 =>
            go_simp
            with_reducible refine (next_x _ _ _ _ (by omega) (by omega) HM.out.tp).mono ?_
            rintro e tq1 ⟨q1, q10, q11, rfl, T5, g5⟩
            replace HM := Lib.hid (HM.out.next T5 g5)
            clear T5 g5 x0 x1 x2 x3
            obtain ⟨x0, x1, x2, x3⟩ := HM.out.box.two
            dsimp only
            refine hK _ _ ?_
            clear hK K
            try simp only [Act.put, List.setIfInBounds_toArray, List.set_cons_zero, List.set_cons_succ]
            refine wpAny_ready (rs := [5]) (by kernel_rfl) (by simp) ?_
            refine AllReady.cons (o := ⟨some 36, _, _, _, _, _⟩) rfl (fun K hK => ?sto7_0) AllReady.nil
            case sto7_0 =>
              go_simp
              with_reducible refine (next_x _ _ _ _ (by omega) (by omega) HM.out.tp).mono ?_
              rintro e tq2 ⟨q2, q20, q21, rfl, T5, g5⟩
              replace HM := Lib.hid (HM.out.next T5 g5)
              clear T5 g5 x0 x1 x2 x3
              obtain ⟨x0, x1, x2, x3⟩ := HM.out.box.two
              have n2 : IntKind.i64.wrap (1 + q2) = 1 + q2 := IntWalk.i64_in _ (by omega)
              dsimp only
              refine hK _ _ ?_
              clear hK K
              try simp only [Act.put, List.setIfInBounds_toArray, List.set_cons_zero, List.set_cons_succ]
              refine wpAny_take (i := 6) (oi := ⟨some 37, _, _, _, _, _⟩) (v := ?vvo8) rfl (by kernel_rfl) (by kernel_rfl) (by kernel_rfl) (fun _ _ _ h => h) (Or.inl ⟨by rfl, ?yyo8⟩) ?rro8
              case yyo8 => (intro w; go_simp; (try with_reducible rfl))
              try simp only [Act.put, List.setIfInBounds_toArray, List.set_cons_zero, List.set_cons_succ]
              refine wpAny_ready (rs := [8]) (by kernel_rfl) (by simp) ?_
              refine AllReady.cons (o := ⟨some 39, _, _, _, _, _⟩) rfl (fun K hK => ?sto9_0) AllReady.nil
              case sto9_0 =>
                go_simp
                with_reducible refine (next_x _ _ _ _ (by omega) (by omega) HM.out.tp).mono ?_
                rintro e tq3 ⟨q3, q30, q31, rfl, T5, g5⟩
                replace HM := Lib.hid (HM.out.next T5 g5)
                clear T5 g5 x0 x1 x2 x3
                obtain ⟨x0, x1, x2, x3⟩ := HM.out.box.two
                dsimp only
                refine hK _ _ ?_
                clear hK K
                try simp only [Act.put, List.setIfInBounds_toArray, List.set_cons_zero, List.set_cons_succ]
                refine wpAny_ready (rs := [9]) (by kernel_rfl) (by simp) ?_
                refine AllReady.cons (o := ⟨some 40, _, _, _, _, _⟩) rfl (fun K hK => ?sto10_0) AllReady.nil
                case sto10_0 =>
                  go_simp
                  have hol := HM.out.ol
                  have htl := HM.out.tl8
                  with_reducible refine (open_q (p := p) (f := q1) (g := 1 + q2) (c := q3) HM.out.dd hol htl rfl).mono ?_
                  rintro e t9 ⟨a5, v5, rfl, D5, g5⟩
                  obtain ⟨a6, c6, rfl, -, -⟩ := D5.rd.o.slice
                  obtain ⟨v6, e6, rfl, -, -⟩ := D5.rd.t.slice
                  have HD5 := Lib.hid D5
                  have HG5 := Lib.hid g5
                  have HK5 := Lib.hid (opnD_ok HM.out.ok p (x := ⟨q1, 1 + q2, 0, q3, 1⟩) rfl)
                  have hy := (HM.out.box.grew g5).two
                  obtain ⟨y0, y1, y2, y3⟩ := hy
                  clear D5 g5 x0 x1 x2 x3 hol htl
                  dsimp only
                  refine hK _ _ ?_
                  clear hK K
                  try simp only [Act.put, List.setIfInBounds_toArray, List.set_cons_zero, List.set_cons_succ]
                  refine wpAny_take (i := 10) (oi := ⟨some 30, _, _, _, _, _⟩) (v := ?vvo11) rfl (by kernel_rfl) (by kernel_rfl) (by kernel_rfl) (fun _ _ _ h => h) (Or.inl ⟨by rfl, ?yyo11⟩) ?rro11
                  case yyo11 => (intro w; go_simp; (try with_reducible rfl))
                  try simp only [Act.put, List.setIfInBounds_toArray, List.set_cons_zero, List.set_cons_succ]
                  refine wpAny_take (i := 11) (oi := ⟨some 41, _, _, _, _, _⟩) (v := ?vvo12) rfl (by kernel_rfl) (by kernel_rfl) (by kernel_rfl) (fun _ _ _ h => h) (Or.inl ⟨by rfl, ?yyo12⟩) ?rro12
                  case yyo12 => (intro w; go_simp; (try with_reducible rfl))
                  try simp only [Act.put, List.setIfInBounds_toArray, List.set_cons_zero, List.set_cons_succ]
                  refine wpAny_take (i := 12) (oi := ⟨some 42, _, _, _, _, _⟩) (v := ?vvo13) rfl (by kernel_rfl) (by kernel_rfl) (by kernel_rfl) (fun _ _ _ h => h) (Or.inl ⟨by rfl, ?yyo13⟩) ?rro13
                  case yyo13 => (intro w; go_simp; (try with_reducible rfl))
                  try simp only [Act.put, List.setIfInBounds_toArray, List.set_cons_zero, List.set_cons_succ]
                  refine wpAny_take (i := 13) (oi := ⟨some 43, _, _, _, _, _⟩) (v := ?vvo14) rfl (by kernel_rfl) (by kernel_rfl) (by kernel_rfl) (fun _ _ _ h => h) (Or.inl ⟨by rfl, ?yyo14⟩) ?rro14
                  case yyo14 => (intro w; go_simp; (try with_reducible rfl))
                  try simp only [Act.put, List.setIfInBounds_toArray, List.set_cons_zero, List.set_cons_succ]
                  refine wpAny_ready (rs := [14]) (by kernel_rfl) (by simp) ?_
                  refine AllReady.cons (o := ⟨none, _, _, _, _, _⟩) rfl (fun K hK => ?sto15_0) AllReady.nil
                  case sto15_0 =>
                    go_simp
                    refine hK _ _ ?_
                    clear hK K
                    try simp only [Act.put, List.setIfInBounds_toArray, List.set_cons_zero, List.set_cons_succ]
                    refine wpAny_done (by kernel_rfl) ?_ _
                    (first | go_wp2_with fail | skip)
                    generalize hw : World.setCell (World.setCell t9 _ _) _ _ = E
                    have HM9 := Lib.hid (HM.out.put hbw HG5.out HD5.out hw HK5.out.1 (HK5.out.2.trans HM.out.tl))
                    go_roundw
                    case rel => exact ⟨k, _, _, _, by go_num, by omega, HM9⟩
                    case measure => simp [intOf] <;> omega
        case sto5_1 =>
          go_simp
          with_reducible refine (next_x _ _ _ _ (by omega) (by omega) HM.out.tp).mono ?_
          rintro e tq1 ⟨q1, q10, q11, rfl, T5, g5⟩
          replace HM := Lib.hid (HM.out.next T5 g5)
          clear T5 g5 x0 x1 x2 x3
          obtain ⟨x0, x1, x2, x3⟩ := HM.out.box.two
          dsimp only
          refine hK _ _ ?_
          clear hK K
          try simp only [Act.put, List.setIfInBounds_toArray, List.set_cons_zero, List.set_cons_succ]
          refine wpAny_ready (rs := [0, 5]) (by kernel_rfl) (by simp) ?_
          refine AllReady.cons (o := ⟨some 31, _, _, _, _, _⟩) rfl (fun K hK => ?sto16_0) (AllReady.cons (o := ⟨some 36, _, _, _, _, _⟩) rfl (fun K hK => ?sto16_1) AllReady.nil)
          case sto16_0 =>
            go_simp
            refine hK _ _ ?_
            clear hK K
            try simp only [Act.put, List.setIfInBounds_toArray, List.set_cons_zero, List.set_cons_succ]
            refine wpAny_ready (rs := [5]) (by kernel_rfl) (by simp) ?_
            refine AllReady.cons (o := ⟨some 36, _, _, _, _, _⟩) rfl (fun K hK => ?sto17_0) AllReady.nil
            case sto17_0 =>
              go_simp
              with_reducible refine (next_x _ _ _ _ (by omega) (by omega) HM.out.tp).mono ?_
              rintro e tq2 ⟨q2, q20, q21, rfl, T5, g5⟩
              replace HM := Lib.hid (HM.out.next T5 g5)
              clear T5 g5 x0 x1 x2 x3
              obtain ⟨x0, x1, x2, x3⟩ := HM.out.box.two
              have n2 : IntKind.i64.wrap (1 + q2) = 1 + q2 := IntWalk.i64_in _ (by omega)
              dsimp only
              refine hK _ _ ?_
              clear hK K
              try simp only [Act.put, List.setIfInBounds_toArray, List.set_cons_zero, List.set_cons_succ]
              refine wpAny_take (i := 6) (oi := ⟨some 37, _, _, _, _, _⟩) (v := ?vvo18) rfl (by kernel_rfl) (by kernel_rfl) (by kernel_rfl) (fun _ _ _ h => h) (Or.inl ⟨by rfl, ?yyo18⟩) ?rro18
              case yyo18 => (intro w; go_simp; (try with_reducible rfl))
              try simp only [Act.put, List.setIfInBounds_toArray, List.set_cons_zero, List.set_cons_succ]
              refine wpAny_ready (rs := [8]) (by kernel_rfl) (by simp) ?_
              refine AllReady.cons (o := ⟨some 39, _, _, _, _, _⟩) rfl (fun K hK => ?sto19_0) AllReady.nil
              case sto19_0 =>
                go_simp
                with_reducible refine (next_x _ _ _ _ (by omega) (by omega) HM.out.tp).mono ?_
                rintro e tq3 ⟨q3, q30, q31, rfl, T5, g5⟩
                replace HM := Lib.hid (HM.out.next T5 g5)
                clear T5 g5 x0 x1 x2 x3
                obtain ⟨x0, x1, x2, x3⟩ := HM.out.box.two
                dsimp only
                refine hK _ _ ?_
                clear hK K
                try simp only [Act.put, List.setIfInBounds_toArray, List.set_cons_zero, List.set_cons_succ]
                refine wpAny_ready (rs := [9]) (by kernel_rfl) (by simp) ?_
                refine AllReady.cons (o := ⟨some 40, _, _, _, _, _⟩) rfl (fun K hK => ?sto20_0) AllReady.nil
                case sto20_0 =>
                  go_simp
                  have hol := HM.out.ol
                  have htl := HM.out.tl8
                  with_reducible refine (open_q (p := p) (f := q1) (g := 1 + q2) (c := q3) HM.out.dd hol htl rfl).mono ?_
                  rintro e t9 ⟨a5, v5, rfl, D5, g5⟩
                  obtain ⟨a6, c6, rfl, -, -⟩ := D5.rd.o.slice
                  obtain ⟨v6, e6, rfl, -, -⟩ := D5.rd.t.slice
                  have HD5 := Lib.hid D5
                  have HG5 := Lib.hid g5
                  have HK5 := Lib.hid (opnD_ok HM.out.ok p (x := ⟨q1, 1 + q2, 0, q3, 1⟩) rfl)
                  have hy := (HM.out.box.grew g5).two
                  obtain ⟨y0, y1, y2, y3⟩ := hy
                  clear D5 g5 x0 x1 x2 x3 hol htl
                  dsimp only
                  refine hK _ _ ?_
                  clear hK K
                  try simp only [Act.put, List.setIfInBounds_toArray, List.set_cons_zero, List.set_cons_succ]
                  refine wpAny_take (i := 10) (oi := ⟨some 30, _, _, _, _, _⟩) (v := ?vvo21) rfl (by kernel_rfl) (by kernel_rfl) (by kernel_rfl) (fun _ _ _ h => h) (Or.inl ⟨by rfl, ?yyo21⟩) ?rro21
                  case yyo21 => (intro w; go_simp; (try with_reducible rfl))
                  try simp only [Act.put, List.setIfInBounds_toArray, List.set_cons_zero, List.set_cons_succ]
                  refine wpAny_take (i := 11) (oi := ⟨some 41, _, _, _, _, _⟩) (v := ?vvo22) rfl (by kernel_rfl) (by kernel_rfl) (by kernel_rfl) (fun _ _ _ h => h) (Or.inl ⟨by rfl, ?yyo22⟩) ?rro22
                  case yyo22 => (intro w; go_simp; (try with_reducible rfl))
                  try simp only [Act.put, List.setIfInBounds_toArray, List.set_cons_zero, List.set_cons_succ]
                  refine wpAny_take (i := 12) (oi := ⟨some 42, _, _, _, _, _⟩) (v := ?vvo23) rfl (by kernel_rfl) (by kernel_rfl) (by kernel_rfl) (fun _ _ _ h => h) (Or.inl ⟨by rfl, ?yyo23⟩) ?rro23
                  case yyo23 => (intro w; go_simp; (try with_reducible rfl))
                  try simp only [Act.put, List.setIfInBounds_toArray, List.set_cons_zero, List.set_cons_succ]
                  refine wpAny_take (i := 13) (oi := ⟨some 43, _, _, _, _, _⟩) (v := ?vvo24) rfl (by kernel_rfl) (by kernel_rfl) (by kernel_rfl) (fun _ _ _ h => h) (Or.inl ⟨by rfl, ?yyo24⟩) ?rro24
                  case yyo24 => (intro w; go_simp; (try with_reducible rfl))
                  try simp only [Act.put, List.setIfInBounds_toArray, List.set_cons_zero, List.set_cons_succ]
                  refine wpAny_ready (rs := [14]) (by kernel_rfl) (by simp) ?_
                  refine AllReady.cons (o := ⟨none, _, _, _, _, _⟩) rfl (fun K hK => ?sto25_0) AllReady.nil
                  case sto25_0 =>
                    go_simp
                    refine hK _ _ ?_
                    clear hK K
                    try simp only [Act.put, List.setIfInBounds_toArray, List.set_cons_zero, List.set_cons_succ]
                    refine wpAny_done (by kernel_rfl) ?_ _
                    (first | go_wp2_with fail | skip)
                    generalize hw : World.setCell (World.setCell t9 _ _) _ _ = E
                    have HM9 := Lib.hid (HM.out.put hbw HG5.out HD5.out hw HK5.out.1 (HK5.out.2.trans HM.out.tl))
                    go_roundw
                    case rel => exact ⟨k, _, _, _, by go_num, by omega, HM9⟩
                    case measure => simp [intOf] <;> omega
          case sto16_1 =>
            go_simp
            with_reducible refine (next_x _ _ _ _ (by omega) (by omega) HM.out.tp).mono ?_
            rintro e tq2 ⟨q2, q20, q21, rfl, T5, g5⟩
            replace HM := Lib.hid (HM.out.next T5 g5)
            clear T5 g5 x0 x1 x2 x3
            obtain ⟨x0, x1, x2, x3⟩ := HM.out.box.two
            have n2 : IntKind.i64.wrap (1 + q2) = 1 + q2 := IntWalk.i64_in _ (by omega)
            dsimp only
            refine hK _ _ ?_
            clear hK K
            try simp only [Act.put, List.setIfInBounds_toArray, List.set_cons_zero, List.set_cons_succ]
            refine wpAny_take (i := 6) (oi := ⟨some 37, _, _, _, _, _⟩) (v := ?vvo26) rfl (by kernel_rfl) (by kernel_rfl) (by kernel_rfl) (fun _ _ _ h => h) (Or.inl ⟨by rfl, ?yyo26⟩) ?rro26
            case yyo26 => (intro w; go_simp; (try with_reducible rfl))
            try simp only [Act.put, List.setIfInBounds_toArray, List.set_cons_zero, List.set_cons_succ]
            refine wpAny_ready (rs := [0, 8]) (by kernel_rfl) (by simp) ?_
            refine AllReady.cons (o := ⟨some 31, _, _, _, _, _⟩) rfl (fun K hK => ?sto27_0) (AllReady.cons (o := ⟨some 39, _, _, _, _, _⟩) rfl (fun K hK => ?sto27_1) AllReady.nil)
            case sto27_0 =>
              go_simp
              refine hK _ _ ?_
              clear hK K
              try simp only [Act.put, List.setIfInBounds_toArray, List.set_cons_zero, List.set_cons_succ]
              refine wpAny_ready (rs := [8]) (by kernel_rfl) (by simp) ?_
              refine AllReady.cons (o := ⟨some 39, _, _, _, _, _⟩) rfl (fun K hK => ?sto28_0) AllReady.nil
              case sto28_0 =>
                go_simp
                with_reducible refine (next_x _ _ _ _ (by omega) (by omega) HM.out.tp).mono ?_
                rintro e tq3 ⟨q3, q30, q31, rfl, T5, g5⟩
                replace HM := Lib.hid (HM.out.next T5 g5)
                clear T5 g5 x0 x1 x2 x3
                obtain ⟨x0, x1, x2, x3⟩ := HM.out.box.two
                dsimp only
                refine hK _ _ ?_
                clear hK K
                try simp only [Act.put, List.setIfInBounds_toArray, List.set_cons_zero, List.set_cons_succ]
                refine wpAny_ready (rs := [9]) (by kernel_rfl) (by simp) ?_
                refine AllReady.cons (o := ⟨some 40, _, _, _, _, _⟩) rfl (fun K hK => ?sto29_0) AllReady.nil
                case sto29_0 =>
                  go_simp
                  have hol := HM.out.ol
                  have htl := HM.out.tl8
                  with_reducible refine (open_q (p := p) (f := q1) (g := 1 + q2) (c := q3) HM.out.dd hol htl rfl).mono ?_
                  rintro e t9 ⟨a5, v5, rfl, D5, g5⟩
                  obtain ⟨a6, c6, rfl, -, -⟩ := D5.rd.o.slice
                  obtain ⟨v6, e6, rfl, -, -⟩ := D5.rd.t.slice
                  have HD5 := Lib.hid D5
                  have HG5 := Lib.hid g5
                  have HK5 := Lib.hid (opnD_ok HM.out.ok p (x := ⟨q1, 1 + q2, 0, q3, 1⟩) rfl)
                  have hy := (HM.out.box.grew g5).two
                  obtain ⟨y0, y1, y2, y3⟩ := hy
                  clear D5 g5 x0 x1 x2 x3 hol htl
                  dsimp only
                  refine hK _ _ ?_
                  clear hK K
                  try simp only [Act.put, List.setIfInBounds_toArray, List.set_cons_zero, List.set_cons_succ]
                  refine wpAny_take (i := 10) (oi := ⟨some 30, _, _, _, _, _⟩) (v := ?vvo30) rfl (by kernel_rfl) (by kernel_rfl) (by kernel_rfl) (fun _ _ _ h => h) (Or.inl ⟨by rfl, ?yyo30⟩) ?rro30
                  case yyo30 => (intro w; go_simp; (try with_reducible rfl))
                  try simp only [Act.put, List.setIfInBounds_toArray, List.set_cons_zero, List.set_cons_succ]
                  refine wpAny_take (i := 11) (oi := ⟨some 41, _, _, _, _, _⟩) (v := ?vvo31) rfl (by kernel_rfl) (by kernel_rfl) (by kernel_rfl) (fun _ _ _ h => h) (Or.inl ⟨by rfl, ?yyo31⟩) ?rro31
                  case yyo31 => (intro w; go_simp; (try with_reducible rfl))
                  try simp only [Act.put, List.setIfInBounds_toArray, List.set_cons_zero, List.set_cons_succ]
                  refine wpAny_take (i := 12) (oi := ⟨some 42, _, _, _, _, _⟩) (v := ?vvo32) rfl (by kernel_rfl) (by kernel_rfl) (by kernel_rfl) (fun _ _ _ h => h) (Or.inl ⟨by rfl, ?yyo32⟩) ?rro32
                  case yyo32 => (intro w; go_simp; (try with_reducible rfl))
                  try simp only [Act.put, List.setIfInBounds_toArray, List.set_cons_zero, List.set_cons_succ]
                  refine wpAny_take (i := 13) (oi := ⟨some 43, _, _, _, _, _⟩) (v := ?vvo33) rfl (by kernel_rfl) (by kernel_rfl) (by kernel_rfl) (fun _ _ _ h => h) (Or.inl ⟨by rfl, ?yyo33⟩) ?rro33
                  case yyo33 => (intro w; go_simp; (try with_reducible rfl))
                  try simp only [Act.put, List.setIfInBounds_toArray, List.set_cons_zero, List.set_cons_succ]
                  refine wpAny_ready (rs := [14]) (by kernel_rfl) (by simp) ?_
                  refine AllReady.cons (o := ⟨none, _, _, _, _, _⟩) rfl (fun K hK => ?sto34_0) AllReady.nil
                  case sto34_0 =>
                    go_simp
                    refine hK _ _ ?_
                    clear hK K
                    try simp only [Act.put, List.setIfInBounds_toArray, List.set_cons_zero, List.set_cons_succ]
                    refine wpAny_done (by kernel_rfl) ?_ _
                    (first | go_wp2_with fail | skip)
                    generalize hw : World.setCell (World.setCell t9 _ _) _ _ = E
                    have HM9 := Lib.hid (HM.out.put hbw HG5.out HD5.out hw HK5.out.1 (HK5.out.2.trans HM.out.tl))
                    go_roundw
                    case rel => exact ⟨k, _, _, _, by go_num, by omega, HM9⟩
                    case measure => simp [intOf] <;> omega
            case sto27_1 =>
              go_simp
              with_reducible refine (next_x _ _ _ _ (by omega) (by omega) HM.out.tp).mono ?_
              rintro e tq3 ⟨q3, q30, q31, rfl, T5, g5⟩
              replace HM := Lib.hid (HM.out.next T5 g5)
              clear T5 g5 x0 x1 x2 x3
              obtain ⟨x0, x1, x2, x3⟩ := HM.out.box.two
              dsimp only
              refine hK _ _ ?_
              clear hK K
              try simp only [Act.put, List.setIfInBounds_toArray, List.set_cons_zero, List.set_cons_succ]
              refine wpAny_ready (rs := [0]) (by kernel_rfl) (by simp) ?_
              refine AllReady.cons (o := ⟨some 31, _, _, _, _, _⟩) rfl (fun K hK => ?sto35_0) AllReady.nil
              case sto35_0 =>
                go_simp
                refine hK _ _ ?_
                clear hK K
                try simp only [Act.put, List.setIfInBounds_toArray, List.set_cons_zero, List.set_cons_succ]
                refine wpAny_ready (rs := [9]) (by kernel_rfl) (by simp) ?_
                refine AllReady.cons (o := ⟨some 40, _, _, _, _, _⟩) rfl (fun K hK => ?sto36_0) AllReady.nil
                case sto36_0 =>
                  go_simp
                  have hol := HM.out.ol
                  have htl := HM.out.tl8
                  with_reducible refine (open_q (p := p) (f := q1) (g := 1 + q2) (c := q3) HM.out.dd hol htl rfl).mono ?_
                  rintro e t9 ⟨a5, v5, rfl, D5, g5⟩
                  obtain ⟨a6, c6, rfl, -, -⟩ := D5.rd.o.slice
                  obtain ⟨v6, e6, rfl, -, -⟩ := D5.rd.t.slice
                  have HD5 := Lib.hid D5
                  have HG5 := Lib.hid g5
                  have HK5 := Lib.hid (opnD_ok HM.out.ok p (x := ⟨q1, 1 + q2, 0, q3, 1⟩) rfl)
                  have hy := (HM.out.box.grew g5).two
                  obtain ⟨y0, y1, y2, y3⟩ := hy
                  clear D5 g5 x0 x1 x2 x3 hol htl
                  dsimp only
                  refine hK _ _ ?_
                  clear hK K
                  try simp only [Act.put, List.setIfInBounds_toArray, List.set_cons_zero, List.set_cons_succ]
                  refine wpAny_take (i := 10) (oi := ⟨some 30, _, _, _, _, _⟩) (v := ?vvo37) rfl (by kernel_rfl) (by kernel_rfl) (by kernel_rfl) (fun _ _ _ h => h) (Or.inl ⟨by rfl, ?yyo37⟩) ?rro37
                  case yyo37 => (intro w; go_simp; (try with_reducible rfl))
                  try simp only [Act.put, List.setIfInBounds_toArray, List.set_cons_zero, List.set_cons_succ]
                  refine wpAny_take (i := 11) (oi := ⟨some 41, _, _, _, _, _⟩) (v := ?vvo38) rfl (by kernel_rfl) (by kernel_rfl) (by kernel_rfl) (fun _ _ _ h => h) (Or.inl ⟨by rfl, ?yyo38⟩) ?rro38
                  case yyo38 => (intro w; go_simp; (try with_reducible rfl))
                  try simp only [Act.put, List.setIfInBounds_toArray, List.set_cons_zero, List.set_cons_succ]
                  refine wpAny_take (i := 12) (oi := ⟨some 42, _, _, _, _, _⟩) (v := ?vvo39) rfl (by kernel_rfl) (by kernel_rfl) (by kernel_rfl) (fun _ _ _ h => h) (Or.inl ⟨by rfl, ?yyo39⟩) ?rro39
                  case yyo39 => (intro w; go_simp; (try with_reducible rfl))
                  try simp only [Act.put, List.setIfInBounds_toArray, List.set_cons_zero, List.set_cons_succ]
                  refine wpAny_take (i := 13) (oi := ⟨some 43, _, _, _, _, _⟩) (v := ?vvo40) rfl (by kernel_rfl) (by kernel_rfl) (by kernel_rfl) (fun _ _ _ h => h) (Or.inl ⟨by rfl, ?yyo40⟩) ?rro40
                  case yyo40 => (intro w; go_simp; (try with_reducible rfl))
                  try simp only [Act.put, List.setIfInBounds_toArray, List.set_cons_zero, List.set_cons_succ]
                  refine wpAny_ready (rs := [14]) (by kernel_rfl) (by simp) ?_
                  refine AllReady.cons (o := ⟨none, _, _, _, _, _⟩) rfl (fun K hK => ?sto41_0) AllReady.nil
                  case sto41_0 =>
                    go_simp
                    refine hK _ _ ?_
                    clear hK K
                    try simp only [Act.put, List.setIfInBounds_toArray, List.set_cons_zero, List.set_cons_succ]
                    refine wpAny_done (by kernel_rfl) ?_ _
                    (first | go_wp2_with fail | skip)
                    generalize hw : World.setCell (World.setCell t9 _ _) _ _ = E
                    have HM9 := Lib.hid (HM.out.put hbw HG5.out HD5.out hw HK5.out.1 (HK5.out.2.trans HM.out.tl))
                    go_roundw
                    case rel => exact ⟨k, _, _, _, by go_num, by omega, HM9⟩
                    case measure => simp [intOf] <;> omega
      have n0 : (c == 0) = false := by simpa using e0
      by_cases e1 : c = 1
      · subst e1
        go_upto_region 9 with fail
        replace HM := Lib.hid HM.out.drew
        obtain ⟨x0, x1, x2, x3⟩ := HM.out.box.two
        refine wp_region_any (by kernel_rfl) ?_
        refine wpAny_take (i := 1) (oi := ⟨some 32, _, _, _, _, _⟩) (v := ?vvoo1) rfl (by kernel_rfl) (by kernel_rfl) (by kernel_rfl) (fun _ _ _ h => h) (Or.inl ⟨by rfl, ?yyoo1⟩) ?rroo1
        case yyoo1 => (intro w; go_simp; (try with_reducible rfl))
        try simp only [Act.put, List.setIfInBounds_toArray, List.set_cons_zero, List.set_cons_succ]
        refine wpAny_take (i := 2) (oi := ⟨some 33, _, _, _, _, _⟩) (v := ?vvoo2) rfl (by kernel_rfl) (by kernel_rfl) (by kernel_rfl) (fun _ _ _ h => h) (Or.inl ⟨by rfl, ?yyoo2⟩) ?rroo2
        case yyoo2 => (intro w; go_simp; (try with_reducible rfl))
        try simp only [Act.put, List.setIfInBounds_toArray, List.set_cons_zero, List.set_cons_succ]
        refine wpAny_take (i := 4) (oi := ⟨some 35, _, _, _, _, _⟩) (v := ?vvoo3) rfl (by kernel_rfl) (by kernel_rfl) (by kernel_rfl) (fun _ _ _ h => h) (Or.inl ⟨by rfl, ?yyoo3⟩) ?rroo3
        case yyoo3 => (intro w; go_simp; (try with_reducible rfl))
        try simp only [Act.put, List.setIfInBounds_toArray, List.set_cons_zero, List.set_cons_succ]
        refine wpAny_take (i := 7) (oi := ⟨some 38, _, _, _, _, _⟩) (v := ?vvoo4) rfl (by kernel_rfl) (by kernel_rfl) (by kernel_rfl) (fun _ _ _ h => h) (Or.inl ⟨by rfl, ?yyoo4⟩) ?rroo4
        case yyoo4 => (intro w; go_simp; (try with_reducible rfl))
        try simp only [Act.put, List.setIfInBounds_toArray, List.set_cons_zero, List.set_cons_succ]
        refine wpAny_ready (rs := [0, 3]) (by kernel_rfl) (by simp) ?_
        refine AllReady.cons (o := ⟨some 31, _, _, _, _, _⟩) rfl (fun K hK => ?stoo5_0) (AllReady.cons (o := ⟨some 34, _, _, _, _, _⟩) rfl (fun K hK => ?stoo5_1) AllReady.nil)
        case stoo5_0 =>
          go_simp
          refine hK _ _ ?_
          clear hK K
          try simp only [Act.put, List.setIfInBounds_toArray, List.set_cons_zero, List.set_cons_succ]
          refine wpAny_ready (rs := [3]) (by kernel_rfl) (by simp) ?_
          refine AllReady.cons (o := ⟨some 34, _, _, _, _, _⟩) rfl (fun K hK => ?stoo6_0) AllReady.nil
          case stoo6_0 =>
            go_simp
            with_reducible refine (next_x _ _ _ _ (by omega) (by omega) HM.out.tp).mono ?_
            rintro e tq1 ⟨q1, q10, q11, rfl, T5, g5⟩
            replace HM := Lib.hid (HM.out.next T5 g5)
            clear T5 g5 x0 x1 x2 x3
            obtain ⟨x0, x1, x2, x3⟩ := HM.out.box.two
            dsimp only
            refine hK _ _ ?_
            clear hK K
            try simp only [Act.put, List.setIfInBounds_toArray, List.set_cons_zero, List.set_cons_succ]
            refine wpAny_ready (rs := [5]) (by kernel_rfl) (by simp) ?_
            refine AllReady.cons (o := ⟨some 36, _, _, _, _, _⟩) rfl (fun K hK => ?stoo7_0) AllReady.nil
            case stoo7_0 =>
              go_simp
              with_reducible refine (next_x _ _ _ _ (by omega) (by omega) HM.out.tp).mono ?_
              rintro e tq2 ⟨q2, q20, q21, rfl, T5, g5⟩
              replace HM := Lib.hid (HM.out.next T5 g5)
              clear T5 g5 x0 x1 x2 x3
              obtain ⟨x0, x1, x2, x3⟩ := HM.out.box.two
              have n2 : IntKind.i64.wrap (1 + q2) = 1 + q2 := IntWalk.i64_in _ (by omega)
              dsimp only
              refine hK _ _ ?_
              clear hK K
              try simp only [Act.put, List.setIfInBounds_toArray, List.set_cons_zero, List.set_cons_succ]
              refine wpAny_take (i := 6) (oi := ⟨some 37, _, _, _, _, _⟩) (v := ?vvoo8) rfl (by kernel_rfl) (by kernel_rfl) (by kernel_rfl) (fun _ _ _ h => h) (Or.inl ⟨by rfl, ?yyoo8⟩) ?rroo8
              case yyoo8 => (intro w; go_simp; (try with_reducible rfl))
              try simp only [Act.put, List.setIfInBounds_toArray, List.set_cons_zero, List.set_cons_succ]
              refine wpAny_ready (rs := [8]) (by kernel_rfl) (by simp) ?_
              refine AllReady.cons (o := ⟨some 39, _, _, _, _, _⟩) rfl (fun K hK => ?stoo9_0) AllReady.nil
              case stoo9_0 =>
                go_simp
                with_reducible refine (next_x _ _ _ _ (by omega) (by omega) HM.out.tp).mono ?_
                rintro e tq3 ⟨q3, q30, q31, rfl, T5, g5⟩
                replace HM := Lib.hid (HM.out.next T5 g5)
                clear T5 g5 x0 x1 x2 x3
                obtain ⟨x0, x1, x2, x3⟩ := HM.out.box.two
                dsimp only
                refine hK _ _ ?_
                clear hK K
                try simp only [Act.put, List.setIfInBounds_toArray, List.set_cons_zero, List.set_cons_succ]
                refine wpAny_ready (rs := [9]) (by kernel_rfl) (by simp) ?_
                refine AllReady.cons (o := ⟨some 40, _, _, _, _, _⟩) rfl (fun K hK => ?stoo10_0) AllReady.nil
                case stoo10_0 =>
                  go_simp
                  have hol := HM.out.ol
                  have htl := HM.out.tl8
                  with_reducible refine (open_q (p := p) (f := q1) (g := 1 + q2) (c := q3) HM.out.dd hol htl rfl).mono ?_
                  rintro e t9 ⟨a5, v5, rfl, D5, g5⟩
                  obtain ⟨a6, c6, rfl, -, -⟩ := D5.rd.o.slice
                  obtain ⟨v6, e6, rfl, -, -⟩ := D5.rd.t.slice
                  have HD5 := Lib.hid D5
                  have HG5 := Lib.hid g5
                  have HK5 := Lib.hid (opnD_ok HM.out.ok p (x := ⟨q1, 1 + q2, 0, q3, 1⟩) rfl)
                  have hy := (HM.out.box.grew g5).two
                  obtain ⟨y0, y1, y2, y3⟩ := hy
                  clear D5 g5 x0 x1 x2 x3 hol htl
                  dsimp only
                  refine hK _ _ ?_
                  clear hK K
                  try simp only [Act.put, List.setIfInBounds_toArray, List.set_cons_zero, List.set_cons_succ]
                  refine wpAny_take (i := 10) (oi := ⟨some 30, _, _, _, _, _⟩) (v := ?vvoo11) rfl (by kernel_rfl) (by kernel_rfl) (by kernel_rfl) (fun _ _ _ h => h) (Or.inl ⟨by rfl, ?yyoo11⟩) ?rroo11
                  case yyoo11 => (intro w; go_simp; (try with_reducible rfl))
                  try simp only [Act.put, List.setIfInBounds_toArray, List.set_cons_zero, List.set_cons_succ]
                  refine wpAny_take (i := 11) (oi := ⟨some 41, _, _, _, _, _⟩) (v := ?vvoo12) rfl (by kernel_rfl) (by kernel_rfl) (by kernel_rfl) (fun _ _ _ h => h) (Or.inl ⟨by rfl, ?yyoo12⟩) ?rroo12
                  case yyoo12 => (intro w; go_simp; (try with_reducible rfl))
                  try simp only [Act.put, List.setIfInBounds_toArray, List.set_cons_zero, List.set_cons_succ]
                  refine wpAny_take (i := 12) (oi := ⟨some 42, _, _, _, _, _⟩) (v := ?vvoo13) rfl (by kernel_rfl) (by kernel_rfl) (by kernel_rfl) (fun _ _ _ h => h) (Or.inl ⟨by rfl, ?yyoo13⟩) ?rroo13
                  case yyoo13 => (intro w; go_simp; (try with_reducible rfl))
                  try simp only [Act.put, List.setIfInBounds_toArray, List.set_cons_zero, List.set_cons_succ]
                  refine wpAny_take (i := 13) (oi := ⟨some 43, _, _, _, _, _⟩) (v := ?vvoo14) rfl (by kernel_rfl) (by kernel_rfl) (by kernel_rfl) (fun _ _ _ h => h) (Or.inl ⟨by rfl, ?yyoo14⟩) ?rroo14
                  case yyoo14 => (intro w; go_simp; (try with_reducible rfl))
                  try simp only [Act.put, List.setIfInBounds_toArray, List.set_cons_zero, List.set_cons_succ]
                  refine wpAny_ready (rs := [14]) (by kernel_rfl) (by simp) ?_
                  refine AllReady.cons (o := ⟨none, _, _, _, _, _⟩) rfl (fun K hK => ?stoo15_0) AllReady.nil
                  case stoo15_0 =>
                    go_simp
                    refine hK _ _ ?_
                    clear hK K
                    try simp only [Act.put, List.setIfInBounds_toArray, List.set_cons_zero, List.set_cons_succ]
                    refine wpAny_done (by kernel_rfl) ?_ _
                    (first | go_wp2_with fail | skip)
                    generalize hw : World.setCell (World.setCell t9 _ _) _ _ = E
                    have HM9 := Lib.hid (HM.out.put hbw HG5.out HD5.out hw HK5.out.1 (HK5.out.2.trans HM.out.tl))
                    go_roundw
                    case rel => exact ⟨k, _, _, _, by go_num, by omega, HM9⟩
                    case measure => simp [intOf] <;> omega
        case stoo5_1 =>
          go_simp
          with_reducible refine (next_x _ _ _ _ (by omega) (by omega) HM.out.tp).mono ?_
          rintro e tq1 ⟨q1, q10, q11, rfl, T5, g5⟩
          replace HM := Lib.hid (HM.out.next T5 g5)
          clear T5 g5 x0 x1 x2 x3
          obtain ⟨x0, x1, x2, x3⟩ := HM.out.box.two
          dsimp only
          refine hK _ _ ?_
          clear hK K
          try simp only [Act.put, List.setIfInBounds_toArray, List.set_cons_zero, List.set_cons_succ]
          refine wpAny_ready (rs := [0, 5]) (by kernel_rfl) (by simp) ?_
          refine AllReady.cons (o := ⟨some 31, _, _, _, _, _⟩) rfl (fun K hK => ?stoo16_0) (AllReady.cons (o := ⟨some 36, _, _, _, _, _⟩) rfl (fun K hK => ?stoo16_1) AllReady.nil)
          case stoo16_0 =>
            go_simp
            refine hK _ _ ?_
            clear hK K
            try simp only [Act.put, List.setIfInBounds_toArray, List.set_cons_zero, List.set_cons_succ]
            refine wpAny_ready (rs := [5]) (by kernel_rfl) (by simp) ?_
            refine AllReady.cons (o := ⟨some 36, _, _, _, _, _⟩) rfl (fun K hK => ?stoo17_0) AllReady.nil
            case stoo17_0 =>
              go_simp
              with_reducible refine (next_x _ _ _ _ (by omega) (by omega) HM.out.tp).mono ?_
              rintro e tq2 ⟨q2, q20, q21, rfl, T5, g5⟩
              replace HM := Lib.hid (HM.out.next T5 g5)
              clear T5 g5 x0 x1 x2 x3
              obtain ⟨x0, x1, x2, x3⟩ := HM.out.box.two
              have n2 : IntKind.i64.wrap (1 + q2) = 1 + q2 := IntWalk.i64_in _ (by omega)
              dsimp only
              refine hK _ _ ?_
              clear hK K
              try simp only [Act.put, List.setIfInBounds_toArray, List.set_cons_zero, List.set_cons_succ]
              refine wpAny_take (i := 6) (oi := ⟨some 37, _, _, _, _, _⟩) (v := ?vvoo18) rfl (by kernel_rfl) (by kernel_rfl) (by kernel_rfl) (fun _ _ _ h => h) (Or.inl ⟨by rfl, ?yyoo18⟩) ?rroo18
              case yyoo18 => (intro w; go_simp; (try with_reducible rfl))
              try simp only [Act.put, List.setIfInBounds_toArray, List.set_cons_zero, List.set_cons_succ]
              refine wpAny_ready (rs := [8]) (by kernel_rfl) (by simp) ?_
              refine AllReady.cons (o := ⟨some 39, _, _, _, _, _⟩) rfl (fun K hK => ?stoo19_0) AllReady.nil
              case stoo19_0 =>
                go_simp
                with_reducible refine (next_x _ _ _ _ (by omega) (by omega) HM.out.tp).mono ?_
                rintro e tq3 ⟨q3, q30, q31, rfl, T5, g5⟩
                replace HM := Lib.hid (HM.out.next T5 g5)
                clear T5 g5 x0 x1 x2 x3
                obtain ⟨x0, x1, x2, x3⟩ := HM.out.box.two
                dsimp only
                refine hK _ _ ?_
                clear hK K
                try simp only [Act.put, List.setIfInBounds_toArray, List.set_cons_zero, List.set_cons_succ]
                refine wpAny_ready (rs := [9]) (by kernel_rfl) (by simp) ?_
                refine AllReady.cons (o := ⟨some 40, _, _, _, _, _⟩) rfl (fun K hK => ?stoo20_0) AllReady.nil
                case stoo20_0 =>
                  go_simp
                  have hol := HM.out.ol
                  have htl := HM.out.tl8
                  with_reducible refine (open_q (p := p) (f := q1) (g := 1 + q2) (c := q3) HM.out.dd hol htl rfl).mono ?_
                  rintro e t9 ⟨a5, v5, rfl, D5, g5⟩
                  obtain ⟨a6, c6, rfl, -, -⟩ := D5.rd.o.slice
                  obtain ⟨v6, e6, rfl, -, -⟩ := D5.rd.t.slice
                  have HD5 := Lib.hid D5
                  have HG5 := Lib.hid g5
                  have HK5 := Lib.hid (opnD_ok HM.out.ok p (x := ⟨q1, 1 + q2, 0, q3, 1⟩) rfl)
                  have hy := (HM.out.box.grew g5).two
                  obtain ⟨y0, y1, y2, y3⟩ := hy
                  clear D5 g5 x0 x1 x2 x3 hol htl
                  dsimp only
                  refine hK _ _ ?_
                  clear hK K
                  try simp only [Act.put, List.setIfInBounds_toArray, List.set_cons_zero, List.set_cons_succ]
                  refine wpAny_take (i := 10) (oi := ⟨some 30, _, _, _, _, _⟩) (v := ?vvoo21) rfl (by kernel_rfl) (by kernel_rfl) (by kernel_rfl) (fun _ _ _ h => h) (Or.inl ⟨by rfl, ?yyoo21⟩) ?rroo21
                  case yyoo21 => (intro w; go_simp; (try with_reducible rfl))
                  try simp only [Act.put, List.setIfInBounds_toArray, List.set_cons_zero, List.set_cons_succ]
                  refine wpAny_take (i := 11) (oi := ⟨some 41, _, _, _, _, _⟩) (v := ?vvoo22) rfl (by kernel_rfl) (by kernel_rfl) (by kernel_rfl) (fun _ _ _ h => h) (Or.inl ⟨by rfl, ?yyoo22⟩) ?rroo22
                  case yyoo22 => (intro w; go_simp; (try with_reducible rfl))
                  try simp only [Act.put, List.setIfInBounds_toArray, List.set_cons_zero, List.set_cons_succ]
                  refine wpAny_take (i := 12) (oi := ⟨some 42, _, _, _, _, _⟩) (v := ?vvoo23) rfl (by kernel_rfl) (by kernel_rfl) (by kernel_rfl) (fun _ _ _ h => h) (Or.inl ⟨by rfl, ?yyoo23⟩) ?rroo23
                  case yyoo23 => (intro w; go_simp; (try with_reducible rfl))
                  try simp only [Act.put, List.setIfInBounds_toArray, List.set_cons_zero, List.set_cons_succ]
                  refine wpAny_take (i := 13) (oi := ⟨some 43, _, _, _, _, _⟩) (v := ?vvoo24) rfl (by kernel_rfl) (by kernel_rfl) (by kernel_rfl) (fun _ _ _ h => h) (Or.inl ⟨by rfl, ?yyoo24⟩) ?rroo24
                  case yyoo24 => (intro w; go_simp; (try with_reducible rfl))
                  try simp only [Act.put, List.setIfInBounds_toArray, List.set_cons_zero, List.set_cons_succ]
                  refine wpAny_ready (rs := [14]) (by kernel_rfl) (by simp) ?_
                  refine AllReady.cons (o := ⟨none, _, _, _, _, _⟩) rfl (fun K hK => ?stoo25_0) AllReady.nil
                  case stoo25_0 =>
                    go_simp
                    refine hK _ _ ?_
                    clear hK K
                    try simp only [Act.put, List.setIfInBounds_toArray, List.set_cons_zero, List.set_cons_succ]
                    refine wpAny_done (by kernel_rfl) ?_ _
                    (first | go_wp2_with fail | skip)
                    generalize hw : World.setCell (World.setCell t9 _ _) _ _ = E
                    have HM9 := Lib.hid (HM.out.put hbw HG5.out HD5.out hw HK5.out.1 (HK5.out.2.trans HM.out.tl))
                    go_roundw
                    case rel => exact ⟨k, _, _, _, by go_num, by omega, HM9⟩
                    case measure => simp [intOf] <;> omega
          case stoo16_1 =>
            go_simp
            with_reducible refine (next_x _ _ _ _ (by omega) (by omega) HM.out.tp).mono ?_
            rintro e tq2 ⟨q2, q20, q21, rfl, T5, g5⟩
            replace HM := Lib.hid (HM.out.next T5 g5)
            clear T5 g5 x0 x1 x2 x3
            obtain ⟨x0, x1, x2, x3⟩ := HM.out.box.two
            have n2 : IntKind.i64.wrap (1 + q2) = 1 + q2 := IntWalk.i64_in _ (by omega)
            dsimp only
            refine hK _ _ ?_
            clear hK K
            try simp only [Act.put, List.setIfInBounds_toArray, List.set_cons_zero, List.set_cons_succ]
            refine wpAny_take (i := 6) (oi := ⟨some 37, _, _, _, _, _⟩) (v := ?vvoo26) rfl (by kernel_rfl) (by kernel_rfl) (by kernel_rfl) (fun _ _ _ h => h) (Or.inl ⟨by rfl, ?yyoo26⟩) ?rroo26
            case yyoo26 => (intro w; go_simp; (try with_reducible rfl))
            try simp only [Act.put, List.setIfInBounds_toArray, List.set_cons_zero, List.set_cons_succ]
            refine wpAny_ready (rs := [0, 8]) (by kernel_rfl) (by simp) ?_
            refine AllReady.cons (o := ⟨some 31, _, _, _, _, _⟩) rfl (fun K hK => ?stoo27_0) (AllReady.cons (o := ⟨some 39, _, _, _, _, _⟩) rfl (fun K hK => ?stoo27_1) AllReady.nil)
            case stoo27_0 =>
              go_simp
              refine hK _ _ ?_
              clear hK K
              try simp only [Act.put, List.setIfInBounds_toArray, List.set_cons_zero, List.set_cons_succ]
              refine wpAny_ready (rs := [8]) (by kernel_rfl) (by simp) ?_
              refine AllReady.cons (o := ⟨some 39, _, _, _, _, _⟩) rfl (fun K hK => ?stoo28_0) AllReady.nil
              case stoo28_0 =>
                go_simp
                with_reducible refine (next_x _ _ _ _ (by omega) (by omega) HM.out.tp).mono ?_
                rintro e tq3 ⟨q3, q30, q31, rfl, T5, g5⟩
                replace HM := Lib.hid (HM.out.next T5 g5)
                clear T5 g5 x0 x1 x2 x3
                obtain ⟨x0, x1, x2, x3⟩ := HM.out.box.two
                dsimp only
                refine hK _ _ ?_
                clear hK K
                try simp only [Act.put, List.setIfInBounds_toArray, List.set_cons_zero, List.set_cons_succ]
                refine wpAny_ready (rs := [9]) (by kernel_rfl) (by simp) ?_
                refine AllReady.cons (o := ⟨some 40, _, _, _, _, _⟩) rfl (fun K hK => ?stoo29_0) AllReady.nil
                case stoo29_0 =>
                  go_simp
                  have hol := HM.out.ol
                  have htl := HM.out.tl8
                  with_reducible refine (open_q (p := p) (f := q1) (g := 1 + q2) (c := q3) HM.out.dd hol htl rfl).mono ?_
                  rintro e t9 ⟨a5, v5, rfl, D5, g5⟩
                  obtain ⟨a6, c6, rfl, -, -⟩ := D5.rd.o.slice
                  obtain ⟨v6, e6, rfl, -, -⟩ := D5.rd.t.slice
                  have HD5 := Lib.hid D5
                  have HG5 := Lib.hid g5
                  have HK5 := Lib.hid (opnD_ok HM.out.ok p (x := ⟨q1, 1 + q2, 0, q3, 1⟩) rfl)
                  have hy := (HM.out.box.grew g5).two
                  obtain ⟨y0, y1, y2, y3⟩ := hy
                  clear D5 g5 x0 x1 x2 x3 hol htl
                  dsimp only
                  refine hK _ _ ?_
                  clear hK K
                  try simp only [Act.put, List.setIfInBounds_toArray, List.set_cons_zero, List.set_cons_succ]
                  refine wpAny_take (i := 10) (oi := ⟨some 30, _, _, _, _, _⟩) (v := ?vvoo30) rfl (by kernel_rfl) (by kernel_rfl) (by kernel_rfl) (fun _ _ _ h => h) (Or.inl ⟨by rfl, ?yyoo30⟩) ?rroo30
                  case yyoo30 => (intro w; go_simp; (try with_reducible rfl))
                  try simp only [Act.put, List.setIfInBounds_toArray, List.set_cons_zero, List.set_cons_succ]
                  refine wpAny_take (i := 11) (oi := ⟨some 41, _, _, _, _, _⟩) (v := ?vvoo31) rfl (by kernel_rfl) (by kernel_rfl) (by kernel_rfl) (fun _ _ _ h => h) (Or.inl ⟨by rfl, ?yyoo31⟩) ?rroo31
                  case yyoo31 => (intro w; go_simp; (try with_reducible rfl))
                  try simp only [Act.put, List.setIfInBounds_toArray, List.set_cons_zero, List.set_cons_succ]
                  refine wpAny_take (i := 12) (oi := ⟨some 42, _, _, _, _, _⟩) (v := ?vvoo32) rfl (by kernel_rfl) (by kernel_rfl) (by kernel_rfl) (fun _ _ _ h => h) (Or.inl ⟨by rfl, ?yyoo32⟩) ?rroo32
                  case yyoo32 => (intro w; go_simp; (try with_reducible rfl))
                  try simp only [Act.put, List.setIfInBounds_toArray, List.set_cons_zero, List.set_cons_succ]
                  refine wpAny_take (i := 13) (oi := ⟨some 43, _, _, _, _, _⟩) (v := ?vvoo33) rfl (by kernel_rfl) (by kernel_rfl) (by kernel_rfl) (fun _ _ _ h => h) (Or.inl ⟨by rfl, ?yyoo33⟩) ?rroo33
                  case yyoo33 => (intro w; go_simp; (try with_reducible rfl))
                  try simp only [Act.put, List.setIfInBounds_toArray, List.set_cons_zero, List.set_cons_succ]
                  refine wpAny_ready (rs := [14]) (by kernel_rfl) (by simp) ?_
                  refine AllReady.cons (o := ⟨none, _, _, _, _, _⟩) rfl (fun K hK => ?stoo34_0) AllReady.nil
                  case stoo34_0 =>
                    go_simp
                    refine hK _ _ ?_
                    clear hK K
                    try simp only [Act.put, List.setIfInBounds_toArray, List.set_cons_zero, List.set_cons_succ]
                    refine wpAny_done (by kernel_rfl) ?_ _
                    (first | go_wp2_with fail | skip)
                    generalize hw : World.setCell (World.setCell t9 _ _) _ _ = E
                    have HM9 := Lib.hid (HM.out.put hbw HG5.out HD5.out hw HK5.out.1 (HK5.out.2.trans HM.out.tl))
                    go_roundw
                    case rel => exact ⟨k, _, _, _, by go_num, by omega, HM9⟩
                    case measure => simp [intOf] <;> omega
            case stoo27_1 =>
              go_simp
              with_reducible refine (next_x _ _ _ _ (by omega) (by omega) HM.out.tp).mono ?_
              rintro e tq3 ⟨q3, q30, q31, rfl, T5, g5⟩
              replace HM := Lib.hid (HM.out.next T5 g5)
              clear T5 g5 x0 x1 x2 x3
              obtain ⟨x0, x1, x2, x3⟩ := HM.out.box.two
              dsimp only
              refine hK _ _ ?_
              clear hK K
              try simp only [Act.put, List.setIfInBounds_toArray, List.set_cons_zero, List.set_cons_succ]
              refine wpAny_ready (rs := [0]) (by kernel_rfl) (by simp) ?_
              refine AllReady.cons (o := ⟨some 31, _, _, _, _, _⟩) rfl (fun K hK => ?stoo35_0) AllReady.nil
              case stoo35_0 =>
                go_simp
                refine hK _ _ ?_
                clear hK K
                try simp only [Act.put, List.setIfInBounds_toArray, List.set_cons_zero, List.set_cons_succ]
                refine wpAny_ready (rs := [9]) (by kernel_rfl) (by simp) ?_
                refine AllReady.cons (o := ⟨some 40, _, _, _, _, _⟩) rfl (fun K hK => ?stoo36_0) AllReady.nil
                case stoo36_0 =>
                  go_simp
                  have hol := HM.out.ol
                  have htl := HM.out.tl8
                  with_reducible refine (open_q (p := p) (f := q1) (g := 1 + q2) (c := q3) HM.out.dd hol htl rfl).mono ?_
                  rintro e t9 ⟨a5, v5, rfl, D5, g5⟩
                  obtain ⟨a6, c6, rfl, -, -⟩ := D5.rd.o.slice
                  obtain ⟨v6, e6, rfl, -, -⟩ := D5.rd.t.slice
                  have HD5 := Lib.hid D5
                  have HG5 := Lib.hid g5
                  have HK5 := Lib.hid (opnD_ok HM.out.ok p (x := ⟨q1, 1 + q2, 0, q3, 1⟩) rfl)
                  have hy := (HM.out.box.grew g5).two
                  obtain ⟨y0, y1, y2, y3⟩ := hy
                  clear D5 g5 x0 x1 x2 x3 hol htl
                  dsimp only
                  refine hK _ _ ?_
                  clear hK K
                  try simp only [Act.put, List.setIfInBounds_toArray, List.set_cons_zero, List.set_cons_succ]
                  refine wpAny_take (i := 10) (oi := ⟨some 30, _, _, _, _, _⟩) (v := ?vvoo37) rfl (by kernel_rfl) (by kernel_rfl) (by kernel_rfl) (fun _ _ _ h => h) (Or.inl ⟨by rfl, ?yyoo37⟩) ?rroo37
                  case yyoo37 => (intro w; go_simp; (try with_reducible rfl))
                  try simp only [Act.put, List.setIfInBounds_toArray, List.set_cons_zero, List.set_cons_succ]
                  refine wpAny_take (i := 11) (oi := ⟨some 41, _, _, _, _, _⟩) (v := ?vvoo38) rfl (by kernel_rfl) (by kernel_rfl) (by kernel_rfl) (fun _ _ _ h => h) (Or.inl ⟨by rfl, ?yyoo38⟩) ?rroo38
                  case yyoo38 => (intro w; go_simp; (try with_reducible rfl))
                  try simp only [Act.put, List.setIfInBounds_toArray, List.set_cons_zero, List.set_cons_succ]
                  refine wpAny_take (i := 12) (oi := ⟨some 42, _, _, _, _, _⟩) (v := ?vvoo39) rfl (by kernel_rfl) (by kernel_rfl) (by kernel_rfl) (fun _ _ _ h => h) (Or.inl ⟨by rfl, ?yyoo39⟩) ?rroo39
                  case yyoo39 => (intro w; go_simp; (try with_reducible rfl))
                  try simp only [Act.put, List.setIfInBounds_toArray, List.set_cons_zero, List.set_cons_succ]
                  refine wpAny_take (i := 13) (oi := ⟨some 43, _, _, _, _, _⟩) (v := ?vvoo40) rfl (by kernel_rfl) (by kernel_rfl) (by kernel_rfl) (fun _ _ _ h => h) (Or.inl ⟨by rfl, ?yyoo40⟩) ?rroo40
                  case yyoo40 => (intro w; go_simp; (try with_reducible rfl))
                  try simp only [Act.put, List.setIfInBounds_toArray, List.set_cons_zero, List.set_cons_succ]
                  refine wpAny_ready (rs := [14]) (by kernel_rfl) (by simp) ?_
                  refine AllReady.cons (o := ⟨none, _, _, _, _, _⟩) rfl (fun K hK => ?stoo41_0) AllReady.nil
                  case stoo41_0 =>
                    go_simp
                    refine hK _ _ ?_
                    clear hK K
                    try simp only [Act.put, List.setIfInBounds_toArray, List.set_cons_zero, List.set_cons_succ]
                    refine wpAny_done (by kernel_rfl) ?_ _
                    (first | go_wp2_with fail | skip)
                    generalize hw : World.setCell (World.setCell t9 _ _) _ _ = E
                    have HM9 := Lib.hid (HM.out.put hbw HG5.out HD5.out hw HK5.out.1 (HK5.out.2.trans HM.out.tl))
                    go_roundw
                    case rel => exact ⟨k, _, _, _, by go_num, by omega, HM9⟩
                    case measure => simp [intOf] <;> omega
      have n1 : (c == 1) = false := by simpa using e1
      by_cases e2 : c = 2
      · subst e2
        go_upto_region 11 with fail
        replace HM := Lib.hid HM.out.drew
        obtain ⟨x0, x1, x2, x3⟩ := HM.out.box.two
        refine wp_region_any (by kernel_rfl) ?_
        refine wpAny_take (i := 1) (oi := ⟨some 48, _, _, _, _, _⟩) (v := ?vvd1) rfl (by kernel_rfl) (by kernel_rfl) (by kernel_rfl) (fun _ _ _ h => h) (Or.inl ⟨by rfl, ?yyd1⟩) ?rrd1
        case yyd1 => (intro w; go_simp; (try with_reducible rfl))
        try simp only [Act.put, List.setIfInBounds_toArray, List.set_cons_zero, List.set_cons_succ]
        refine wpAny_take (i := 2) (oi := ⟨some 49, _, _, _, _, _⟩) (v := ?vvd2) rfl (by kernel_rfl) (by kernel_rfl) (by kernel_rfl) (fun _ _ _ h => h) (Or.inl ⟨by rfl, ?yyd2⟩) ?rrd2
        case yyd2 => (intro w; go_simp; (try with_reducible rfl))
        try simp only [Act.put, List.setIfInBounds_toArray, List.set_cons_zero, List.set_cons_succ]
        refine wpAny_ready (rs := [0, 3]) (by kernel_rfl) (by simp) ?_
        refine AllReady.cons (o := ⟨some 47, _, _, _, _, _⟩) rfl (fun K hK => ?std3_0) (AllReady.cons (o := ⟨some 50, _, _, _, _, _⟩) rfl (fun K hK => ?std3_1) AllReady.nil)
        case std3_0 =>
          go_simp
          refine hK _ _ ?_
          clear hK K
          try simp only [Act.put, List.setIfInBounds_toArray, List.set_cons_zero, List.set_cons_succ]
          refine wpAny_ready (rs := [3]) (by kernel_rfl) (by simp) ?_
          refine AllReady.cons (o := ⟨some 50, _, _, _, _, _⟩) rfl (fun K hK => ?std4_0) AllReady.nil
          case std4_0 =>
            go_simp
            with_reducible refine (next_x _ _ _ _ (by omega) (by omega) HM.out.tp).mono ?_
            rintro e tq1 ⟨q1, q10, q11, rfl, T5, g5⟩
            replace HM := Lib.hid (HM.out.next T5 g5)
            clear T5 g5 x0 x1 x2 x3
            obtain ⟨x0, x1, x2, x3⟩ := HM.out.box.two
            dsimp only
            refine hK _ _ ?_
            clear hK K
            try simp only [Act.put, List.setIfInBounds_toArray, List.set_cons_zero, List.set_cons_succ]
            refine wpAny_ready (rs := [4]) (by kernel_rfl) (by simp) ?_
            refine AllReady.cons (o := ⟨some 51, _, _, _, _, _⟩) rfl (fun K hK => ?std5_0) AllReady.nil
            case std5_0 =>
              go_simp
              have hol := HM.out.ol
              have htl := HM.out.tl8
              with_reducible refine (dup_q (p := p) (q := q1) HM.out.dd hol htl rfl).mono ?_
              rintro e t9 ⟨a5, v5, rfl, D5, g5⟩
              obtain ⟨a6, c6, rfl, -, -⟩ := D5.rd.o.slice
              obtain ⟨v6, e6, rfl, -, -⟩ := D5.rd.t.slice
              have HD5 := Lib.hid D5
              have HG5 := Lib.hid g5
              have HK5 := Lib.hid (dupD_ok HM.out.ok p q1)
              have hy := (HM.out.box.grew g5).two
              obtain ⟨y0, y1, y2, y3⟩ := hy
              clear D5 g5 x0 x1 x2 x3 hol htl
              dsimp only
              refine hK _ _ ?_
              clear hK K
              try simp only [Act.put, List.setIfInBounds_toArray, List.set_cons_zero, List.set_cons_succ]
              refine wpAny_take (i := 5) (oi := ⟨some 46, _, _, _, _, _⟩) (v := ?vvd6) rfl (by kernel_rfl) (by kernel_rfl) (by kernel_rfl) (fun _ _ _ h => h) (Or.inl ⟨by rfl, ?yyd6⟩) ?rrd6
              case yyd6 => (intro w; go_simp; (try with_reducible rfl))
              try simp only [Act.put, List.setIfInBounds_toArray, List.set_cons_zero, List.set_cons_succ]
              refine wpAny_take (i := 6) (oi := ⟨some 52, _, _, _, _, _⟩) (v := ?vvd7) rfl (by kernel_rfl) (by kernel_rfl) (by kernel_rfl) (fun _ _ _ h => h) (Or.inl ⟨by rfl, ?yyd7⟩) ?rrd7
              case yyd7 => (intro w; go_simp; (try with_reducible rfl))
              try simp only [Act.put, List.setIfInBounds_toArray, List.set_cons_zero, List.set_cons_succ]
              refine wpAny_take (i := 7) (oi := ⟨some 53, _, _, _, _, _⟩) (v := ?vvd8) rfl (by kernel_rfl) (by kernel_rfl) (by kernel_rfl) (fun _ _ _ h => h) (Or.inl ⟨by rfl, ?yyd8⟩) ?rrd8
              case yyd8 => (intro w; go_simp; (try with_reducible rfl))
              try simp only [Act.put, List.setIfInBounds_toArray, List.set_cons_zero, List.set_cons_succ]
              refine wpAny_take (i := 8) (oi := ⟨some 54, _, _, _, _, _⟩) (v := ?vvd9) rfl (by kernel_rfl) (by kernel_rfl) (by kernel_rfl) (fun _ _ _ h => h) (Or.inl ⟨by rfl, ?yyd9⟩) ?rrd9
              case yyd9 => (intro w; go_simp; (try with_reducible rfl))
              try simp only [Act.put, List.setIfInBounds_toArray, List.set_cons_zero, List.set_cons_succ]
              refine wpAny_ready (rs := [9]) (by kernel_rfl) (by simp) ?_
              refine AllReady.cons (o := ⟨none, _, _, _, _, _⟩) rfl (fun K hK => ?std10_0) AllReady.nil
              case std10_0 =>
                go_simp
                refine hK _ _ ?_
                clear hK K
                try simp only [Act.put, List.setIfInBounds_toArray, List.set_cons_zero, List.set_cons_succ]
                refine wpAny_done (by kernel_rfl) ?_ _
                (first | go_wp2_with fail | skip)
                generalize hw : World.setCell (World.setCell t9 _ _) _ _ = E
                have HM9 := Lib.hid (HM.out.put hbw HG5.out HD5.out hw HK5.out.1 (HK5.out.2.trans HM.out.tl))
                go_roundw
                case rel => exact ⟨k, _, _, _, by go_num, by omega, HM9⟩
                case measure => simp [intOf] <;> omega
        case std3_1 =>
          go_simp
          with_reducible refine (next_x _ _ _ _ (by omega) (by omega) HM.out.tp).mono ?_
          rintro e tq1 ⟨q1, q10, q11, rfl, T5, g5⟩
          replace HM := Lib.hid (HM.out.next T5 g5)
          clear T5 g5 x0 x1 x2 x3
          obtain ⟨x0, x1, x2, x3⟩ := HM.out.box.two
          dsimp only
          refine hK _ _ ?_
          clear hK K
          try simp only [Act.put, List.setIfInBounds_toArray, List.set_cons_zero, List.set_cons_succ]
          refine wpAny_ready (rs := [0]) (by kernel_rfl) (by simp) ?_
          refine AllReady.cons (o := ⟨some 47, _, _, _, _, _⟩) rfl (fun K hK => ?std11_0) AllReady.nil
          case std11_0 =>
            go_simp
            refine hK _ _ ?_
            clear hK K
            try simp only [Act.put, List.setIfInBounds_toArray, List.set_cons_zero, List.set_cons_succ]
            refine wpAny_ready (rs := [4]) (by kernel_rfl) (by simp) ?_
            refine AllReady.cons (o := ⟨some 51, _, _, _, _, _⟩) rfl (fun K hK => ?std12_0) AllReady.nil
            case std12_0 =>
              go_simp
              have hol := HM.out.ol
              have htl := HM.out.tl8
              with_reducible refine (dup_q (p := p) (q := q1) HM.out.dd hol htl rfl).mono ?_
              rintro e t9 ⟨a5, v5, rfl, D5, g5⟩
              obtain ⟨a6, c6, rfl, -, -⟩ := D5.rd.o.slice
              obtain ⟨v6, e6, rfl, -, -⟩ := D5.rd.t.slice
              have HD5 := Lib.hid D5
              have HG5 := Lib.hid g5
              have HK5 := Lib.hid (dupD_ok HM.out.ok p q1)
              have hy := (HM.out.box.grew g5).two
              obtain ⟨y0, y1, y2, y3⟩ := hy
              clear D5 g5 x0 x1 x2 x3 hol htl
              dsimp only
              refine hK _ _ ?_
              clear hK K
              try simp only [Act.put, List.setIfInBounds_toArray, List.set_cons_zero, List.set_cons_succ]
              refine wpAny_take (i := 5) (oi := ⟨some 46, _, _, _, _, _⟩) (v := ?vvd13) rfl (by kernel_rfl) (by kernel_rfl) (by kernel_rfl) (fun _ _ _ h => h) (Or.inl ⟨by rfl, ?yyd13⟩) ?rrd13
              case yyd13 => (intro w; go_simp; (try with_reducible rfl))
              try simp only [Act.put, List.setIfInBounds_toArray, List.set_cons_zero, List.set_cons_succ]
              refine wpAny_take (i := 6) (oi := ⟨some 52, _, _, _, _, _⟩) (v := ?vvd14) rfl (by kernel_rfl) (by kernel_rfl) (by kernel_rfl) (fun _ _ _ h => h) (Or.inl ⟨by rfl, ?yyd14⟩) ?rrd14
              case yyd14 => (intro w; go_simp; (try with_reducible rfl))
              try simp only [Act.put, List.setIfInBounds_toArray, List.set_cons_zero, List.set_cons_succ]
              refine wpAny_take (i := 7) (oi := ⟨some 53, _, _, _, _, _⟩) (v := ?vvd15) rfl (by kernel_rfl) (by kernel_rfl) (by kernel_rfl) (fun _ _ _ h => h) (Or.inl ⟨by rfl, ?yyd15⟩) ?rrd15
              case yyd15 => (intro w; go_simp; (try with_reducible rfl))
              try simp only [Act.put, List.setIfInBounds_toArray, List.set_cons_zero, List.set_cons_succ]
              refine wpAny_take (i := 8) (oi := ⟨some 54, _, _, _, _, _⟩) (v := ?vvd16) rfl (by kernel_rfl) (by kernel_rfl) (by kernel_rfl) (fun _ _ _ h => h) (Or.inl ⟨by rfl, ?yyd16⟩) ?rrd16
              case yyd16 => (intro w; go_simp; (try with_reducible rfl))
              try simp only [Act.put, List.setIfInBounds_toArray, List.set_cons_zero, List.set_cons_succ]
              refine wpAny_ready (rs := [9]) (by kernel_rfl) (by simp) ?_
              refine AllReady.cons (o := ⟨none, _, _, _, _, _⟩) rfl (fun K hK => ?std17_0) AllReady.nil
              case std17_0 =>
                go_simp
                refine hK _ _ ?_
                clear hK K
                try simp only [Act.put, List.setIfInBounds_toArray, List.set_cons_zero, List.set_cons_succ]
                refine wpAny_done (by kernel_rfl) ?_ _
                (first | go_wp2_with fail | skip)
                generalize hw : World.setCell (World.setCell t9 _ _) _ _ = E
                have HM9 := Lib.hid (HM.out.put hbw HG5.out HD5.out hw HK5.out.1 (HK5.out.2.trans HM.out.tl))
                go_roundw
                case rel => exact ⟨k, _, _, _, by go_num, by omega, HM9⟩
                case measure => simp [intOf] <;> omega
      have n2 : (c == 2) = false := by simpa using e2
      by_cases e3 : c = 3
      · subst e3
        go_upto_region 13 with fail
        replace HM := Lib.hid HM.out.drew
        obtain ⟨x0, x1, x2, x3⟩ := HM.out.box.two
        refine wp_region_any (by kernel_rfl) ?_
        refine wpAny_take (i := 1) (oi := ⟨some 59, _, _, _, _, _⟩) (v := ?vvc1) rfl (by kernel_rfl) (by kernel_rfl) (by kernel_rfl) (fun _ _ _ h => h) (Or.inl ⟨by rfl, ?yyc1⟩) ?rrc1
        case yyc1 => (intro w; go_simp; (try with_reducible rfl))
        try simp only [Act.put, List.setIfInBounds_toArray, List.set_cons_zero, List.set_cons_succ]
        refine wpAny_take (i := 2) (oi := ⟨some 60, _, _, _, _, _⟩) (v := ?vvc2) rfl (by kernel_rfl) (by kernel_rfl) (by kernel_rfl) (fun _ _ _ h => h) (Or.inl ⟨by rfl, ?yyc2⟩) ?rrc2
        case yyc2 => (intro w; go_simp; (try with_reducible rfl))
        try simp only [Act.put, List.setIfInBounds_toArray, List.set_cons_zero, List.set_cons_succ]
        refine wpAny_ready (rs := [0, 3]) (by kernel_rfl) (by simp) ?_
        refine AllReady.cons (o := ⟨some 58, _, _, _, _, _⟩) rfl (fun K hK => ?stc3_0) (AllReady.cons (o := ⟨some 61, _, _, _, _, _⟩) rfl (fun K hK => ?stc3_1) AllReady.nil)
        case stc3_0 =>
          go_simp
          refine hK _ _ ?_
          clear hK K
          try simp only [Act.put, List.setIfInBounds_toArray, List.set_cons_zero, List.set_cons_succ]
          refine wpAny_ready (rs := [3]) (by kernel_rfl) (by simp) ?_
          refine AllReady.cons (o := ⟨some 61, _, _, _, _, _⟩) rfl (fun K hK => ?stc4_0) AllReady.nil
          case stc4_0 =>
            go_simp
            with_reducible refine (next_x _ _ _ _ (by omega) (by omega) HM.out.tp).mono ?_
            rintro e tq1 ⟨q1, q10, q11, rfl, T5, g5⟩
            replace HM := Lib.hid (HM.out.next T5 g5)
            clear T5 g5 x0 x1 x2 x3
            obtain ⟨x0, x1, x2, x3⟩ := HM.out.box.two
            dsimp only
            refine hK _ _ ?_
            clear hK K
            try simp only [Act.put, List.setIfInBounds_toArray, List.set_cons_zero, List.set_cons_succ]
            refine wpAny_ready (rs := [4]) (by kernel_rfl) (by simp) ?_
            refine AllReady.cons (o := ⟨some 62, _, _, _, _, _⟩) rfl (fun K hK => ?stc5_0) AllReady.nil
            case stc5_0 =>
              go_simp
              have hol := HM.out.ol
              have htl := HM.out.tl8
              with_reducible refine (close_q (p := p) (q := q1) HM.out.dd hol htl rfl).mono ?_
              rintro e t9 ⟨a5, v5, rfl, D5, g5⟩
              obtain ⟨a6, c6, rfl, -, -⟩ := D5.rd.o.slice
              obtain ⟨v6, e6, rfl, -, -⟩ := D5.rd.t.slice
              have HD5 := Lib.hid D5
              have HG5 := Lib.hid g5
              have HK5 := Lib.hid (clsD_ok HM.out.ok p q1)
              have hy := (HM.out.box.grew g5).two
              obtain ⟨y0, y1, y2, y3⟩ := hy
              clear D5 g5 x0 x1 x2 x3 hol htl
              dsimp only
              refine hK _ _ ?_
              clear hK K
              try simp only [Act.put, List.setIfInBounds_toArray, List.set_cons_zero, List.set_cons_succ]
              refine wpAny_take (i := 5) (oi := ⟨some 57, _, _, _, _, _⟩) (v := ?vvc6) rfl (by kernel_rfl) (by kernel_rfl) (by kernel_rfl) (fun _ _ _ h => h) (Or.inl ⟨by rfl, ?yyc6⟩) ?rrc6
              case yyc6 => (intro w; go_simp; (try with_reducible rfl))
              try simp only [Act.put, List.setIfInBounds_toArray, List.set_cons_zero, List.set_cons_succ]
              refine wpAny_take (i := 6) (oi := ⟨some 63, _, _, _, _, _⟩) (v := ?vvc7) rfl (by kernel_rfl) (by kernel_rfl) (by kernel_rfl) (fun _ _ _ h => h) (Or.inl ⟨by rfl, ?yyc7⟩) ?rrc7
              case yyc7 => (intro w; go_simp; (try with_reducible rfl))
              try simp only [Act.put, List.setIfInBounds_toArray, List.set_cons_zero, List.set_cons_succ]
              refine wpAny_take (i := 7) (oi := ⟨some 64, _, _, _, _, _⟩) (v := ?vvc8) rfl (by kernel_rfl) (by kernel_rfl) (by kernel_rfl) (fun _ _ _ h => h) (Or.inl ⟨by rfl, ?yyc8⟩) ?rrc8
              case yyc8 => (intro w; go_simp; (try with_reducible rfl))
              try simp only [Act.put, List.setIfInBounds_toArray, List.set_cons_zero, List.set_cons_succ]
              refine wpAny_take (i := 8) (oi := ⟨some 65, _, _, _, _, _⟩) (v := ?vvc9) rfl (by kernel_rfl) (by kernel_rfl) (by kernel_rfl) (fun _ _ _ h => h) (Or.inl ⟨by rfl, ?yyc9⟩) ?rrc9
              case yyc9 => (intro w; go_simp; (try with_reducible rfl))
              try simp only [Act.put, List.setIfInBounds_toArray, List.set_cons_zero, List.set_cons_succ]
              refine wpAny_ready (rs := [9]) (by kernel_rfl) (by simp) ?_
              refine AllReady.cons (o := ⟨none, _, _, _, _, _⟩) rfl (fun K hK => ?stc10_0) AllReady.nil
              case stc10_0 =>
                go_simp
                refine hK _ _ ?_
                clear hK K
                try simp only [Act.put, List.setIfInBounds_toArray, List.set_cons_zero, List.set_cons_succ]
                refine wpAny_done (by kernel_rfl) ?_ _
                (first | go_wp2_with fail | skip)
                generalize hw : World.setCell (World.setCell t9 _ _) _ _ = E
                have HM9 := Lib.hid (HM.out.put hbw HG5.out HD5.out hw HK5.out.1 (HK5.out.2.trans HM.out.tl))
                go_roundw
                case rel => exact ⟨k, _, _, _, by go_num, by omega, HM9⟩
                case measure => simp [intOf] <;> omega
        case stc3_1 =>
          go_simp
          with_reducible refine (next_x _ _ _ _ (by omega) (by omega) HM.out.tp).mono ?_
          rintro e tq1 ⟨q1, q10, q11, rfl, T5, g5⟩
          replace HM := Lib.hid (HM.out.next T5 g5)
          clear T5 g5 x0 x1 x2 x3
          obtain ⟨x0, x1, x2, x3⟩ := HM.out.box.two
          dsimp only
          refine hK _ _ ?_
          clear hK K
          try simp only [Act.put, List.setIfInBounds_toArray, List.set_cons_zero, List.set_cons_succ]
          refine wpAny_ready (rs := [0]) (by kernel_rfl) (by simp) ?_
          refine AllReady.cons (o := ⟨some 58, _, _, _, _, _⟩) rfl (fun K hK => ?stc11_0) AllReady.nil
          case stc11_0 =>
            go_simp
            refine hK _ _ ?_
            clear hK K
            try simp only [Act.put, List.setIfInBounds_toArray, List.set_cons_zero, List.set_cons_succ]
            refine wpAny_ready (rs := [4]) (by kernel_rfl) (by simp) ?_
            refine AllReady.cons (o := ⟨some 62, _, _, _, _, _⟩) rfl (fun K hK => ?stc12_0) AllReady.nil
            case stc12_0 =>
              go_simp
              have hol := HM.out.ol
              have htl := HM.out.tl8
              with_reducible refine (close_q (p := p) (q := q1) HM.out.dd hol htl rfl).mono ?_
              rintro e t9 ⟨a5, v5, rfl, D5, g5⟩
              obtain ⟨a6, c6, rfl, -, -⟩ := D5.rd.o.slice
              obtain ⟨v6, e6, rfl, -, -⟩ := D5.rd.t.slice
              have HD5 := Lib.hid D5
              have HG5 := Lib.hid g5
              have HK5 := Lib.hid (clsD_ok HM.out.ok p q1)
              have hy := (HM.out.box.grew g5).two
              obtain ⟨y0, y1, y2, y3⟩ := hy
              clear D5 g5 x0 x1 x2 x3 hol htl
              dsimp only
              refine hK _ _ ?_
              clear hK K
              try simp only [Act.put, List.setIfInBounds_toArray, List.set_cons_zero, List.set_cons_succ]
              refine wpAny_take (i := 5) (oi := ⟨some 57, _, _, _, _, _⟩) (v := ?vvc13) rfl (by kernel_rfl) (by kernel_rfl) (by kernel_rfl) (fun _ _ _ h => h) (Or.inl ⟨by rfl, ?yyc13⟩) ?rrc13
              case yyc13 => (intro w; go_simp; (try with_reducible rfl))
              try simp only [Act.put, List.setIfInBounds_toArray, List.set_cons_zero, List.set_cons_succ]
              refine wpAny_take (i := 6) (oi := ⟨some 63, _, _, _, _, _⟩) (v := ?vvc14) rfl (by kernel_rfl) (by kernel_rfl) (by kernel_rfl) (fun _ _ _ h => h) (Or.inl ⟨by rfl, ?yyc14⟩) ?rrc14
              case yyc14 => (intro w; go_simp; (try with_reducible rfl))
              try simp only [Act.put, List.setIfInBounds_toArray, List.set_cons_zero, List.set_cons_succ]
              refine wpAny_take (i := 7) (oi := ⟨some 64, _, _, _, _, _⟩) (v := ?vvc15) rfl (by kernel_rfl) (by kernel_rfl) (by kernel_rfl) (fun _ _ _ h => h) (Or.inl ⟨by rfl, ?yyc15⟩) ?rrc15
              case yyc15 => (intro w; go_simp; (try with_reducible rfl))
              try simp only [Act.put, List.setIfInBounds_toArray, List.set_cons_zero, List.set_cons_succ]
              refine wpAny_take (i := 8) (oi := ⟨some 65, _, _, _, _, _⟩) (v := ?vvc16) rfl (by kernel_rfl) (by kernel_rfl) (by kernel_rfl) (fun _ _ _ h => h) (Or.inl ⟨by rfl, ?yyc16⟩) ?rrc16
              case yyc16 => (intro w; go_simp; (try with_reducible rfl))
              try simp only [Act.put, List.setIfInBounds_toArray, List.set_cons_zero, List.set_cons_succ]
              refine wpAny_ready (rs := [9]) (by kernel_rfl) (by simp) ?_
              refine AllReady.cons (o := ⟨none, _, _, _, _, _⟩) rfl (fun K hK => ?stc17_0) AllReady.nil
              case stc17_0 =>
                go_simp
                refine hK _ _ ?_
                clear hK K
                try simp only [Act.put, List.setIfInBounds_toArray, List.set_cons_zero, List.set_cons_succ]
                refine wpAny_done (by kernel_rfl) ?_ _
                (first | go_wp2_with fail | skip)
                generalize hw : World.setCell (World.setCell t9 _ _) _ _ = E
                have HM9 := Lib.hid (HM.out.put hbw HG5.out HD5.out hw HK5.out.1 (HK5.out.2.trans HM.out.tl))
                go_roundw
                case rel => exact ⟨k, _, _, _, by go_num, by omega, HM9⟩
                case measure => simp [intOf] <;> omega
      have n3 : (c == 3) = false := by simpa using e3
      have e4 : c = 4 := by omega
      · subst e4
        go_upto_region 15 with fail
        replace HM := Lib.hid HM.out.drew
        obtain ⟨x0, x1, x2, x3⟩ := HM.out.box.two
        refine wp_region_any (by kernel_rfl) ?_
        refine wpAny_take (i := 1) (oi := ⟨some 70, _, _, _, _, _⟩) (v := ?vvf1) rfl (by kernel_rfl) (by kernel_rfl) (by kernel_rfl) (fun _ _ _ h => h) (Or.inl ⟨by rfl, ?yyf1⟩) ?rrf1
        case yyf1 => (intro w; go_simp; (try with_reducible rfl))
        try simp only [Act.put, List.setIfInBounds_toArray, List.set_cons_zero, List.set_cons_succ]
        refine wpAny_take (i := 2) (oi := ⟨some 71, _, _, _, _, _⟩) (v := ?vvf2) rfl (by kernel_rfl) (by kernel_rfl) (by kernel_rfl) (fun _ _ _ h => h) (Or.inl ⟨by rfl, ?yyf2⟩) ?rrf2
        case yyf2 => (intro w; go_simp; (try with_reducible rfl))
        try simp only [Act.put, List.setIfInBounds_toArray, List.set_cons_zero, List.set_cons_succ]
        refine wpAny_take (i := 3) (oi := ⟨some 72, _, _, _, _, _⟩) (v := ?vvf3) rfl (by kernel_rfl) (by kernel_rfl) (by kernel_rfl) (fun _ _ _ h => h) (Or.inl ⟨by rfl, ?yyf3⟩) ?rrf3
        case yyf3 => (intro w; go_simp; (try with_reducible rfl))
        try simp only [Act.put, List.setIfInBounds_toArray, List.set_cons_zero, List.set_cons_succ]
        refine wpAny_ready (rs := [0, 4]) (by kernel_rfl) (by simp) ?_
        refine AllReady.cons (o := ⟨some 69, _, _, _, _, _⟩) rfl (fun K hK => ?stf4_0) (AllReady.cons (o := ⟨some 73, _, _, _, _, _⟩) rfl (fun K hK => ?stf4_1) AllReady.nil)
        case stf4_0 =>
          go_simp
          refine hK _ _ ?_
          clear hK K
          try simp only [Act.put, List.setIfInBounds_toArray, List.set_cons_zero, List.set_cons_succ]
          refine wpAny_ready (rs := [4]) (by kernel_rfl) (by simp) ?_
          refine AllReady.cons (o := ⟨some 73, _, _, _, _, _⟩) rfl (fun K hK => ?stf5_0) AllReady.nil
          case stf5_0 =>
            go_simp
            refine hK _ _ ?_
            clear hK K
            try simp only [Act.put, List.setIfInBounds_toArray, List.set_cons_zero, List.set_cons_succ]
            refine wpAny_take (i := 5) (oi := ⟨some 74, _, _, _, _, _⟩) (v := ?vvf6) rfl (by kernel_rfl) (by kernel_rfl) (by kernel_rfl) (fun _ _ _ h => h) (Or.inl ⟨by rfl, ?yyf6⟩) ?rrf6
            case yyf6 => (intro w; go_simp; (try with_reducible rfl))
            try simp only [Act.put, List.setIfInBounds_toArray, List.set_cons_zero, List.set_cons_succ]
            refine wpAny_ready (rs := [6]) (by kernel_rfl) (by simp) ?_
            refine AllReady.cons (o := ⟨some 75, _, _, _, _, _⟩) rfl (fun K hK => ?stf7_0) AllReady.nil
            case stf7_0 =>
              go_simp
              with_reducible refine (next_x _ _ _ _ hN0 hNm HM.out.tp).mono ?_
              rintro e tq1 ⟨q1, q10, q11, rfl, T5, g5⟩
              replace HM := Lib.hid (HM.out.next T5 g5)
              clear T5 g5 x0 x1 x2 x3
              obtain ⟨x0, x1, x2, x3⟩ := HM.out.box.two
              dsimp only
              refine hK _ _ ?_
              clear hK K
              try simp only [Act.put, List.setIfInBounds_toArray, List.set_cons_zero, List.set_cons_succ]
              refine wpAny_ready (rs := [7]) (by kernel_rfl) (by simp) ?_
              refine AllReady.cons (o := ⟨some 76, _, _, _, _, _⟩) rfl (fun K hK => ?stf8_0) AllReady.nil
              case stf8_0 =>
                go_simp
                have hol := HM.out.ol
                have htl := HM.out.tl8
                with_reducible refine (fork_q (p := p) (q := q1) HM.out.dd hol htl rfl).mono ?_
                rintro e t9 ⟨a5, v5, rfl, D5, g5⟩
                obtain ⟨a6, c6, rfl, -, -⟩ := D5.rd.o.slice
                obtain ⟨v6, e6, rfl, -, -⟩ := D5.rd.t.slice
                have HD5 := Lib.hid D5
                have HG5 := Lib.hid g5
                have HK5 := Lib.hid (frkD_keeps HM.out.ok p q1)
                have hy := (HM.out.box.grew g5).two
                obtain ⟨y0, y1, y2, y3⟩ := hy
                clear D5 g5 x0 x1 x2 x3 hol htl
                dsimp only
                refine hK _ _ ?_
                clear hK K
                try simp only [Act.put, List.setIfInBounds_toArray, List.set_cons_zero, List.set_cons_succ]
                refine wpAny_take (i := 8) (oi := ⟨some 68, _, _, _, _, _⟩) (v := ?vvf9) rfl (by kernel_rfl) (by kernel_rfl) (by kernel_rfl) (fun _ _ _ h => h) (Or.inl ⟨by rfl, ?yyf9⟩) ?rrf9
                case yyf9 => (intro w; go_simp; (try with_reducible rfl))
                try simp only [Act.put, List.setIfInBounds_toArray, List.set_cons_zero, List.set_cons_succ]
                refine wpAny_take (i := 9) (oi := ⟨some 77, _, _, _, _, _⟩) (v := ?vvf10) rfl (by kernel_rfl) (by kernel_rfl) (by kernel_rfl) (fun _ _ _ h => h) (Or.inl ⟨by rfl, ?yyf10⟩) ?rrf10
                case yyf10 => (intro w; go_simp; (try with_reducible rfl))
                try simp only [Act.put, List.setIfInBounds_toArray, List.set_cons_zero, List.set_cons_succ]
                refine wpAny_take (i := 10) (oi := ⟨some 78, _, _, _, _, _⟩) (v := ?vvf11) rfl (by kernel_rfl) (by kernel_rfl) (by kernel_rfl) (fun _ _ _ h => h) (Or.inl ⟨by rfl, ?yyf11⟩) ?rrf11
                case yyf11 => (intro w; go_simp; (try with_reducible rfl))
                try simp only [Act.put, List.setIfInBounds_toArray, List.set_cons_zero, List.set_cons_succ]
                refine wpAny_ready (rs := [11]) (by kernel_rfl) (by simp) ?_
                refine AllReady.cons (o := ⟨none, _, _, _, _, _⟩) rfl (fun K hK => ?stf12_0) AllReady.nil
                case stf12_0 =>
                  go_simp
                  refine hK _ _ ?_
                  clear hK K
                  try simp only [Act.put, List.setIfInBounds_toArray, List.set_cons_zero, List.set_cons_succ]
                  refine wpAny_done (by kernel_rfl) ?_ _
                  (first | go_wp2_with fail | skip)
                  generalize hw : World.setCell (World.setCell t9 _ _) _ _ = E
                  have HM9 := Lib.hid (HM.out.put hbw HG5.out HD5.out hw HK5.out.1 (HK5.out.2.trans HM.out.tl))
                  go_roundw
                  case rel => exact ⟨k, _, _, _, by go_num, by omega, HM9⟩
                  case measure => simp [intOf] <;> omega
        case stf4_1 =>
          go_simp
          refine hK _ _ ?_
          clear hK K
          try simp only [Act.put, List.setIfInBounds_toArray, List.set_cons_zero, List.set_cons_succ]
          refine wpAny_take (i := 5) (oi := ⟨some 74, _, _, _, _, _⟩) (v := ?vvf13) rfl (by kernel_rfl) (by kernel_rfl) (by kernel_rfl) (fun _ _ _ h => h) (Or.inl ⟨by rfl, ?yyf13⟩) ?rrf13
          case yyf13 => (intro w; go_simp; (try with_reducible rfl))
          try simp only [Act.put, List.setIfInBounds_toArray, List.set_cons_zero, List.set_cons_succ]
          refine wpAny_ready (rs := [0, 6]) (by kernel_rfl) (by simp) ?_
          refine AllReady.cons (o := ⟨some 69, _, _, _, _, _⟩) rfl (fun K hK => ?stf14_0) (AllReady.cons (o := ⟨some 75, _, _, _, _, _⟩) rfl (fun K hK => ?stf14_1) AllReady.nil)
          case stf14_0 =>
            go_simp
            refine hK _ _ ?_
            clear hK K
            try simp only [Act.put, List.setIfInBounds_toArray, List.set_cons_zero, List.set_cons_succ]
            refine wpAny_ready (rs := [6]) (by kernel_rfl) (by simp) ?_
            refine AllReady.cons (o := ⟨some 75, _, _, _, _, _⟩) rfl (fun K hK => ?stf15_0) AllReady.nil
            case stf15_0 =>
              go_simp
              with_reducible refine (next_x _ _ _ _ hN0 hNm HM.out.tp).mono ?_
              rintro e tq1 ⟨q1, q10, q11, rfl, T5, g5⟩
              replace HM := Lib.hid (HM.out.next T5 g5)
              clear T5 g5 x0 x1 x2 x3
              obtain ⟨x0, x1, x2, x3⟩ := HM.out.box.two
              dsimp only
              refine hK _ _ ?_
              clear hK K
              try simp only [Act.put, List.setIfInBounds_toArray, List.set_cons_zero, List.set_cons_succ]
              refine wpAny_ready (rs := [7]) (by kernel_rfl) (by simp) ?_
              refine AllReady.cons (o := ⟨some 76, _, _, _, _, _⟩) rfl (fun K hK => ?stf16_0) AllReady.nil
              case stf16_0 =>
                go_simp
                have hol := HM.out.ol
                have htl := HM.out.tl8
                with_reducible refine (fork_q (p := p) (q := q1) HM.out.dd hol htl rfl).mono ?_
                rintro e t9 ⟨a5, v5, rfl, D5, g5⟩
                obtain ⟨a6, c6, rfl, -, -⟩ := D5.rd.o.slice
                obtain ⟨v6, e6, rfl, -, -⟩ := D5.rd.t.slice
                have HD5 := Lib.hid D5
                have HG5 := Lib.hid g5
                have HK5 := Lib.hid (frkD_keeps HM.out.ok p q1)
                have hy := (HM.out.box.grew g5).two
                obtain ⟨y0, y1, y2, y3⟩ := hy
                clear D5 g5 x0 x1 x2 x3 hol htl
                dsimp only
                refine hK _ _ ?_
                clear hK K
                try simp only [Act.put, List.setIfInBounds_toArray, List.set_cons_zero, List.set_cons_succ]
                refine wpAny_take (i := 8) (oi := ⟨some 68, _, _, _, _, _⟩) (v := ?vvf17) rfl (by kernel_rfl) (by kernel_rfl) (by kernel_rfl) (fun _ _ _ h => h) (Or.inl ⟨by rfl, ?yyf17⟩) ?rrf17
                case yyf17 => (intro w; go_simp; (try with_reducible rfl))
                try simp only [Act.put, List.setIfInBounds_toArray, List.set_cons_zero, List.set_cons_succ]
                refine wpAny_take (i := 9) (oi := ⟨some 77, _, _, _, _, _⟩) (v := ?vvf18) rfl (by kernel_rfl) (by kernel_rfl) (by kernel_rfl) (fun _ _ _ h => h) (Or.inl ⟨by rfl, ?yyf18⟩) ?rrf18
                case yyf18 => (intro w; go_simp; (try with_reducible rfl))
                try simp only [Act.put, List.setIfInBounds_toArray, List.set_cons_zero, List.set_cons_succ]
                refine wpAny_take (i := 10) (oi := ⟨some 78, _, _, _, _, _⟩) (v := ?vvf19) rfl (by kernel_rfl) (by kernel_rfl) (by kernel_rfl) (fun _ _ _ h => h) (Or.inl ⟨by rfl, ?yyf19⟩) ?rrf19
                case yyf19 => (intro w; go_simp; (try with_reducible rfl))
                try simp only [Act.put, List.setIfInBounds_toArray, List.set_cons_zero, List.set_cons_succ]
                refine wpAny_ready (rs := [11]) (by kernel_rfl) (by simp) ?_
                refine AllReady.cons (o := ⟨none, _, _, _, _, _⟩) rfl (fun K hK => ?stf20_0) AllReady.nil
                case stf20_0 =>
                  go_simp
                  refine hK _ _ ?_
                  clear hK K
                  try simp only [Act.put, List.setIfInBounds_toArray, List.set_cons_zero, List.set_cons_succ]
                  refine wpAny_done (by kernel_rfl) ?_ _
                  (first | go_wp2_with fail | skip)
                  generalize hw : World.setCell (World.setCell t9 _ _) _ _ = E
                  have HM9 := Lib.hid (HM.out.put hbw HG5.out HD5.out hw HK5.out.1 (HK5.out.2.trans HM.out.tl))
                  go_roundw
                  case rel => exact ⟨k, _, _, _, by go_num, by omega, HM9⟩
                  case measure => simp [intOf] <;> omega
          case stf14_1 =>
            go_simp
            with_reducible refine (next_x _ _ _ _ hN0 hNm HM.out.tp).mono ?_
            rintro e tq1 ⟨q1, q10, q11, rfl, T5, g5⟩
            replace HM := Lib.hid (HM.out.next T5 g5)
            clear T5 g5 x0 x1 x2 x3
            obtain ⟨x0, x1, x2, x3⟩ := HM.out.box.two
            dsimp only
            refine hK _ _ ?_
            clear hK K
            try simp only [Act.put, List.setIfInBounds_toArray, List.set_cons_zero, List.set_cons_succ]
            refine wpAny_ready (rs := [0]) (by kernel_rfl) (by simp) ?_
            refine AllReady.cons (o := ⟨some 69, _, _, _, _, _⟩) rfl (fun K hK => ?stf21_0) AllReady.nil
            case stf21_0 =>
              go_simp
              refine hK _ _ ?_
              clear hK K
              try simp only [Act.put, List.setIfInBounds_toArray, List.set_cons_zero, List.set_cons_succ]
              refine wpAny_ready (rs := [7]) (by kernel_rfl) (by simp) ?_
              refine AllReady.cons (o := ⟨some 76, _, _, _, _, _⟩) rfl (fun K hK => ?stf22_0) AllReady.nil
              case stf22_0 =>
                go_simp
                have hol := HM.out.ol
                have htl := HM.out.tl8
                with_reducible refine (fork_q (p := p) (q := q1) HM.out.dd hol htl rfl).mono ?_
                rintro e t9 ⟨a5, v5, rfl, D5, g5⟩
                obtain ⟨a6, c6, rfl, -, -⟩ := D5.rd.o.slice
                obtain ⟨v6, e6, rfl, -, -⟩ := D5.rd.t.slice
                have HD5 := Lib.hid D5
                have HG5 := Lib.hid g5
                have HK5 := Lib.hid (frkD_keeps HM.out.ok p q1)
                have hy := (HM.out.box.grew g5).two
                obtain ⟨y0, y1, y2, y3⟩ := hy
                clear D5 g5 x0 x1 x2 x3 hol htl
                dsimp only
                refine hK _ _ ?_
                clear hK K
                try simp only [Act.put, List.setIfInBounds_toArray, List.set_cons_zero, List.set_cons_succ]
                refine wpAny_take (i := 8) (oi := ⟨some 68, _, _, _, _, _⟩) (v := ?vvf23) rfl (by kernel_rfl) (by kernel_rfl) (by kernel_rfl) (fun _ _ _ h => h) (Or.inl ⟨by rfl, ?yyf23⟩) ?rrf23
                case yyf23 => (intro w; go_simp; (try with_reducible rfl))
                try simp only [Act.put, List.setIfInBounds_toArray, List.set_cons_zero, List.set_cons_succ]
                refine wpAny_take (i := 9) (oi := ⟨some 77, _, _, _, _, _⟩) (v := ?vvf24) rfl (by kernel_rfl) (by kernel_rfl) (by kernel_rfl) (fun _ _ _ h => h) (Or.inl ⟨by rfl, ?yyf24⟩) ?rrf24
                case yyf24 => (intro w; go_simp; (try with_reducible rfl))
                try simp only [Act.put, List.setIfInBounds_toArray, List.set_cons_zero, List.set_cons_succ]
                refine wpAny_take (i := 10) (oi := ⟨some 78, _, _, _, _, _⟩) (v := ?vvf25) rfl (by kernel_rfl) (by kernel_rfl) (by kernel_rfl) (fun _ _ _ h => h) (Or.inl ⟨by rfl, ?yyf25⟩) ?rrf25
                case yyf25 => (intro w; go_simp; (try with_reducible rfl))
                try simp only [Act.put, List.setIfInBounds_toArray, List.set_cons_zero, List.set_cons_succ]
                refine wpAny_ready (rs := [11]) (by kernel_rfl) (by simp) ?_
                refine AllReady.cons (o := ⟨none, _, _, _, _, _⟩) rfl (fun K hK => ?stf26_0) AllReady.nil
                case stf26_0 =>
                  go_simp
                  refine hK _ _ ?_
                  clear hK K
                  try simp only [Act.put, List.setIfInBounds_toArray, List.set_cons_zero, List.set_cons_succ]
                  refine wpAny_done (by kernel_rfl) ?_ _
                  (first | go_wp2_with fail | skip)
                  generalize hw : World.setCell (World.setCell t9 _ _) _ _ = E
                  have HM9 := Lib.hid (HM.out.put hbw HG5.out HD5.out hw HK5.out.1 (HK5.out.2.trans HM.out.tl))
                  go_roundw
                  case rel => exact ⟨k, _, _, _, by go_num, by omega, HM9⟩
                  case measure => simp [intOf] <;> omega
end Go.Proofs.Ytokijggckiidjaa
