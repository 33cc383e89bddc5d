/- Descriptors (layer 18): the package is awake. mkdm3.py writes this text out of dm3.base. -/
import Derived.Test.YtokijggckiidjaaDm2
import Derived.Test.YtokijggckiidjaaDpz
namespace Go.Mine
open Go Go.RowKit
def w1x : Ds := ⟨1, 1, 0, 0, 1⟩
def w2x : Ds := ⟨2, 2, 0, 3, 1⟩
def wD0 : Dd := newD 2
def wD1 : Dd := opD wD0 0 w1x
def wD2 : Dd := opD wD1 0 w2x
def wD3 : Dd := (clD wD2 0 0 0).1
def wD4 : Dd := duD wD3 0 1
def w3x : Ds := ⟨2, 2, 7, 3, 2⟩
def wD5 : Dd := upO wD4 1 w3x
def wD6 : Dd := fkD wD5 0 1
theorem wk0 : nwD 2 = (wD0, 0) := rfl
theorem wO0 : OkDd wD0 := newD_ok (by decide) (by decide)
theorem wO1 : OkDd wD1 := opD_ok wO0 (by decide) (by decide) (rtD_iff.1 (by decide)) rfl
theorem wO2 : OkDd wD2 := opD_ok wO1 (by decide +kernel) (by decide +kernel) (rtD_iff.1 (by decide)) rfl
theorem wO3 : OkDd wD3 := clD_ok wO2 (by decide +kernel) (by decide) (by decide +kernel) (by decide +kernel)
theorem wO4 : OkDd wD4 := duD_ok wO3 (q := 1) (by decide +kernel) (by decide +kernel) (by decide) (by decide +kernel) (by decide +kernel)
theorem wO5 : OkDd wD5 := upO_ok wO4 (by decide +kernel) (by decide +kernel) (by decide)
theorem wO6 : OkDd wD6 := fkD_ok wO5 (by decide +kernel) (by decide +kernel) (by
  have h : (List.range 16).all (fun i => decide ((wD5.t.getD 1 []).getD i 0 = 0)) = true := by decide +kernel
  intro i hi
  exact of_decide_eq_true (List.all_eq_true.1 h i (List.mem_range.2 hi)))
theorem wk1 : opnD wD0 0 ⟨1, 1, 0, 0, 1⟩ = (wD1, 0, 0) := (opnD_0 (p := 0) (x := w1x) (okD_iff.2 wO0) (by decide) (by decide) (by decide)).trans rfl
theorem wk2 : opnD wD1 0 ⟨2, 2, 0, 3, 1⟩ = (wD2, 1, 0) := (opnD_0 (p := 0) (x := w2x) (okD_iff.2 wO1) (by decide +kernel) (by decide) (by decide +kernel)).trans (by
  have h : frD (wD1.t.getD 0 []) = 1 := by decide +kernel
  rw [h]; rfl)
theorem wl2 : lkD wD2 0 0 = (0, ⟨1, 1, 0, 0, 1⟩, 0) := (lkD_0 (okD_iff.2 wO2) (by decide +kernel) (by decide) (by decide +kernel)).trans (by decide +kernel)
theorem wk3 : clsD wD2 0 0 = (wD3, true, 0) := (clsD_0 (p := 0) (q := 0) (k := 0) (by rw [show ((0 : Nat) : Int) = 0 from rfl, wl2]) (by rw [show ((0 : Nat) : Int) = 0 from rfl, wl2])).trans (by
  have h : (clD wD2 0 0 0).2 = true := by decide +kernel
  rw [h]; rfl)
theorem wl3 : lkD wD3 0 1 = (1, ⟨2, 2, 0, 3, 1⟩, 0) := (lkD_0 (okD_iff.2 wO3) (by decide +kernel) (by decide) (by decide +kernel)).trans (by decide +kernel)
theorem wk4 : dupD wD3 0 1 = (wD4, 0, 0) := (dupD_0 (p := 0) (q := 1) (k := 1) (by rw [show ((0 : Nat) : Int) = 0 from rfl, wl3]) (by rw [show ((0 : Nat) : Int) = 0 from rfl, wl3]; rfl) (by decide +kernel)).trans (by
  have h : frD (wD3.t.getD 0 []) = 0 := by decide +kernel
  rw [h]; rfl)
theorem wl4 : lkD wD4 0 0 = (1, ⟨2, 2, 0, 3, 2⟩, 0) := (lkD_0 (okD_iff.2 wO4) (by decide +kernel) (by decide) (by decide +kernel)).trans (by decide +kernel)
theorem wk5 : updD wD4 1 ⟨2, 2, 7, 3, 2⟩ = (wD5, 0) := updD_0 (n := 1) (okD_iff.2 wO4) (by decide +kernel) (by decide +kernel) (by decide)
theorem wl5 : lkD wD5 0 1 = (1, ⟨2, 2, 7, 3, 2⟩, 0) := (lkD_0 (okD_iff.2 wO5) (by decide +kernel) (by decide) (by decide +kernel)).trans (by decide +kernel)
theorem wk6 : frkD wD5 0 1 = (wD6, 0) := frkD_0 (a := 0) (b := 1) (okD_iff.2 wO5) (by decide +kernel) (by decide +kernel) (by decide) (by
  have h : (List.range 16).all (fun i => decide ((wD5.t.getD 1 []).getD i 0 = 0)) = true := by decide +kernel
  intro i hi
  exact of_decide_eq_true (List.all_eq_true.1 h i (List.mem_range.2 hi)))
theorem wk7 : okD wD6 = true := okD_iff.2 wO6
theorem wk8 : okD ⟨[], []⟩ = false := okD_no (fun h => absurd h.t1 (by decide))
/-- Not below lo, and none of S. -/
def pS (lo : Nat) (S : List Nat) (x : Nat) : Prop := lo ≤ x ∧ x ∉ S
section
variable {w w' wr w2 E : World} {T : TypeId} {lo g : Nat} {S : List Nat} {a v x y : Value} {d d' : Dd}
theorem DdP.next (D : DdP w2 (pW (pS lo S) wr) a v d) (hl : lo ≤ wr.heap.size) (hS : ∀ s ∈ S, s < wr.heap.size) : DdP w2 (pS lo S) a v d := D.mono fun z hz => by
  rcases hz with hz | hz
  · exact hz
  · exact ⟨by omega, fun hm => by have := hS z hm; omega⟩
theorem DdP.more (D : DdP w (pS lo S) a v d) (hg : w.heap.size ≤ g) : DdP w (pS lo (g :: S)) a v d := D.lt.mono fun z hz => ⟨hz.1.1, fun hm => by
  rcases List.mem_cons.1 hm with e | e
  · have := hz.2; omega
  · exact hz.1.2 e⟩
/-- Descriptors in the box g; S other boxes. -/
structure AkW (w : World) (T : TypeId) (lo g : Nat) (S : List Nat) (a v : Value) (d : Dd) (wr : World) : Prop where
  box : Own wr g T #[a, v]
  dd : DdP wr (pS lo (g :: S)) a v d
  gr : Grew w wr
  hS : ∀ s ∈ g :: S, s < wr.heap.size
  hl : lo ≤ wr.heap.size
  hg : w.heap.size ≤ g
  nd : (g :: S).Nodup
  hS2 : ∀ s ∈ g :: S, w.heap.size ≤ s
theorem AkW.grew (h : AkW w T lo g S a v d wr) (k : Grew wr w') : AkW w T lo g S a v d w' := ⟨h.box.grew k, h.dd.grew k, h.gr.trans k, fun s hs => Nat.lt_of_lt_of_le (h.hS s hs) k.size, Nat.le_trans h.hl k.size, h.hg, h.nd, h.hS2⟩
theorem AkW.put (h : AkW w T lo g S a v d wr) (g2 : Grew wr w2) (D : DdP w2 (pW (pS lo (g :: S)) wr) x y d') (hw : (w2.setCell ⟨g, 0, none⟩ x).setCell ⟨g, 1, none⟩ y = E) : AkW w T lo g S x y d' E := by
  have D2 := D.next h.hl h.hS
  have gg := grown2D hw
  have hs := gg.size
  have hs2 := g2.size
  exact ⟨(h.box.grew g2).store2D hw, D2.past gg (fun e => e.2 (List.mem_cons_self ..)), (h.gr.trans g2).far2D hw h.hg, fun s hm => by have := h.hS s hm; omega, by have := h.hl; omega, h.hg, h.nd, h.hS2⟩
theorem AkW.add (h : AkW w T lo g S a v d wr) (o : Obj) : AkW w T lo g (wr.heap.size :: S) a v d (wr.alloc o) := by
  have k := (Grew.refl wr).alloc o
  have D := (h.dd.more (Nat.le_refl wr.heap.size)).mono (q := pS lo (g :: wr.heap.size :: S)) (fun z hz => ⟨hz.1, fun hm => hz.2 (by
    rcases List.mem_cons.1 hm with e | hm
    · exact List.mem_cons.2 (.inr (List.mem_cons.2 (.inl e)))
    · rcases List.mem_cons.1 hm with e | hm
      · exact List.mem_cons.2 (.inl e)
      · exact List.mem_cons.2 (.inr (List.mem_cons.2 (.inr hm))))⟩)
  refine ⟨h.box.grew k, D.grew k, h.gr.trans k, fun s hm => ?_, Nat.le_trans h.hl k.size, h.hg, ?_, fun s hm => ?_⟩
  rotate_left
  · have h1 := List.nodup_cons.1 h.nd
    refine List.nodup_cons.2 ⟨fun hm => ?_, List.nodup_cons.2 ⟨fun hm => ?_, h1.2⟩⟩
    · rcases List.mem_cons.1 hm with e | hm
      · have := h.hS g (List.mem_cons_self ..); omega
      · exact h1.1 hm
    · have := h.hS _ (List.mem_cons.2 (.inr hm)); omega
  · rcases List.mem_cons.1 hm with e | hm
    · rw [e]; exact h.hg
    · rcases List.mem_cons.1 hm with e | hm
      · rw [e]; exact h.gr.size
      · exact h.hS2 s (List.mem_cons.2 (.inr hm))
  rw [World.size_alloc]
  rcases List.mem_cons.1 hm with e | hm
  · have := h.hS g (List.mem_cons_self ..); omega
  · rcases List.mem_cons.1 hm with e | hm
    · omega
    · have := h.hS s (List.mem_cons.2 (.inr hm)); omega
theorem AkW.ne (h : AkW w T lo g S a v d wr) {s : Nat} (hs : s ∈ S) : g ≠ s := fun e => (List.nodup_cons.1 h.nd).1 (by rw [e]; exact hs)
theorem AkW.far (h : AkW w T lo g S a v d wr) {s : Nat} (hs : s ∈ S) (i : Nat) (u : Value) : AkW w T lo g S a v d (wr.setCell ⟨s, i, none⟩ u) := by
  have k := grown_set (p := ⟨s, i, none⟩) (grown_refl wr (some s)) (.inl rfl) u
  have hz := k.size
  exact ⟨h.box.far (p := ⟨s, i, none⟩) (h.ne hs) _, h.dd.past k (fun e => e.2 (List.mem_cons.2 (.inr hs))), h.gr.set (p := ⟨s, i, none⟩) (h.hS2 s (List.mem_cons.2 (.inr hs))) _, fun z hm => by have := h.hS z hm; omega, by have := h.hl; omega, h.hg, h.nd, h.hS2⟩
end
end Go.Mine
namespace Go.Proofs.Ytokijggckiidjaa
open Go.ChangeShapes Go.WideShapes Go.ChangeAt Go.RowKit Go.Mine
theorem smallR (d : Dd) (h : OkDd d) : Hid (∀ p, p < d.t.length → (d.t.getD p []).length ≤ 1000) := Lib.hid fun p hp => by rw [h.t p hp]; decide
theorem small (d : Dd) (h : OkDd d) : d.o.length ≤ 1000 ∧ d.t.length ≤ 1000 := ⟨by have := h.o; omega, by have := h.t8; omega⟩
set_option maxHeartbeats 8000000 in
theorem awake_x (w : World) : Calls Try.prog 27 #[] w (RetG (.bool true) w) := by
  have wk1' := wk1
  go_enter Try.func27, Try.ntmps27
  go_wp2_with fail
  with_reducible refine (new_p wk0).mono ?_
  rintro e w1 ⟨a, v, rfl, D, g1⟩
  obtain ⟨a1, c1, rfl, -, -⟩ := D.rd.o.slice
  obtain ⟨v1, e1, rfl, -, -⟩ := D.rd.t.slice
  have HA : Hid (AkW w 29 0 w1.heap.size [] (.slice a1 wD0.o.length c1) (.slice v1 wD0.t.length e1) wD0 (w1.alloc (.cells #[.slice a1 wD0.o.length c1, .slice v1 wD0.t.length e1] 29))) := Lib.hid
    ⟨Mine.Own.new w1 _ _, ((D.mono (q := pS 0 []) (fun z hz => ⟨Nat.zero_le _, by simp⟩)).more (Nat.le_refl _)).grew ((Grew.refl w1).alloc _), g1.alloc _, fun s hm => by rw [List.mem_singleton.1 hm]; simp, Nat.zero_le _, g1.size, by simp, fun s hm => by rw [List.mem_singleton.1 hm]; exact g1.size⟩
  generalize wD0.o.length = m at *
  generalize wD0.t.length = n at *
  clear D g1
  go_upto_region 2 with fail
  generalize World.alloc w1 _ = w2 at *
  generalize w1.heap.size = g at *
  obtain ⟨x0, x1, x2, x3⟩ := HA.out.box.two
  go_wp2_with fail
  with_reducible refine (open_p HA.out.dd (small _ wO0).1 (small _ wO0).2 (smallR _ wO0) wk1).mono ?_
  rintro e w3 ⟨a2, v2, rfl, D, g3⟩
  obtain ⟨y0, y1, y2, y3⟩ := (HA.out.box.grew g3).two
  obtain ⟨a1, c1, rfl, -, -⟩ := D.rd.o.slice
  obtain ⟨v1, e1, rfl, -, -⟩ := D.rd.t.slice
  dsimp only at D
  clear x0 x1 x2 x3
  go_upto_region 3 with fail
  generalize hw : World.setCell (World.setCell w3 _ _) _ _ = w4
  have HG3 := Lib.hid g3
  have HGW := Lib.hid (grown2D hw)
  have HAO := HA
  replace HA := Lib.hid (HA.out.put g3 D hw)
  clear D hw y0 y1 y2 y3 g3
  obtain ⟨x0, x1, x2, x3⟩ := HA.out.box.two
  go_wp2_with fail
  with_reducible refine (open_p HA.out.dd (small _ wO1).1 (small _ wO1).2 (smallR _ wO1) wk2).mono ?_
  rintro e w3 ⟨a2, v2, rfl, D, g3⟩
  obtain ⟨y0, y1, y2, y3⟩ := (HA.out.box.grew g3).two
  obtain ⟨a1, c1, rfl, -, -⟩ := D.rd.o.slice
  obtain ⟨v1, e1, rfl, -, -⟩ := D.rd.t.slice
  dsimp only at D
  clear x0 x1 x2 x3
  go_upto_region 4 with fail
  generalize hw : World.setCell (World.setCell w3 _ _) _ _ = w4
  have HG3 := Lib.hid g3
  have HGW := Lib.hid (grown2D hw)
  have HAO := HA
  replace HA := Lib.hid (HA.out.put g3 D hw)
  clear D hw y0 y1 y2 y3 g3
  obtain ⟨x0, x1, x2, x3⟩ := HA.out.box.two
  go_wp2_with fail
  with_reducible refine (close_p HA.out.dd (small _ wO2).1 (small _ wO2).2 (smallR _ wO2) wk3).mono ?_
  rintro e w3 ⟨a2, v2, rfl, D, g3⟩
  obtain ⟨y0, y1, y2, y3⟩ := (HA.out.box.grew g3).two
  obtain ⟨a1, c1, rfl, -, -⟩ := D.rd.o.slice
  obtain ⟨v1, e1, rfl, -, -⟩ := D.rd.t.slice
  dsimp only at D
  clear x0 x1 x2 x3
  go_upto_region 5 with fail
  generalize hw : World.setCell (World.setCell w3 _ _) _ _ = w4
  have HG3 := Lib.hid g3
  have HGW := Lib.hid (grown2D hw)
  have HAO := HA
  replace HA := Lib.hid (HA.out.put g3 D hw)
  clear D hw y0 y1 y2 y3 g3
  obtain ⟨x0, x1, x2, x3⟩ := HA.out.box.two
  go_wp2_with fail
  with_reducible refine (dup_p HA.out.dd (small _ wO3).1 (small _ wO3).2 (smallR _ wO3) wk4).mono ?_
  rintro e w3 ⟨a2, v2, rfl, D, g3⟩
  obtain ⟨y0, y1, y2, y3⟩ := (HA.out.box.grew g3).two
  obtain ⟨a1, c1, rfl, -, -⟩ := D.rd.o.slice
  obtain ⟨v1, e1, rfl, -, -⟩ := D.rd.t.slice
  dsimp only at D
  clear x0 x1 x2 x3
  go_upto_region 6 with fail
  generalize hw : World.setCell (World.setCell w3 _ _) _ _ = w4
  have HG3 := Lib.hid g3
  have HGW := Lib.hid (grown2D hw)
  have HAO := HA
  replace HA := Lib.hid (HA.out.put g3 D hw)
  clear D hw y0 y1 y2 y3 g3
  obtain ⟨x0, x1, x2, x3⟩ := HA.out.box.two
  go_wp2_with fail
  with_reducible refine (lookup_p HA.out.dd.rd (small _ wO4).1 (small _ wO4).2 wl4).mono ?_
  rintro e w3 ⟨rfl, g3⟩
  clear x0 x1 x2 x3
  replace HA := Lib.hid ((HA.out.grew g3).add (.cells #[.int .i64 2, .int .i64 2, .int .i64 0, .int .i64 3, .int .i64 2] 34))
  have HX := Lib.hid (Mine.Own.new w3 34 #[.int .i64 2, .int .i64 2, .int .i64 0, .int .i64 3, .int .i64 2])
  go_upto_region 7 with fail
  generalize World.alloc w3 _ = w4 at *
  generalize w3.heap.size = gHX at *
  clear g3
  have hgx := HA.out.ne (s := gHX) (by simp)
  obtain ⟨z0, z1, z2, z3, z4⟩ := HX.out.fiveD
  obtain ⟨f0, f1, f2, f3, f4⟩ := HX.out.five0D
  go_upto_region 8 with fail
  replace HA := Lib.hid (HA.out.far (s := gHX) (by simp) 2 (.int .i64 7))
  replace HX := Lib.hid (show Mine.Own _ gHX 34 #[.int .i64 2, .int .i64 2, .int .i64 7, .int .i64 3, .int .i64 2] from HX.out.set 2 (.int .i64 7))
  clear z0 z1 z2 z3 z4 f0 f1 f2 f3 f4
  generalize World.setCell w4 _ _ = w5 at *
  obtain ⟨z0, z1, z2, z3, z4⟩ := HX.out.fiveD
  obtain ⟨x0, x1, x2, x3⟩ := HA.out.box.two
  go_wp2_with fail
  with_reducible refine (update_p (y := ⟨2, 2, 7, 3, 2⟩) HA.out.dd (small _ wO4).1 (small _ wO4).2 (smallR _ wO4) wk5).mono ?_
  rintro e w3 ⟨a2, v2, rfl, D, g3⟩
  obtain ⟨y0, y1, y2, y3⟩ := (HA.out.box.grew g3).two
  obtain ⟨a1, c1, rfl, -, -⟩ := D.rd.o.slice
  obtain ⟨v1, e1, rfl, -, -⟩ := D.rd.t.slice
  dsimp only at D
  clear x0 x1 x2 x3
  go_upto_region 9 with fail
  generalize hw : World.setCell (World.setCell w3 _ _) _ _ = w4
  have HG3 := Lib.hid g3
  have HGW := Lib.hid (grown2D hw)
  have HAO := HA
  replace HA := Lib.hid (HA.out.put g3 D hw)
  clear D hw y0 y1 y2 y3 g3
  replace HX := Lib.hid ((HX.out.grew HG3.out).past HGW.out hgx.symm)
  clear z0 z1 z2 z3 z4 HG3 HGW HAO
  obtain ⟨x0, x1, x2, x3⟩ := HA.out.box.two
  go_wp2_with fail
  with_reducible refine (lookup_p HA.out.dd.rd (small _ wO5).1 (small _ wO5).2 wl5).mono ?_
  rintro e w3 ⟨rfl, g3⟩
  clear x0 x1 x2 x3
  replace HA := Lib.hid ((HA.out.grew g3).add (.cells #[.int .i64 2, .int .i64 2, .int .i64 7, .int .i64 3, .int .i64 2] 34))
  have HY := Lib.hid (Mine.Own.new w3 34 #[.int .i64 2, .int .i64 2, .int .i64 7, .int .i64 3, .int .i64 2])
  replace HX := Lib.hid ((HX.out.grew g3).alloc (.cells #[.int .i64 2, .int .i64 2, .int .i64 7, .int .i64 3, .int .i64 2] 34))
  go_upto_region 10 with fail
  generalize World.alloc w3 _ = w4 at *
  generalize w3.heap.size = gHY at *
  clear g3
  have hgy := HA.out.ne (s := gHY) (by simp)
  obtain ⟨x0, x1, x2, x3⟩ := HA.out.box.two
  go_wp2_with fail
  with_reducible refine (fork_p HA.out.dd (small _ wO5).1 (small _ wO5).2 (smallR _ wO5) wk6).mono ?_
  rintro e w3 ⟨a2, v2, rfl, D, g3⟩
  obtain ⟨y0, y1, y2, y3⟩ := (HA.out.box.grew g3).two
  obtain ⟨a1, c1, rfl, -, -⟩ := D.rd.o.slice
  obtain ⟨v1, e1, rfl, -, -⟩ := D.rd.t.slice
  dsimp only at D
  clear x0 x1 x2 x3
  go_upto_region 11 with fail
  generalize hw : World.setCell (World.setCell w3 _ _) _ _ = w4
  have HG3 := Lib.hid g3
  have HGW := Lib.hid (grown2D hw)
  have HAO := HA
  replace HA := Lib.hid (HA.out.put g3 D hw)
  clear D hw y0 y1 y2 y3 g3
  replace HX := Lib.hid ((HX.out.grew HG3.out).past HGW.out hgx.symm)
  replace HY := Lib.hid ((HY.out.grew HG3.out).past HGW.out hgy.symm)
  obtain ⟨x0, x1, x2, x3⟩ := HA.out.box.two
  obtain ⟨z0, z1, z2, z3, z4⟩ := HX.out.fiveD
  obtain ⟨y0, y1, y2, y3, y4⟩ := HY.out.fiveD
  clear HG3 HGW HAO
  go_wp2_with fail
  with_reducible refine (check_p HA.out.dd.rd (small _ wO6).1 (small _ wO6).2 wk7).mono ?_
  rintro e w6 ⟨rfl, g6⟩
  have HG6 := Lib.hid (HA.out.gr.trans g6)
  clear g6
  go_wp2_with fail
  with_reducible refine (check_p (DdR.nil w6 0) (by decide) (by decide) wk8).mono ?_
  rintro e w7 ⟨rfl, g7⟩
  go_wp2
  go_ret
  exact ⟨rfl, HG6.out.trans g7⟩
end Go.Proofs.Ytokijggckiidjaa
