/- Descriptors under change (layer 18): the box of a copy, its blocks: words of my own, no program is named here. -/
import Derived.Test.YtokijggckiidjaaDsO
namespace Go.Mine
open Go Go.RowKit
theorem Own.store2D {w w' : World} {g : Nat} {t : TypeId} {a b x y : Value} (h : Own w g t #[a, b]) (hw : (w.setCell ⟨g, 0, none⟩ x).setCell ⟨g, 1, none⟩ y = w') : Own w' g t #[x, y] := by
  rw [← hw]
  exact (h.set 0 x).set 1 y
theorem Own.far2D {w w' : World} {g b : Nat} {t : TypeId} {cs : Array Value} {x y : Value} (h : Own w g t cs) (hw : (w.setCell ⟨b, 0, none⟩ x).setCell ⟨b, 1, none⟩ y = w') (hb : g ≠ b) : Own w' g t cs := by
  rw [← hw]
  exact (h.far (p := ⟨b, 0, none⟩) hb x).far (p := ⟨b, 1, none⟩) hb y
theorem Grew.far2D {a w w' : World} {b : Nat} {x y : Value} (h : Grew a w) (hw : (w.setCell ⟨b, 0, none⟩ x).setCell ⟨b, 1, none⟩ y = w') (hb : a.heap.size ≤ b) : Grew a w' := by
  rw [← hw]
  exact (h.set (p := ⟨b, 0, none⟩) hb x).set (p := ⟨b, 1, none⟩) hb y
theorem grown2D {w w' : World} {b : Nat} {x y : Value} (hw : (w.setCell ⟨b, 0, none⟩ x).setCell ⟨b, 1, none⟩ y = w') : w.grownBy w' (some b) := by
  rw [← hw]
  exact grown_set (p := ⟨b, 1, none⟩) (grown_set (p := ⟨b, 0, none⟩) (grown_refl w (some b)) (.inl rfl) x) (.inl rfl) y
/-- A copy in the box go; the result's box. -/
structure OuW (w : World) (T To Ts Ti : TypeId) (B go : Nat) (a b u v : Value) (G C : Nat → Nat) (d : Dd) (wr : World) : Prop where
  res : Own wr (w.heap.size + 1) T #[u, v]
  box : Own wr go T #[a, b]
  k : DdK To Ts Ti wr B a b G C d
  no : NoD a b G d.t.length go
  g : Grew w wr
  lo : w.heap.size + 2 ≤ B
  bo : B ≤ go
section
variable {w wr w' : World} {T To Ts Ti : TypeId} {B go : Nat} {a b u v : Value} {G C : Nat → Nat} {d : Dd}
theorem OuW.start {w3 w4 : World} (hr : Own w3 (w.heap.size + 1) T #[u, v]) (g : Grew w w3) (lo : w.heap.size + 2 ≤ w3.heap.size) (k : DdK To Ts Ti w4 w3.heap.size a b G C d) (g4 : Grew w3 w4) : OuW w T To Ts Ti w3.heap.size w4.heap.size a b u v G C d (w4.alloc (.cells #[a, b] T)) :=
  ⟨(hr.grew g4).alloc _, Own.new w4 T _, k.alloc _, k.no_hi (Nat.le_refl _), (g.trans g4).alloc _, lo, g4.size⟩
theorem OuW.grew (h : OuW w T To Ts Ti B go a b u v G C d wr) (g : Grew wr w') : OuW w T To Ts Ti B go a b u v G C d w' := ⟨h.res.grew g, h.box.grew g, h.k.grew g, h.no, h.g.trans g, h.lo, h.bo⟩
theorem OuW.drewN (h : OuW w T To Ts Ti B go a b u v G C d wr) (n : Nat) : OuW w T To Ts Ti B go a b u v G C d (wr.drewN n) := h.grew ((Grew.refl wr).drewN n)
theorem OuW.low (h : OuW w T To Ts Ti B go a b u v G C d wr) {x : Nat} (hx : x < B) : NoD a b G d.t.length x := h.k.no_lo hx
theorem OuW.storeT (h : OuW w T To Ts Ti B go a b u v G C d wr) {p : Nat} (hp : p < d.t.length) (i : Nat) (x : Int) : OuW w T To Ts Ti B go a b u v G C ⟨setT d.t p i x, d.o⟩ (wr.setCell ⟨G p, i, none⟩ (.int .i64 x)) := by
  have h1 := (h.k.t.above hp).1
  have h2 := h.lo
  refine ⟨h.res.far (p := ⟨G p, i, none⟩) (show w.heap.size + 1 ≠ G p by omega) _, h.box.far (p := ⟨G p, i, none⟩) (fun e => h.no.g p hp e.symm) _, h.k.storeT hp i x, ?_, h.g.set (p := ⟨G p, i, none⟩) (show w.heap.size ≤ G p by omega) _, h.lo, h.bo⟩
  show NoD a b G (setT d.t p i x).length go
  rw [setT_len]
  exact h.no
theorem OuW.storeO {g n c : Nat} (h : OuW w T To Ts Ti B go (.slice (some ⟨g, 0, none⟩) n c) b u v G C d wr) {k j : Nat} (hk : k < d.o.length) (hj : j < 5) {x : Value} {y : Ds} (hy : encDs y = (encDs (d.o.getD k zDs)).set j x) : OuW w T To Ts Ti B go (.slice (some ⟨g, 0, none⟩) n c) b u v G C ⟨d.t, d.o.set k y⟩ (wr.setCell ⟨g, k * 5 + j, none⟩ x) := by
  have h1 := h.k.o.above g rfl
  have h2 := h.lo
  exact ⟨h.res.far (p := ⟨g, k * 5 + j, none⟩) (show w.heap.size + 1 ≠ g by omega) _, h.box.far (p := ⟨g, k * 5 + j, none⟩) (fun e => h.no.a (congrArg some e.symm)) _, h.k.storeO hk hj hy, h.no, h.g.set (p := ⟨g, k * 5 + j, none⟩) (show w.heap.size ≤ g by omega) _, h.lo, h.bo⟩
theorem OuW.storeX {g n c : Nat} (h : OuW w T To Ts Ti B go (.slice (some ⟨g, 0, none⟩) n c) b u v G C d wr) {k : Nat} (hk : k < d.o.length) (y : Ds)
    (hw : ((((wr.setCell ⟨g, k * 5, none⟩ (.int .i64 y.f)).setCell ⟨g, k * 5 + 1, none⟩ (.int .i64 y.g)).setCell ⟨g, k * 5 + 2, none⟩ (.int .i64 y.o)).setCell ⟨g, k * 5 + 3, none⟩ (.int .i64 y.c)).setCell ⟨g, k * 5 + 4, none⟩ (.int .i64 y.r) = w') : OuW w T To Ts Ti B go (.slice (some ⟨g, 0, none⟩) n c) b u v G C ⟨d.t, d.o.set k y⟩ w' := by
  have h1 := h.k.o.above g rfl
  have h2 := h.lo
  have gr : wr.grownBy w' (some g) := by
    rw [← hw]
    exact grown_set (p := ⟨g, k * 5 + 4, none⟩) (grown_set (p := ⟨g, k * 5 + 3, none⟩) (grown_set (p := ⟨g, k * 5 + 2, none⟩) (grown_set (p := ⟨g, k * 5 + 1, none⟩) (grown_set (p := ⟨g, k * 5, none⟩) (grown_refl wr (some g)) (.inl rfl) _) (.inl rfl) _) (.inl rfl) _) (.inl rfl) _) (.inl rfl) _
  exact ⟨h.res.past gr (by omega), h.box.past gr (fun e => h.no.a (congrArg some e.symm)), h.k.storeX hk y hw, h.no, h.g.past gr (by omega), h.lo, h.bo⟩
/-- One more description, appended and put into the box. -/
theorem OuW.app (h : OuW w T To Ts Ti B go a b u v G C d wr) {W wx : World} (gW : Grew wr W) {y : Ds} {g' n' c' : Nat} (hr : RowE To 5 encDs wx B (.slice (some ⟨g', 0, none⟩) n' c') (d.o ++ [y])) (g : W.grownBy wx a.ownBlock) (ho : a.ownBlock = some g' ∨ g' = W.heap.size) :
    OuW w T To Ts Ti B go (.slice (some ⟨g', 0, none⟩) n' c') b u v G C ⟨d.t, d.o ++ [y]⟩ (wx.setCell ⟨go, 0, none⟩ (.slice (some ⟨g', 0, none⟩) n' c')) := by
  have hW := h.grew gW
  have hb := hW.box.lt
  have h2 := h.lo
  have ho' : ∀ x, (Value.slice (some ⟨g', 0, none⟩) n' c').ownBlock = some x → a.ownBlock = some x ∨ W.heap.size ≤ x := fun x e => by
    have e2 : some g' = some x := e
    injection e2 with e2
    subst e2
    rcases ho with ho | ho
    · exact .inl ho
    · exact .inr (by omega)
  have hne : g' ≠ go := fun e => by
    rcases ho with ho | ho
    · exact h.no.a (by rw [ho, e])
    · omega
  have k2 := hW.k.app hr g ho'
  refine ⟨(hW.res.keptN g (fun e => by have := hW.k.o.above _ e; omega)).far (p := ⟨go, 0, none⟩) (show w.heap.size + 1 ≠ go by have := h.bo; omega) _, (hW.box.keptN g h.no.a).set 0 _, ?_, ⟨fun e => ?_, h.no.b, h.no.g⟩, ?_, h.lo, h.bo⟩
  · refine k2.put ⟨fun e => ?_, h.no.b, h.no.g⟩ 0 _
    have e2 : some g' = some go := e
    injection e2 with e2
    exact hne e2
  · have e2 : some g' = some go := e
    injection e2 with e2
    exact hne e2
  · have gw : Grew w wx := Grew.keptA (B := B) hW.g g (fun x e => hW.k.o.above x e) (by omega)
    exact gw.set (p := ⟨go, 0, none⟩) (show w.heap.size ≤ go by have := h.bo; omega) _
/-- The first descriptions alone, put into the box. -/
theorem OuW.cut {g n c : Nat} (h : OuW w T To Ts Ti B go (.slice (some ⟨g, 0, none⟩) n c) b u v G C d wr) {k : Nat} (hk : k ≤ d.o.length) : OuW w T To Ts Ti B go (.slice (some ⟨g, 0, none⟩) k c) b u v G C ⟨d.t, d.o.take k⟩ (wr.setCell ⟨go, 0, none⟩ (.slice (some ⟨g, 0, none⟩) k c)) := by
  have h2 := h.lo
  have h3 := h.bo
  have hno : NoD (.slice (some ⟨g, 0, none⟩) k c) b G d.t.length go := ⟨h.no.a, h.no.b, h.no.g⟩
  exact ⟨h.res.far (p := ⟨go, 0, none⟩) (show w.heap.size + 1 ≠ go by omega) _, h.box.set 0 _, (h.k.cut hk).put hno 0 _, hno, h.g.set (p := ⟨go, 0, none⟩) (show w.heap.size ≤ go by omega) _, h.lo, h.bo⟩
/-- The result. -/
theorem OuW.ret (h : OuW w T To Ts Ti B go a b u v G C d wr) {x y : Value} (hw : (wr.setCell ⟨w.heap.size + 1, 0, none⟩ x).setCell ⟨w.heap.size + 1, 1, none⟩ y = w') : Own w' (w.heap.size + 1) T #[x, y] ∧ Grew w w' ∧ DdR w' w.heap.size a b d := by
  have h2 := h.lo
  exact ⟨h.res.store2D hw, h.g.far2D hw (by omega), ((h.k.keptG (grown2D hw) (fun x e => by injection e with e; subst e; exact h.low (by omega))).dd).wider (by omega)⟩
end
/-- The boxes of a call on descriptors: the argument's, the result's. -/
structure BxD (w : World) (T : TypeId) (a b u v : Value) (d : Dd) (B : Nat) (wr : World) : Prop where
  dbox : Own wr w.heap.size T #[a, b]
  res : Own wr (w.heap.size + 1) T #[u, v]
  dd : DdR wr B a b d
  g : Grew w wr
theorem BxD.grew {w wr w' : World} {T : TypeId} {a b u v : Value} {d : Dd} {B : Nat} (h : BxD w T a b u v d B wr) (g : Grew wr w') : BxD w T a b u v d B w' := ⟨h.dbox.grew g, h.res.grew g, h.dd.grew g, h.g.trans g⟩
theorem BxD.start (w : World) (T : TypeId) (a b : Value) {d : Dd} {B : Nat} (h : DdR w B a b d) : BxD w T a b (.slice none 0 0) (.slice none 0 0) d B ((w.alloc (.cells #[a, b] T)).alloc (.cells #[.slice none 0 0, .slice none 0 0] T)) :=
  have g := ((Grew.refl w).alloc (.cells #[a, b] T)).alloc (.cells #[.slice none 0 0, .slice none 0 0] T)
  ⟨(Own.new w T #[a, b]).alloc _, Own.new2 w _ T _, h.grew g, g⟩
/-- The result is written. -/
theorem BxD.ret {w wr w' : World} {T : TypeId} {a b u v x y : Value} {d : Dd} {B : Nat} (h : BxD w T a b u v d B wr) (hw : (wr.setCell ⟨w.heap.size + 1, 0, none⟩ x).setCell ⟨w.heap.size + 1, 1, none⟩ y = w') : Own w' (w.heap.size + 1) T #[x, y] ∧ Grew w w' :=
  ⟨h.res.store2D hw, h.g.far2D hw (by omega)⟩
theorem BxD.lo {w wr : World} {T : TypeId} {a b u v : Value} {d : Dd} {B : Nat} (h : BxD w T a b u v d B wr) : w.heap.size + 2 ≤ wr.heap.size := h.res.lt
theorem DdR.low {w w' : World} {B : Nat} {a b : Value} {d : Dd} (h : DdR w B a b d) (g : Grew w w') : DdR w' 0 a b d := (h.grew g).wider (Nat.zero_le _)
end Go.Mine
