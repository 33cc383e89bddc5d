/- RadixOrder holds: a tree depends on its entries only, not on the order in which they were set, nor on one that was removed again. -/
import Derived.Test.YtigmkgdalklnpaaRo2
import Derived.Test.YtigmkgdalklnpaaRm8
import Derived.Test.YtigmkgdalklnpaaRm9
import Derived.BigQuiet
import Derived.Deep.RegionHeld3
import Derived.Deep.DeepCutAuto
namespace Go.Proofs.Ytigmkgdalklnpaa
open Go.ChangeShapes Go.WideShapes Go.ChangeAt Go.RowKit Go.Mine

def CellsE (w : World) (g i ix : Nat) (lv lm : Int) : Prop := g < w.heap.size ∧ w.cell? ⟨g, i * 3, none⟩ = some (.int .i64 ix) ∧ w.cell? ⟨g, i * 3 + 1, none⟩ = some (.int .i64 lv) ∧ w.cell? ⟨g, i * 3 + 2, none⟩ = some (.int .i64 lm)
theorem CellsE.grew {w w' : World} {g i ix : Nat} {lv lm : Int} (c : CellsE w g i ix lv lm) (k : Grew w w') : CellsE w' g i ix lv lm :=
  ⟨Nat.lt_of_lt_of_le c.1 k.size, (k.cells.1 g _ c.1).trans c.2.1, (k.cells.1 g _ c.1).trans c.2.2.1, (k.cells.1 g _ c.1).trans c.2.2.2⟩
theorem CellsE.kq {Q : Nat → Prop} {w w' : World} {g i ix : Nat} {lv lm : Int} (c : CellsE w g i ix lv lm) (k : KeepQ Q w w') (hq : Q g) : CellsE w' g i ix lv lm := by
  have e := k.2 g hq c.1
  exact ⟨Nat.lt_of_lt_of_le c.1 k.1, (World.cell?_of_block (a := ⟨g, i * 3, none⟩) e).trans c.2.1, (World.cell?_of_block (a := ⟨g, i * 3 + 1, none⟩) e).trans c.2.2.1, (World.cell?_of_block (a := ⟨g, i * 3 + 2, none⟩) e).trans c.2.2.2⟩
/-- A valid tree that stands in a block. -/
def TreeAt (Q : Nat → Prop) (w : World) (P : Nat) (f : Fen) : Prop := ∃ h a j c x m, Own w P 28 #[.int .i64 (h : Nat), .slice a j c, .int .i64 x, .int .i64 m] ∧ TreeF w Q h f (.slice a j c) x m
theorem TreeAt.kq {Q : Nat → Prop} {w w' : World} {P : Nat} {f : Fen} (t : TreeAt Q w P f) (k : KeepQ Q w w') (hq : Q P) : TreeAt Q w' P f := by
  obtain ⟨h, a, j, c, x, m, o, n⟩ := t
  exact ⟨h, a, j, c, x, m, Own.kq o k hq, n.kq k⟩
theorem RdE.mono {Q Q' : Nat → Prop} {w : World} {v : Value} {M : List En} (r : RdE Q w v M) (h : ∀ c, Q c → Q' c) : RdE Q' w v M := by
  obtain ⟨a, c, e, hc, hm⟩ := r
  exact ⟨a, c, e, hc, hm.imp id fun ⟨g, ea, hq, hg, hu⟩ => ⟨g, ea, h g hq, hg, hu⟩⟩
/-- What the loop leaves as it is. -/
def BundO (W : World) (Q : Nat → Prop) (PT PB PX b B : Nat) (r : Value) (M : List En) (f : Fen) (w : World) : Prop := RdE Q w r M ∧ TreeAt Q w PT f ∧ TreeAt Q w PB f ∧ Tp B w b ∧ Grew W w ∧ PX < w.heap.size
theorem BundO.grew {W w w' : World} {Q : Nat → Prop} {PT PB PX b B : Nat} {r : Value} {M : List En} {f : Fen} (h : BundO W Q PT PB PX b B r M f w) (hT : Q PT) (hB : Q PB) (g : Grew w w') : BundO W Q PT PB PX b B r M f w' :=
  ⟨h.1.kq (.grew g), h.2.1.kq (.grew g) hT, h.2.2.1.kq (.grew g) hB, h.2.2.2.1.grew g, h.2.2.2.2.1.trans g, Nat.lt_of_lt_of_le h.2.2.2.2.2 g.size⟩
theorem BundO.set4 {W w w' : World} {Q : Nat → Prop} {PT PB PX b B : Nat} {r : Value} {M : List En} {f : Fen} {s x m y : Value} (hw : (((w.setCell ⟨PX, 0, none⟩ s).setCell ⟨PX, 1, none⟩ x).setCell ⟨PX, 2, none⟩ m).setCell ⟨PX, 3, none⟩ y = w')
    (h : BundO W Q PT PB PX b B r M f w) (hT : Q PT) (hB : Q PB) (hX : ¬Q PX) (hBX : B ≤ PX) (hWX : W.heap.size ≤ PX) : BundO W Q PT PB PX b B r M f w' := by
  have k : KeepQ Q w w' := KeepQ.set4 hw hX
  refine ⟨h.1.kq k, h.2.1.kq k hT, h.2.2.1.kq k hB, ?_, grew4 hw h.2.2.2.2.1 hWX, Nat.lt_of_lt_of_le h.2.2.2.2.2 k.1⟩
  rw [← hw]
  exact (((h.2.2.2.1.set (p := ⟨PX, 0, none⟩) hBX _).set (p := ⟨PX, 1, none⟩) hBX _).set (p := ⟨PX, 2, none⟩) hBX _).set (p := ⟨PX, 3, none⟩) hBX _
theorem BundO.past {W w w' : World} {Q : Nat → Prop} {PT PB PX b B : Nat} {r : Value} {M : List En} {f : Fen} (h : BundO W Q PT PB PX b B r M f w) (hT : Q PT) (hB : Q PB) (hb : ¬Q b) (hWb : W.heap.size ≤ b) (g : w.grownBy w' (some b)) (t : Tp B w' b) : BundO W Q PT PB PX b B r M f w' := by
  have k : KeepQ Q w w' := KeepQ.past g hb
  exact ⟨h.1.kq k, h.2.1.kq k hT, h.2.2.1.kq k hB, t, h.2.2.2.2.1.past g hWb, Nat.lt_of_lt_of_le h.2.2.2.2.2 k.1⟩
theorem BundO.tape {W w : World} {Q : Nat → Prop} {PT PB PX b B : Nat} {r : Value} {M : List En} {f : Fen} (h : BundO W Q PT PB PX b B r M f w) : Tp B w b := h.2.2.2.1
theorem BundO.list {W w : World} {Q : Nat → Prop} {PT PB PX b B : Nat} {r r' : Value} {M M' : List En} {f : Fen} (h : BundO W Q PT PB PX b B r M f w) (k : RdE Q w r' M') : BundO W Q PT PB PX b B r' M' f w := ⟨k, h.2⟩
def SetJ (Bd : World → Prop) (Q : Nat → Prop) (PX n g cr i ix : Nat) (lv lm : Int) (k : Nat) (ao : Option Addr) (jo co : Nat) (xo mo : Int) (F F2 : Fen) (A : Act) (d : Nat → Bool) (a : Act) (w : World) : Prop := ∃ (v48 v49 v50 v51 v52 v53 v54 v55 v56 v57 v58 v59 v60 v61 v62 : Value) (k2 : Nat) (a2 : Option Addr) (j2 c2 : Nat) (x2 m2 : Int), a = puts A [(48, v48), (49, v49), (50, v50), (51, v51), (52, v52), (53, v53), (54, v54), (55, v55), (56, v56), (57, v57), (58, v58), (59, v59), (60, v60), (61, v61), (62, v62)]
  ∧ (Bd w)
  ∧ (Hid (d 15 = false → Own w PX 28 #[.int .i64 k, .slice ao jo co, .int .i64 xo, .int .i64 mo]))
  ∧ (Hid (CellsE w g i ix lv lm))
  ∧ (Hid (TreeF w Q k F (.slice ao jo co) xo mo))
  ∧ Hid (d 0 = true → v49 = treeV k (.slice ao jo co) xo mo)
  ∧ Hid (d 1 = true → v50 = .slice (some ⟨g, 0, none⟩) n cr)
  ∧ Hid (d 2 = true → v51 = .int .i64 (i : Int))
  ∧ Hid (d 3 = true → v52 = .pointer (some ⟨g, i * 3, none⟩))
  ∧ Hid (d 4 = true → v53 = .pointer (some ⟨g, i * 3, none⟩))
  ∧ Hid (d 5 = true → v54 = .int .i64 (ix : Int))
  ∧ Hid (d 6 = true → v55 = .slice (some ⟨g, 0, none⟩) n cr)
  ∧ Hid (d 7 = true → v56 = .int .i64 (i : Int))
  ∧ Hid (d 8 = true → v57 = .pointer (some ⟨g, i * 3, none⟩))
  ∧ Hid (d 9 = true → v58 = .pointer (some ⟨g, i * 3 + 1, none⟩))
  ∧ Hid (d 10 = true → v59 = .int .i64 lv)
  ∧ Hid (d 11 = true → d 0 = true ∧ d 5 = true ∧ d 10 = true ∧ v60 = .tuple #[treeV k2 (.slice a2 j2 c2) x2 m2, .int .i64 0] ∧ (TreeF w Q k2 F2 (.slice a2 j2 c2) x2 m2))
  ∧ Hid (d 12 = true → d 11 = true ∧ v48 = .tuple #[treeV k2 (.slice a2 j2 c2) x2 m2, .int .i64 0])
  ∧ Hid (d 13 = true → d 12 = true ∧ v61 = treeV k2 (.slice a2 j2 c2) x2 m2)
  ∧ Hid (d 14 = true → v62 = .int .i64 0)
  ∧ Hid (d 15 = true → d 13 = true ∧ (Own w PX 28 #[.int .i64 k2, .slice a2 j2 c2, .int .i64 x2, .int .i64 m2]))
def MarkJ0 (Bd : World → Prop) (Q : Nat → Prop) (PX n g cr i ix : Nat) (lv lm : Int) (k : Nat) (ao : Option Addr) (jo co : Nat) (xo mo : Int) (F F2 : Fen) (A : Act) (d : Nat → Bool) (a : Act) (w : World) : Prop := ∃ (v76 v77 v78 v79 v80 v81 v82 v83 v84 v85 v86 v87 : Value) (k2 : Nat) (a2 : Option Addr) (j2 c2 : Nat) (x2 m2 : Int), a = puts A [(76, v76), (77, v77), (78, v78), (79, v79), (80, v80), (81, v81), (82, v82), (83, v83), (84, v84), (85, v85), (86, v86), (87, v87)]
  ∧ (Bd w)
  ∧ (Hid (d 12 = false → Own w PX 28 #[.int .i64 k, .slice ao jo co, .int .i64 xo, .int .i64 mo]))
  ∧ (Hid (CellsE w g i ix lv lm))
  ∧ (Hid (TreeF w Q k F (.slice ao jo co) xo mo))
  ∧ Hid (d 0 = true → v77 = treeV k (.slice ao jo co) xo mo)
  ∧ Hid (d 1 = true → v78 = .slice (some ⟨g, 0, none⟩) n cr)
  ∧ Hid (d 2 = true → v79 = .int .i64 (i : Int))
  ∧ Hid (d 3 = true → v80 = .pointer (some ⟨g, i * 3, none⟩))
  ∧ Hid (d 4 = true → v81 = .pointer (some ⟨g, i * 3, none⟩))
  ∧ Hid (d 5 = true → v82 = .int .i64 (ix : Int))
  ∧ Hid (d 6 = true → v83 = .int .i64 0)
  ∧ Hid (d 7 = true → v84 = .int .i64 1)
  ∧ Hid (d 8 = true → d 0 = true ∧ d 5 = true ∧ d 7 = true ∧ v85 = .tuple #[treeV k2 (.slice a2 j2 c2) x2 m2, .int .i64 0] ∧ (TreeF w Q k2 F2 (.slice a2 j2 c2) x2 m2))
  ∧ Hid (d 9 = true → d 8 = true ∧ v76 = .tuple #[treeV k2 (.slice a2 j2 c2) x2 m2, .int .i64 0])
  ∧ Hid (d 10 = true → d 9 = true ∧ v86 = treeV k2 (.slice a2 j2 c2) x2 m2)
  ∧ Hid (d 11 = true → v87 = .int .i64 0)
  ∧ Hid (d 12 = true → d 10 = true ∧ (Own w PX 28 #[.int .i64 k2, .slice a2 j2 c2, .int .i64 x2, .int .i64 m2]))
def MarkJ1 (Bd : World → Prop) (Q : Nat → Prop) (PX n g cr i ix : Nat) (lv lm : Int) (k : Nat) (ao : Option Addr) (jo co : Nat) (xo mo : Int) (F F2 : Fen) (A : Act) (d : Nat → Bool) (a : Act) (w : World) : Prop := ∃ (v76 v77 v78 v79 v80 v81 v82 v83 v84 v85 v86 v87 : Value) (k2 : Nat) (a2 : Option Addr) (j2 c2 : Nat) (x2 m2 : Int), a = puts A [(76, v76), (77, v77), (78, v78), (79, v79), (80, v80), (81, v81), (82, v82), (83, v83), (84, v84), (85, v85), (86, v86), (87, v87)]
  ∧ (Bd w)
  ∧ (Hid (d 12 = false → Own w PX 28 #[.int .i64 k, .slice ao jo co, .int .i64 xo, .int .i64 mo]))
  ∧ (Hid (CellsE w g i ix lv lm))
  ∧ (Hid (TreeF w Q k F (.slice ao jo co) xo mo))
  ∧ Hid (d 0 = true → v77 = treeV k (.slice ao jo co) xo mo)
  ∧ Hid (d 1 = true → v78 = .slice (some ⟨g, 0, none⟩) n cr)
  ∧ Hid (d 2 = true → v79 = .int .i64 (i : Int))
  ∧ Hid (d 3 = true → v80 = .pointer (some ⟨g, i * 3, none⟩))
  ∧ Hid (d 4 = true → v81 = .pointer (some ⟨g, i * 3, none⟩))
  ∧ Hid (d 5 = true → v82 = .int .i64 (ix : Int))
  ∧ Hid (d 6 = true → v83 = .int .i64 1)
  ∧ Hid (d 7 = true → v84 = .int .i64 2)
  ∧ Hid (d 8 = true → d 0 = true ∧ d 5 = true ∧ d 7 = true ∧ v85 = .tuple #[treeV k2 (.slice a2 j2 c2) x2 m2, .int .i64 0] ∧ (TreeF w Q k2 F2 (.slice a2 j2 c2) x2 m2))
  ∧ Hid (d 9 = true → d 8 = true ∧ v76 = .tuple #[treeV k2 (.slice a2 j2 c2) x2 m2, .int .i64 0])
  ∧ Hid (d 10 = true → d 9 = true ∧ v86 = treeV k2 (.slice a2 j2 c2) x2 m2)
  ∧ Hid (d 11 = true → v87 = .int .i64 0)
  ∧ Hid (d 12 = true → d 10 = true ∧ (Own w PX 28 #[.int .i64 k2, .slice a2 j2 c2, .int .i64 x2, .int .i64 m2]))
def MarkJ2 (Bd : World → Prop) (Q : Nat → Prop) (PX n g cr i ix : Nat) (lv lm : Int) (k : Nat) (ao : Option Addr) (jo co : Nat) (xo mo : Int) (F F2 : Fen) (A : Act) (d : Nat → Bool) (a : Act) (w : World) : Prop := ∃ (v76 v77 v78 v79 v80 v81 v82 v83 v84 v85 v86 v87 : Value) (k2 : Nat) (a2 : Option Addr) (j2 c2 : Nat) (x2 m2 : Int), a = puts A [(76, v76), (77, v77), (78, v78), (79, v79), (80, v80), (81, v81), (82, v82), (83, v83), (84, v84), (85, v85), (86, v86), (87, v87)]
  ∧ (Bd w)
  ∧ (Hid (d 12 = false → Own w PX 28 #[.int .i64 k, .slice ao jo co, .int .i64 xo, .int .i64 mo]))
  ∧ (Hid (CellsE w g i ix lv lm))
  ∧ (Hid (TreeF w Q k F (.slice ao jo co) xo mo))
  ∧ Hid (d 0 = true → v77 = treeV k (.slice ao jo co) xo mo)
  ∧ Hid (d 1 = true → v78 = .slice (some ⟨g, 0, none⟩) n cr)
  ∧ Hid (d 2 = true → v79 = .int .i64 (i : Int))
  ∧ Hid (d 3 = true → v80 = .pointer (some ⟨g, i * 3, none⟩))
  ∧ Hid (d 4 = true → v81 = .pointer (some ⟨g, i * 3, none⟩))
  ∧ Hid (d 5 = true → v82 = .int .i64 (ix : Int))
  ∧ Hid (d 6 = true → v83 = .int .i64 2)
  ∧ Hid (d 7 = true → v84 = .int .i64 4)
  ∧ Hid (d 8 = true → d 0 = true ∧ d 5 = true ∧ d 7 = true ∧ v85 = .tuple #[treeV k2 (.slice a2 j2 c2) x2 m2, .int .i64 0] ∧ (TreeF w Q k2 F2 (.slice a2 j2 c2) x2 m2))
  ∧ Hid (d 9 = true → d 8 = true ∧ v76 = .tuple #[treeV k2 (.slice a2 j2 c2) x2 m2, .int .i64 0])
  ∧ Hid (d 10 = true → d 9 = true ∧ v86 = treeV k2 (.slice a2 j2 c2) x2 m2)
  ∧ Hid (d 11 = true → v87 = .int .i64 0)
  ∧ Hid (d 12 = true → d 10 = true ∧ (Own w PX 28 #[.int .i64 k2, .slice a2 j2 c2, .int .i64 x2, .int .i64 m2]))
theorem set_0 (v : Int) (i : Nat) (w : World) (hi : i < 256) (hv : (Lit.int .i64 v).wf = true) : Calls Try.prog 28 #[.agg #[.int .i64 0, .slice none 0 0, .int .i64 0, .int .i64 0], .int .i64 i, .int .i64 v] w (RetSet (updG f0 i (v, 0)) w) :=
  set_f 0 f0 _ _ _ v i (fun _ => True) w (tree0 w _) hi hv
set_option maxRecDepth 100000 in
set_option maxHeartbeats 16000000 in
theorem order_core (A : Option Addr) (c : Nat) (xs : List Int) (A2 : Option Addr) (c2 : Nat) (xs2 : List Int) (w : World) (hr : IntRow w A xs) (hm : xs.length ≤ maxLen) (hr2 : IntRow w A2 xs2) (hm2 : xs2.length ≤ maxLen) :
    Calls Try.prog 6 #[.slice A xs.length c, .slice A2 xs2.length c2] w (RetG (.bool true) w) := by
  have tp := Tp.made hr hm c 32
  have HR2 := Lib.hid hr2
  have HM2 := Lib.hid hm2
  clear hr hr2 hm2
  generalize hX : xs.length = X at *
  clear hX
  go_enter Try.func6, Try.ntmps6
  go_wp2_with fail
  have G0 : w.grownBy (w.alloc (.cells #[.slice A X c, .int .i64 0] 32)) (some w.heap.size) := grown_alloc (grown_refl _ _) _
  generalize World.alloc w _ = w0 at *
  have hsz0 : w.heap.size + 1 ≤ w0.heap.size := tp.lt
  with_reducible refine (tree_x _ _ _ tp hsz0).mono ?_
  rintro e w1 ⟨h, f, s, x, m, rfl, TF, T1, g1⟩
  have G1 := (Grew.refl w).past (grown_trans G0 g1) (Nat.le_refl _)
  obtain ⟨a, j, cc, rfl⟩ := TF.node.slice
  have h4 : h ≤ 4 := TF.le
  have OT := Own.new w1 28 #[.int .i64 h, .slice a j cc, .int .i64 x, .int .i64 m]
  have g2 : Grew w1 (w1.alloc (.cells #[.int .i64 h, .slice a j cc, .int .i64 x, .int .i64 m] 28)) := (Grew.refl w1).alloc _
  have HTF := Lib.hid ((TF.mono (q := fun c => c < w1.heap.size) (fun _ _ hc => hc)).grew g2)
  have G2 := G1.trans g2
  clear TF tp G0 g1 T1 G1 g2 hsz0
  go_upto_region 2 with fail
  generalize World.alloc w1 _ = w2 at *
  generalize w1.heap.size = PT at *
  obtain ⟨t0, t1, t2, t3, -⟩ := OT.four
  have lT := OT.lt
  go_wp2_with fail
  with_reducible refine (entries_f h f _ _ _ _ _ HTF.out).mono ?_
  rintro e w3 ⟨ve, rfl, RE, g3⟩
  have OT3 := OT.grew g3
  have HTF3 := Lib.hid (HTF.out.grew g3)
  have G3 := G2.trans g3
  have tp3 := Tp.made (HR2.out.grew G3) HM2.out c2 32
  have gA := (Grew.refl w3).alloc (.cells #[.slice A2 xs2.length c2, .int .i64 0] 32)
  have OT4 := OT3.grew gA
  have HTF4 := Lib.hid (HTF3.out.grew gA)
  have HRE := Lib.hid (RE.grew gA)
  have HRD := Lib.hid ((RdE.row (Q := fun c => c < w3.heap.size) RE (fun _ _ hc => hc)).kq (.grew gA))
  have HUR := Lib.hid RE.lt
  have G4 := G3.trans gA
  have lT3 := OT3.lt
  have hW3 := G3.size
  clear t0 t1 t2 t3 lT OT HTF G2 g3 RE OT3 HTF3 G3 gA
  generalize hX2 : xs2.length = X2 at *
  clear hX2
  go_upto_region 4 with fail
  generalize World.alloc w3 _ = w4 at *
  obtain ⟨b, hb⟩ : ∃ b, w3.heap.size = b := ⟨_, rfl⟩
  rw [hb] at tp3 HRD lT3 hW3 ⊢
  clear hb HUR
  obtain ⟨M0, hM0⟩ : ∃ M0, entR h f 0 = M0 := ⟨_, rfl⟩
  have HM0 := Lib.hid hM0
  have hlen0 : M0.length ≤ 256 := by rw [← hM0]; exact Nat.le_trans (entR_len h f 0) (p4_256' h4)
  rw [hM0] at HRE HRD
  clear hM0
  have hwf0 : ∀ e ∈ M0, (Lit.int .i64 e.2.1).wf = true := fun e he => by
    rw [← HM0.out, entR_S] at he
    obtain ⟨i, -, rfl, -⟩ := entS_mem he
    exact (HTF4.out.good i).1
  have HWF0 := Lib.hid hwf0
  have HLEN0 := Lib.hid hlen0
  clear hwf0
  go_wp2_with fail
  with_reducible refine (build_f _ _ M0 _ HRE.out (Nat.le_trans HLEN0.out (by decide)) HWF0.out).mono ?_
  rintro e w5 ⟨g5, hq⟩
  have hb0 : bldE M0 = 0 := by rw [← HM0.out]; exact ents_ok h4 HTF4.out.good
  obtain ⟨s5, x5, m5, rfl, TB⟩ : ∃ s x m, e = .returned (.tuple #[treeV (hF (topOf M0)) s x m, .int .i64 0]) ∧ TreeF w5 (fun c => w4.heap.size ≤ c) (hF (topOf M0)) (fnOf M0) s x m := by
    rcases hq with ⟨-, h2⟩ | ⟨h2, -⟩
    · exact h2
    · exact absurd hb0 h2
  have hfn : fnOf M0 = f := by rw [← HM0.out]; exact fnOf_R HTF4.out.good HTF4.out.out
  rw [hfn] at TB
  obtain ⟨a5, j5, c5, rfl⟩ := TB.node.slice
  obtain ⟨kb, hkb⟩ : ∃ kb, hF (topOf M0) = kb := ⟨_, rfl⟩
  rw [hkb] at TB ⊢
  have htB := tp3.ltB
  have OT5 := OT4.grew g5
  have HTF5 := Lib.hid (HTF4.out.grew g5)
  have HRD5 := Lib.hid (HRD.out.kq (.grew g5))
  have tp5 := tp3.grew g5
  have G5 := G4.trans g5
  have h45 : b + 1 ≤ w4.heap.size := tp3.lt
  have HTB := Lib.hid (TB.mono (q := fun c => b < c ∧ c < w5.heap.size) (fun c hc hl => ⟨Nat.lt_of_lt_of_le h45 hc, hl⟩))
  have hs5 : b + 1 ≤ w5.heap.size := tp5.lt
  have HG0 := Lib.hid HTF4.out.good
  have HO0 := Lib.hid HTF4.out.out
  clear OT4 HTF4 HRE HRD tp3 G4 g5 hb0 hfn hkb TB hq
  have OB := (Own.new w5 28 #[.int .i64 kb, .slice a5 j5 c5, .int .i64 x5, .int .i64 m5]).alloc (.cells #[.int .i64 0, .slice none 0 0, .int .i64 0, .int .i64 0] 28)
  have OXX := Own.new2 w5 (.cells #[.int .i64 kb, .slice a5 j5 c5, .int .i64 x5, .int .i64 m5] 28) 28 #[.int .i64 0, .slice none 0 0, .int .i64 0, .int .i64 0]
  have gB : Grew w5 ((w5.alloc (.cells #[.int .i64 kb, .slice a5 j5 c5, .int .i64 x5, .int .i64 m5] 28)).alloc (.cells #[.int .i64 0, .slice none 0 0, .int .i64 0, .int .i64 0] 28)) := ((Grew.refl w5).alloc _).alloc _
  have OT6 := OT5.grew gB
  have HTF6 := Lib.hid (HTF5.out.grew gB)
  have HRD6 := Lib.hid (HRD5.out.kq (.grew gB))
  have tp6 := tp5.grew gB
  have G6 := G5.trans gB
  have HTB6 := Lib.hid (HTB.out.grew gB)
  clear OT5 HTF5 HRD5 tp5 G5 HTB gB
  go_upto_region 6 with fail
  generalize World.alloc (World.alloc w5 _) _ = w6 at *
  obtain ⟨PB, hPB⟩ : ∃ PB, w5.heap.size = PB := ⟨_, rfl⟩
  rw [hPB] at OB OXX HTB6 hs5 ⊢
  clear hPB
  obtain ⟨PX, hPX⟩ : ∃ PX, PB + 1 = PX := ⟨_, rfl⟩
  rw [hPX] at OXX ⊢
  obtain ⟨Q, hQ⟩ : ∃ Q : Nat → Prop, (fun c => c ≠ b ∧ c ≠ PX) = Q := ⟨_, rfl⟩
  have HQ := Lib.hid (show ∀ c, PX < c → Q c from fun c hc => by rw [← hQ]; exact ⟨by omega, by omega⟩)
  have HQl := Lib.hid (show ∀ c, c < b → Q c from fun c hc => by rw [← hQ]; exact ⟨by omega, by omega⟩)
  have HQT := Lib.hid (show Q PT from HQl.out PT lT3)
  have HQB := Lib.hid (show Q PB from by rw [← hQ]; exact ⟨by omega, by omega⟩)
  have HNQ := Lib.hid (show ¬Q PX from by rw [← hQ]; exact fun h => h.2 rfl)
  have HNb := Lib.hid (show ¬Q b from by rw [← hQ]; exact fun h => h.1 rfl)
  have BD0 : BundO w Q PT PB PX b (b + 1) ve M0 f w6 := ⟨HRD6.out.mono HQl.out, ⟨h, a, j, cc, x, m, OT6, HTF6.out.mono (fun c hc _ => HQl.out c (by have hc : c < PT := hc; omega))⟩,
    ⟨kb, a5, j5, c5, x5, m5, OB, HTB6.out.mono (fun c hc _ => by rw [← hQ]; have hc : b < c ∧ c < PB := hc; exact ⟨by omega, by omega⟩)⟩, tp6, G6, OXX.lt⟩
  have hbX : b < PX := by omega
  have hWb : w.heap.size ≤ b := hW3
  have hWX : w.heap.size ≤ PX := by omega
  have HBGr := Lib.hid (show ∀ (r : Value) (M : List En) (w1 : World), BundO w Q PT PB PX b (b + 1) r M f w1 → (∀ w2, Grew w1 w2 → BundO w Q PT PB PX b (b + 1) r M f w2) ∧ PX < w1.heap.size from fun r M w1 B => ⟨fun w2 g => B.grew HQT.out HQB.out g, B.2.2.2.2.2⟩)
  have HBSt := Lib.hid (show ∀ (r : Value) (M : List En) (w1 w2 : World) (s x m y : Value), (((w1.setCell ⟨PX, 0, none⟩ s).setCell ⟨PX, 1, none⟩ x).setCell ⟨PX, 2, none⟩ m).setCell ⟨PX, 3, none⟩ y = w2 → BundO w Q PT PB PX b (b + 1) r M f w1 → BundO w Q PT PB PX b (b + 1) r M f w2 from fun r M w1 w2 s x m y hw B => B.set4 hw HQT.out HQB.out HNQ.out (by omega) hWX)
  have HBPa := Lib.hid (show ∀ (r : Value) (M : List En) (w1 w2 : World), BundO w Q PT PB PX b (b + 1) r M f w1 → w1.grownBy w2 (some b) → Tp (b + 1) w2 b → BundO w Q PT PB PX b (b + 1) r M f w2 from fun r M w1 w2 B g t => B.past HQT.out HQB.out HNb.out hWb g t)
  have TX0 := Lib.hid (tree0 w6 Q)
  clear HRD6 OT6 HTF6 OB HTB6 G6 tp6 hQ hPX hs5 h45 HWF0
  go_wp2_with fail
  with_reducible refine (next_x _ _ 256 _ (by omega) (by omega) BD0.tape).mono ?_
  rintro e w7 ⟨q, q0, q1, rfl, t7, g7⟩
  obtain ⟨ex, rfl⟩ := Int.eq_ofNat_of_zero_le q0
  have hex : ex < 256 := by omega
  have BD7 := HBPa.out _ _ _ _ BD0 g7 t7
  have OX7 := OXX.past g7 (by omega)
  have TX7 := Lib.hid (tree0 w7 Q)
  have HF0 := Lib.hid (hide_all (h := h) HG0.out HO0.out ex)
  rw [HM0.out] at HF0
  clear BD0 OXX TX0 g7 t7
  obtain ⟨FX, hFX⟩ : ∃ FX, xtraF f ex = FX := ⟨_, rfl⟩
  have HFX := Lib.hid hFX
  rw [hFX] at HF0
  clear hFX
  obtain ⟨fe, hfe⟩ : ∃ fe, (f ex).1 = fe := ⟨_, rfl⟩
  have HFE := Lib.hid hfe
  rw [hfe] at HF0
  clear hfe
  have HBD7 := Lib.hid BD7
  obtain ⟨h7, a7, j7, c7, x7, m7, O7, TT7⟩ := BD7.2.1
  have HTT7 := Lib.hid TT7
  obtain ⟨t0, t1, t2, t3, -⟩ := O7.four
  have lT := O7.lt
  clear BD7 TT7
  go_wp2_with fail
  with_reducible refine (get_f h7 f _ _ _ ex Q _ HTT7.out hex).mono ?_
  rintro e w8 ⟨rfl, g8⟩
  have BD8 := Lib.hid ((HBGr.out _ _ _ HBD7.out).1 _ g8)
  have OX8 := OX7.grew g8
  have TX8 := Lib.hid (tree0 w8 Q)
  rw [HFE.out]
  clear t0 t1 t2 t3 lT O7 HTT7 HBD7 OX7 TX7 g8
  go_upto_if 34 with fail
  go_cut [] from 34 to 40 (fun wx => ∃ (k : Nat) (ao : Option Addr) (jo co : Nat) (xo mo : Int), Own wx PX 28 #[.int .i64 k, .slice ao jo co, .int .i64 xo, .int .i64 mo] ∧ TreeF wx Q k (hideF M0 FX) (.slice ao jo co) xo mo ∧ BundO w Q PT PB PX b (b + 1) ve M0 f wx)
  case first =>
    by_cases hf : fe = 0
    · subst hf
      have HF1 := Lib.hid (show hideF M0 FX = updG f0 ex (77, 0) from by rw [HF0.out, if_pos rfl])
      obtain ⟨t0, t1, t2, t3, t4, t5, t6, t7⟩ := OX8.four
      have lX := OX8.lt
      clear HF0
      go_wp2_with fail
      with_reducible refine (set_0 77 ex _ hex (by decide)).mono ?_
      rintro e w9 ⟨k9, s9, x9, m9, rfl, n9, g9⟩
      obtain ⟨a9, j9, c9, rfl⟩ := n9.node.slice
      have BD9 := Lib.hid ((HBGr.out _ _ _ BD8.out).1 _ g9)
      have OX9 := OX8.grew g9
      have hl8 := (HBGr.out _ _ _ BD8.out).2
      have TX9 := Lib.hid (n9.mono (q := Q) (fun c hc _ => HQ.out c (by have hc : w8.heap.size ≤ c := hc; omega)))
      clear t0 t1 t2 t3 t4 t5 t6 t7 lX OX8 n9 g9 BD8
      obtain ⟨t0, t1, t2, t3, t4, t5, t6, t7⟩ := OX9.four
      have lX := OX9.lt
      go_wp2_with fail
      generalize hw3 : World.setCell (World.setCell (World.setCell (World.setCell _ _ _) _ _) _ _) _ _ = w10
      go_meet
      exact ⟨k9, a9, j9, c9, x9, m9, own4 hw3 OX9, by rw [HF1.out]; exact TX9.out.kq (KeepQ.set4 hw3 HNQ.out), HBSt.out _ _ _ _ _ _ _ _ hw3 BD9.out⟩
    · have e1 : (fe == 0) = false := by simpa using hf
      have HF1 := Lib.hid (show hideF M0 FX = f0 from by rw [HF0.out, if_neg hf])
      clear HF0
      go_wp2_with fail
      go_meet
      exact ⟨0, none, 0, 0, 0, 0, OX8, by rw [HF1.out]; exact TX8.out, BD8.out⟩
  case rest =>
    clear BD8 OX8 TX8 HF0
    obtain ⟨k, ao, jo, co, xo, mo, OX, TX, BD⟩ := hcut
    have HTX := Lib.hid TX
    have HBD := Lib.hid BD
    have HOM := Lib.hid (show OkM f M0 from by rw [← HM0.out]; exact okM_R h4)
    clear TX BD
    go_wp2_with fail
    go_loopw [6] (fun vl wr => ∃ (M : List En) (r : Value) (k : Nat) (ao : Option Addr) (jo co : Nat) (xo mo : Int), r = vl ∧ M.length ≤ 256 ∧ OkM f M ∧ Own wr PX 28 #[.int .i64 k, .slice ao jo co, .int .i64 xo, .int .i64 mo] ∧ TreeF wr Q k (hideF M FX) (.slice ao jo co) xo mo ∧ BundO w Q PT PB PX b (b + 1) r M f wr) (fun vl _ => match vl with | .slice _ n _ => n | _ => 0)
    case atStart => exact ⟨M0, _, k, ao, jo, co, xo, mo, rfl, HLEN0.out, HOM.out, OX, HTX.out, HBD.out⟩
    case round =>
      clear OX HTX HBD HOM HLEN0
      obtain ⟨M, r, k, ao, jo, co, xo, mo, rfl, hML, OM, OX, TX, BD⟩ := hrel
      obtain ⟨wo, rfl⟩ : ∃ wo : World, wo = wr := ⟨_, rfl⟩
      have HTX := Lib.hid TX
      have HBD := Lib.hid BD
      have HOM := Lib.hid OM
      obtain ⟨ar, cr, rfl, hcr, -⟩ := BD.1
      clear TX BD OM
      by_cases hlt : 0 < M.length
      · obtain ⟨n, hn⟩ : ∃ n, M.length = n := ⟨_, rfl⟩
        have HNn := Lib.hid hn
        rw [hn] at hlt hML HBD hcr ⊢
        clear hn
        go_wp2_with fail
        with_reducible refine (next_x _ _ (n : Int) _ (by omega) (by omega) HBD.out.tape).mono ?_
        rintro e w1 ⟨q, q0, q1, rfl, t1, g1⟩
        obtain ⟨i, rfl⟩ := Int.eq_ofNat_of_zero_le q0
        have hi : i < n := by omega
        have BD1 := HBPa.out _ _ _ _ HBD.out g1 t1
        have OX1 := OX.past g1 (by omega)
        have TX1 := Lib.hid (HTX.out.kq (KeepQ.past g1 HNb.out))
        have hiM : i < M.length := by have := HNn.out; omega
        have hrd : RdE Q w1 (.slice ar n cr) M := BD1.1
        obtain ⟨g, cr0, er, hcc, hQg, hgl, e0, e1, e2⟩ := hrd.at hiM
        injection er with er1 er2 er3
        subst er1 er3
        obtain ⟨ix, hix, hMi, hnz⟩ := HOM.out.2 M[i] (List.getElem_mem hiM)
        obtain ⟨l, hl⟩ : ∃ l, f ix = l := ⟨_, rfl⟩
        have hgd := HG0.out ix
        have hXT : FX ix = l := by rw [← HFX.out, xtra_at hnz, hl]
        have HER := Lib.hid (show hideF (M.eraseIdx i) FX = updG (hideF M FX) ix l from by rw [hide_erase HOM.out.1 hiM (by rw [hMi]), hXT])
        rw [hMi] at e0 e1 e2
        rw [hl] at e1 e2 hgd hnz
        obtain ⟨lv, lm⟩ := l
        dsimp only at e0 e1 e2 hgd hnz
        have CEa := (show CellsE w1 g i ix lv lm from ⟨hgl, e0, e1, e2⟩)
        have HWF := Lib.hid hgd.1
        have HGD := Lib.hid hgd
        have HMK := Lib.hid (mk_step hgd.2.1 hgd.2.2.1)
        have HQg := Lib.hid hQg
        have i0 : (0 : Int) ≤ (i : Int) := by omega
        have i1 : (i : Int) < (n : Int) := by omega
        have HBd := Lib.hid (HBGr.out (.slice (some ⟨g, 0, none⟩) n cr) M)
        have HBs := Lib.hid (HBSt.out (.slice (some ⟨g, 0, none⟩) n cr) M)
        obtain ⟨F, hF⟩ : ∃ F, hideF M FX = F := ⟨_, rfl⟩
        rw [hF] at TX1 HER
        have HF := Lib.hid hF
        obtain ⟨F2, hF2⟩ : ∃ F2, updG F ix (lv, 0) = F2 := ⟨_, rfl⟩
        have HF2 := Lib.hid hF2
        have BDa := BD1
        have TXa := TX1.out
        have OXa := OX1
        clear OX hMi hl hXT hgd hnz e0 e1 e2 hrd hQg OX1 TX1 BD1 g1 t1 HTX HBD hF hF2 hgl er2
        obtain ⟨Bd, hBd⟩ : ∃ Bd : World → Prop, BundO w Q PT PB PX b (b + 1) (.slice (some ⟨g, 0, none⟩) n cr) M f = Bd := ⟨_, rfl⟩
        rw [hBd] at HBd HBs BDa
        have HBdd := Lib.hid hBd
        clear hBd
        go_upto_region 11 with fail
        refine wp_region_inv (J0 := SetJ Bd Q PX n g cr i ix lv lm k ao jo co xo mo F F2) (by kernel_rfl) (by kernel_rfl) ?inv0SetJ ?invSSetJ ?invESetJ
        case inv0SetJ =>
          exact ⟨_, _, _, _, _, _, _, _, _, _, _, _, _, _, _, 0, none, 0, 0, 0, 0, puts_self [48, 49, 50, 51, 52, 53, 54, 55, 56, 57, 58, 59, 60, 61, 62] _, ((HBd.out _ BDa).1 _ (Grew.refl _).drew), (Lib.hid fun _ => OXa.drew), (Lib.hid (CEa.grew (Grew.refl _).drew)), (Lib.hid (TXa.grew (Grew.refl _).drew)), Lib.hid fun h => absurd h (by decide), Lib.hid fun h => absurd h (by decide), Lib.hid fun h => absurd h (by decide), Lib.hid fun h => absurd h (by decide), Lib.hid fun h => absurd h (by decide), Lib.hid fun h => absurd h (by decide), Lib.hid fun h => absurd h (by decide), Lib.hid fun h => absurd h (by decide), Lib.hid fun h => absurd h (by decide), Lib.hid fun h => absurd h (by decide), Lib.hid fun h => absurd h (by decide), Lib.hid fun h => absurd h (by decide), Lib.hid fun h => absurd h (by decide), Lib.hid fun h => absurd h (by decide), Lib.hid fun h => absurd h (by decide), Lib.hid fun h => absurd h (by decide)⟩
        case invESetJ =>
          rintro a9 w9 ⟨v48, v49, v50, v51, v52, v53, v54, v55, v56, v57, v58, v59, v60, v61, v62, k2, a2, j2, c2, x2, m2, rfl, BD, OF, CE, TX, F0, F1, F2, F3, F4, F5, F6, F7, F8, F9, F10, F11, F12, F13, F14, F15⟩
          have OX2 := (F15.out (by decide)).2
          have TX2 := Lib.hid (F11.out (by decide)).2.2.2.2
          clear F0 F1 F2 F3 F4 F5 F6 F7 F8 F9 F10 F11 F12 F13 F14 F15 OF TX BDa CEa TXa OXa
          skip
          simp only [puts, List.foldl, Act.put, List.setIfInBounds_toArray, List.set_cons_zero, List.set_cons_succ]
          have BD2 := Lib.hid BD
          have CE2 := CE
          clear BD CE
          rw [← HF2.out] at TX2
          go_wp2_with fail
          go_loopw [13] (fun kv wr => ∃ (q k : Nat) (ao : Option Addr) (jo co : Nat) (xo mo : Int), kv = .int .i64 q ∧ q ≤ 3 ∧ Own wr PX 28 #[.int .i64 k, .slice ao jo co, .int .i64 xo, .int .i64 mo] ∧ TreeF wr Q k (updG F ix (lv, mkTo lm q)) (.slice ao jo co) xo mo ∧ Bd wr ∧ CellsE wr g i ix lv lm) (fun kv _ => 3 - (intOf kv).toNat)
          case atStart => exact ⟨0, _, _, _, _, _, _, rfl, by omega, OX2, TX2.out, BD2.out, CE2.out⟩
          case round =>
            clear OX2 TX2 BD2 CE2 HF2
            clear k ao jo co xo mo
            obtain ⟨q, k, ao, jo, co, xo, mo, rfl, hq3, OX, TX, BD, CE⟩ := hrel
            by_cases hlq : q < 3
            · have hqq : q = 0 ∨ q = 1 ∨ q = 2 := by omega
              rcases hqq with rfl | rfl | rfl
              · rw [show ((0 : Nat) : Int) = 0 from rfl]
                have hc0 := CE.2.1
                have hc2 := CE.2.2.2
                have hge := CE.1
                have HCE := Lib.hid CE
                have HTX := Lib.hid TX
                have HBD := Lib.hid BD
                clear CE TX BD
                cases hb : (bits .and .i64 lm 1 != 0)
                · have HMM := Lib.hid (show mkTo lm 1 = mkTo lm 0 from by rw [HMK.out.1 _ hb]; rfl)
                  go_upto_region 15 with fail
                  go_quiet (fail)
                  revert nq; intro nq1
                  have BD2 := Lib.hid ((HBd.out _ HBD.out).1 _ ((Grew.refl _).drewN nq1))
                  have OX2 := OX.drewN nq1
                  have TX2 := Lib.hid (HTX.out.grew ((Grew.refl _).drewN nq1))
                  have CE2 := Lib.hid (HCE.out.grew ((Grew.refl _).drewN nq1))
                  clear hc0 hc2 hge HCE HTX HBD OX
                  generalize World.drewN _ nq1 = w30 at *
                  go_wp2_with fail
                  go_roundw
                  case rel => exact ⟨1, _, _, _, _, _, _, by go_num, by omega, OX2, by rw [HMM.out]; exact TX2.out, BD2.out, CE2.out⟩
                  case measure => simp [intOf]
                · have HMM := Lib.hid (show mkTo lm 1 = orI (mkTo lm 0) 1 from by rw [HMK.out.1 _ hb]; rfl)
                  have hpos : 0 < lv := by
                    rcases Int.lt_or_le 0 lv with h1 | h1
                    · exact h1
                    · have h2 := HGD.out.2.2.2 h1
                      rw [h2] at hb
                      exact absurd hb (by decide +kernel)
                  have HPOS0 := Lib.hid hpos
                  clear hpos
                  go_upto_region 15 with fail
                  go_quiet (fail)
                  revert nq; intro nq1
                  have BD2 := Lib.hid ((HBd.out _ HBD.out).1 _ ((Grew.refl _).drewN nq1))
                  have OX2 := OX.drewN nq1
                  have TX2 := Lib.hid (HTX.out.grew ((Grew.refl _).drewN nq1))
                  have CE2 := Lib.hid (HCE.out.grew ((Grew.refl _).drewN nq1))
                  clear hc0 hc2 hge HCE HTX HBD OX
                  generalize World.drewN _ nq1 = w30 at *
                  obtain ⟨FO, hFO⟩ : ∃ FO, F = FO := ⟨_, rfl⟩
                  rw [hFO] at TX2
                  have HFO := Lib.hid hFO
                  clear hFO
                  obtain ⟨F, hF⟩ : ∃ F, updG FO ix (lv, mkTo lm 0) = F := ⟨_, rfl⟩
                  rw [hF] at TX2
                  have HPOS := Lib.hid (show 0 < (F ix).1 from by rw [← hF, updG, if_pos rfl]; exact HPOS0.out)
                  obtain ⟨F2, hF2⟩ : ∃ F2, updG F ix ((F ix).1, orI (F ix).2 1) = F2 := ⟨_, rfl⟩
                  have HF2 := Lib.hid hF2
                  have HF3 := Lib.hid (show F2 = updG FO ix (lv, mkTo lm 1) from by rw [← hF2, ← hF, upd_upd, HMM.out, updG, if_pos rfl])
                  have OXa := OX2
                  have TXa := TX2.out
                  have BDa := BD2.out
                  have CEa := CE2.out
                  clear OX2 TX2 BD2 CE2 hF hF2
                  go_upto_region 16 with fail
                  refine wp_region_inv (J0 := MarkJ0 Bd Q PX n g cr i ix lv lm k ao jo co xo mo F F2) (by kernel_rfl) (by kernel_rfl) ?inv0MarkJ0 ?invSMarkJ0 ?invEMarkJ0
                  case inv0MarkJ0 =>
                    exact ⟨_, _, _, _, _, _, _, _, _, _, _, _, 0, none, 0, 0, 0, 0, puts_self [76, 77, 78, 79, 80, 81, 82, 83, 84, 85, 86, 87] _, ((HBd.out _ BDa).1 _ (Grew.refl _).drew), (Lib.hid fun _ => OXa.drew), (Lib.hid (CEa.grew (Grew.refl _).drew)), (Lib.hid (TXa.grew (Grew.refl _).drew)), Lib.hid fun h => absurd h (by decide), Lib.hid fun h => absurd h (by decide), Lib.hid fun h => absurd h (by decide), Lib.hid fun h => absurd h (by decide), Lib.hid fun h => absurd h (by decide), Lib.hid fun h => absurd h (by decide), Lib.hid fun h => absurd h (by decide), Lib.hid fun h => absurd h (by decide), Lib.hid fun h => absurd h (by decide), Lib.hid fun h => absurd h (by decide), Lib.hid fun h => absurd h (by decide), Lib.hid fun h => absurd h (by decide), Lib.hid fun h => absurd h (by decide)⟩
                  case invEMarkJ0 =>
                    rintro a9 w9 ⟨v76, v77, v78, v79, v80, v81, v82, v83, v84, v85, v86, v87, k2, a2, j2, c2, x2, m2, rfl, BD, OF, CE, TX, F0, F1, F2, F3, F4, F5, F6, F7, F8, F9, F10, F11, F12⟩
                    have OX2 := (F12.out (by decide)).2
                    have TX2 := Lib.hid (F8.out (by decide)).2.2.2.2
                    clear F0 F1 F2 F3 F4 F5 F6 F7 F8 F9 F10 F11 F12 OF TX BDa CEa TXa OXa
                    simp only [puts, List.foldl, Act.put, List.setIfInBounds_toArray, List.set_cons_zero, List.set_cons_succ]
                    have BD2 := Lib.hid BD
                    have CE2 := CE
                    clear BD CE
                    rw [HF3.out, ← HFO.out] at TX2
                    go_wp2_with fail
                    go_roundw
                    case rel => exact ⟨1, _, _, _, _, _, _, by go_num, by omega, OX2, TX2.out, BD2.out, CE2.out⟩
                    case measure => simp [intOf]
                  case invSMarkJ0 =>
                    refine StepsI.cons ?stMarkJ00 ?moMarkJ00
                    case stMarkJ00 =>
                      rintro d a9 w1 ⟨v76, v77, v78, v79, v80, v81, v82, v83, v84, v85, v86, v87, k2, a2, j2, c2, x2, m2, ea, BD, OF, CE, TX, F0, F1, F2, F3, F4, F5, F6, F7, F8, F9, F10, F11, F12⟩ hd hA K hK
                      subst ea
                      clear hA
                      simp only [puts, List.foldl, Act.put, List.setIfInBounds_toArray, List.set_cons_zero, List.set_cons_succ]
                      have HHd := Lib.hid hd
                      clear hd
                      have NN : d 12 = false := by cases h : d 12 with | false => rfl | true => exact absurd (F8.out (F9.out (F10.out (F12.out h).1).1).1).1 (by rw [HHd.out]; decide)
                      have OX := OF.out NN
                      have O4 := OX.four
                      have lX := OX.lt
                      clear NN OX
                      go_simp
                      refine hK _ _ ?_
                      exact ⟨v76, (treeV k (.slice ao jo co) xo mo), v78, v79, v80, v81, v82, v83, v84, v85, v86, v87, k2, a2, j2, c2, x2, m2, by simp only [puts, List.foldl, Act.put, List.setIfInBounds_toArray, List.set_cons_zero, List.set_cons_succ], BD,
    OF,
    CE,
    TX,
    Lib.hid fun _ => rfl,
    F1,
    F2,
    F3,
    F4,
    F5,
    F6,
    F7,
    Lib.hid fun h => absurd ((F8.out h).1) (by rw [HHd.out]; decide),
    F9,
    F10,
    F11,
    F12⟩
                    refine StepsI.cons ?stMarkJ01 ?moMarkJ01
                    case stMarkJ01 =>
                      rintro d a9 w1 ⟨v76, v77, v78, v79, v80, v81, v82, v83, v84, v85, v86, v87, k2, a2, j2, c2, x2, m2, ea, BD, OF, CE, TX, F0, F1, F2, F3, F4, F5, F6, F7, F8, F9, F10, F11, F12⟩ hd hA K hK
                      subst ea
                      clear hA
                      simp only [puts, List.foldl, Act.put, List.setIfInBounds_toArray, List.set_cons_zero, List.set_cons_succ]
                      have HHd := Lib.hid hd
                      clear hd
                      go_simp
                      refine hK _ _ ?_
                      exact ⟨v76, v77, (.slice (some ⟨g, 0, none⟩) n cr), v79, v80, v81, v82, v83, v84, v85, v86, v87, k2, a2, j2, c2, x2, m2, by simp only [puts, List.foldl, Act.put, List.setIfInBounds_toArray, List.set_cons_zero, List.set_cons_succ], BD,
    OF,
    CE,
    TX,
    F0,
    Lib.hid fun _ => rfl,
    F2,
    F3,
    F4,
    F5,
    F6,
    F7,
    F8,
    F9,
    F10,
    F11,
    F12⟩
                    refine StepsI.cons ?stMarkJ02 ?moMarkJ02
                    case stMarkJ02 =>
                      rintro d a9 w1 ⟨v76, v77, v78, v79, v80, v81, v82, v83, v84, v85, v86, v87, k2, a2, j2, c2, x2, m2, ea, BD, OF, CE, TX, F0, F1, F2, F3, F4, F5, F6, F7, F8, F9, F10, F11, F12⟩ hd hA K hK
                      subst ea
                      clear hA
                      simp only [puts, List.foldl, Act.put, List.setIfInBounds_toArray, List.set_cons_zero, List.set_cons_succ]
                      have HHd := Lib.hid hd
                      clear hd
                      go_simp
                      refine hK _ _ ?_
                      exact ⟨v76, v77, v78, (.int .i64 (i : Int)), v80, v81, v82, v83, v84, v85, v86, v87, k2, a2, j2, c2, x2, m2, by simp only [puts, List.foldl, Act.put, List.setIfInBounds_toArray, List.set_cons_zero, List.set_cons_succ], BD,
    OF,
    CE,
    TX,
    F0,
    F1,
    Lib.hid fun _ => rfl,
    F3,
    F4,
    F5,
    F6,
    F7,
    F8,
    F9,
    F10,
    F11,
    F12⟩
                    refine StepsI.cons ?stMarkJ03 ?moMarkJ03
                    case stMarkJ03 =>
                      rintro d a9 w1 ⟨v76, v77, v78, v79, v80, v81, v82, v83, v84, v85, v86, v87, k2, a2, j2, c2, x2, m2, ea, BD, OF, CE, TX, F0, F1, F2, F3, F4, F5, F6, F7, F8, F9, F10, F11, F12⟩ hd hA K hK
                      subst ea
                      simp [Aft, Region.binds] at hA
                      have HD1 := Lib.hid (show d 1 = true by simp [hA])
                      have HD2 := Lib.hid (show d 2 = true by simp [hA])
                      clear hA
                      simp only [puts, List.foldl, Act.put, List.setIfInBounds_toArray, List.set_cons_zero, List.set_cons_succ]
                      have E1 := F1.out HD1.out
                      rw [E1]
                      clear E1
                      have E2 := F2.out HD2.out
                      rw [E2]
                      clear E2
                      have HHd := Lib.hid hd
                      clear hd
                      go_simp
                      refine hK _ _ ?_
                      exact ⟨v76, v77, (.slice (some ⟨g, 0, none⟩) n cr), (.int .i64 (i : Int)), (.pointer (some ⟨g, i * 3, none⟩)), v81, v82, v83, v84, v85, v86, v87, k2, a2, j2, c2, x2, m2, by simp only [puts, List.foldl, Act.put, List.setIfInBounds_toArray, List.set_cons_zero, List.set_cons_succ], BD,
    OF,
    CE,
    TX,
    F0,
    Lib.hid fun h => rfl,
    Lib.hid fun h => rfl,
    Lib.hid fun _ => rfl,
    F4,
    F5,
    F6,
    F7,
    F8,
    F9,
    F10,
    F11,
    F12⟩
                    refine StepsI.cons ?stMarkJ04 ?moMarkJ04
                    case stMarkJ04 =>
                      rintro d a9 w1 ⟨v76, v77, v78, v79, v80, v81, v82, v83, v84, v85, v86, v87, k2, a2, j2, c2, x2, m2, ea, BD, OF, CE, TX, F0, F1, F2, F3, F4, F5, F6, F7, F8, F9, F10, F11, F12⟩ hd hA K hK
                      subst ea
                      simp [Aft, Region.binds] at hA
                      have HD3 := Lib.hid (show d 3 = true by simp [hA])
                      clear hA
                      simp only [puts, List.foldl, Act.put, List.setIfInBounds_toArray, List.set_cons_zero, List.set_cons_succ]
                      have E3 := F3.out HD3.out
                      rw [E3]
                      clear E3
                      have HHd := Lib.hid hd
                      clear hd
                      go_simp
                      refine hK _ _ ?_
                      exact ⟨v76, v77, v78, v79, (.pointer (some ⟨g, i * 3, none⟩)), (.pointer (some ⟨g, i * 3, none⟩)), v82, v83, v84, v85, v86, v87, k2, a2, j2, c2, x2, m2, by simp only [puts, List.foldl, Act.put, List.setIfInBounds_toArray, List.set_cons_zero, List.set_cons_succ], BD,
    OF,
    CE,
    TX,
    F0,
    F1,
    F2,
    Lib.hid fun h => rfl,
    Lib.hid fun _ => rfl,
    F5,
    F6,
    F7,
    F8,
    F9,
    F10,
    F11,
    F12⟩
                    refine StepsI.cons ?stMarkJ05 ?moMarkJ05
                    case stMarkJ05 =>
                      rintro d a9 w1 ⟨v76, v77, v78, v79, v80, v81, v82, v83, v84, v85, v86, v87, k2, a2, j2, c2, x2, m2, ea, BD, OF, CE, TX, F0, F1, F2, F3, F4, F5, F6, F7, F8, F9, F10, F11, F12⟩ hd hA K hK
                      subst ea
                      simp [Aft, Region.binds] at hA
                      have HD4 := Lib.hid (show d 4 = true by simp [hA])
                      clear hA
                      simp only [puts, List.foldl, Act.put, List.setIfInBounds_toArray, List.set_cons_zero, List.set_cons_succ]
                      have E4 := F4.out HD4.out
                      rw [E4]
                      clear E4
                      have HHd := Lib.hid hd
                      clear hd
                      have c0 := CE.out.2.1
                      have c1 := CE.out.2.2.1
                      have hge := CE.out.1
                      go_simp
                      refine hK _ _ ?_
                      exact ⟨v76, v77, v78, v79, v80, (.pointer (some ⟨g, i * 3, none⟩)), (.int .i64 (ix : Int)), v83, v84, v85, v86, v87, k2, a2, j2, c2, x2, m2, by simp only [puts, List.foldl, Act.put, List.setIfInBounds_toArray, List.set_cons_zero, List.set_cons_succ], BD,
    OF,
    CE,
    TX,
    F0,
    F1,
    F2,
    F3,
    Lib.hid fun h => rfl,
    Lib.hid fun _ => rfl,
    F6,
    F7,
    Lib.hid fun h => absurd ((F8.out h).2.1) (by rw [HHd.out]; decide),
    F9,
    F10,
    F11,
    F12⟩
                    refine StepsI.cons ?stMarkJ06 ?moMarkJ06
                    case stMarkJ06 =>
                      rintro d a9 w1 ⟨v76, v77, v78, v79, v80, v81, v82, v83, v84, v85, v86, v87, k2, a2, j2, c2, x2, m2, ea, BD, OF, CE, TX, F0, F1, F2, F3, F4, F5, F6, F7, F8, F9, F10, F11, F12⟩ hd hA K hK
                      subst ea
                      clear hA
                      simp only [puts, List.foldl, Act.put, List.setIfInBounds_toArray, List.set_cons_zero, List.set_cons_succ]
                      have HHd := Lib.hid hd
                      clear hd
                      go_simp
                      refine hK _ _ ?_
                      exact ⟨v76, v77, v78, v79, v80, v81, v82, (.int .i64 0), v84, v85, v86, v87, k2, a2, j2, c2, x2, m2, by simp only [puts, List.foldl, Act.put, List.setIfInBounds_toArray, List.set_cons_zero, List.set_cons_succ], BD,
    OF,
    CE,
    TX,
    F0,
    F1,
    F2,
    F3,
    F4,
    F5,
    Lib.hid fun _ => rfl,
    F7,
    F8,
    F9,
    F10,
    F11,
    F12⟩
                    refine StepsI.cons ?stMarkJ07 ?moMarkJ07
                    case stMarkJ07 =>
                      rintro d a9 w1 ⟨v76, v77, v78, v79, v80, v81, v82, v83, v84, v85, v86, v87, k2, a2, j2, c2, x2, m2, ea, BD, OF, CE, TX, F0, F1, F2, F3, F4, F5, F6, F7, F8, F9, F10, F11, F12⟩ hd hA K hK
                      subst ea
                      simp [Aft, Region.binds] at hA
                      have HD6 := Lib.hid (show d 6 = true by simp [hA])
                      clear hA
                      simp only [puts, List.foldl, Act.put, List.setIfInBounds_toArray, List.set_cons_zero, List.set_cons_succ]
                      have E6 := F6.out HD6.out
                      rw [E6]
                      clear E6
                      have HHd := Lib.hid hd
                      clear hd
                      go_simp
                      refine hK _ _ ?_
                      exact ⟨v76, v77, v78, v79, v80, v81, v82, (.int .i64 0), (.int .i64 1), v85, v86, v87, k2, a2, j2, c2, x2, m2, by simp only [puts, List.foldl, Act.put, List.setIfInBounds_toArray, List.set_cons_zero, List.set_cons_succ] <;> rfl, BD,
    OF,
    CE,
    TX,
    F0,
    F1,
    F2,
    F3,
    F4,
    F5,
    Lib.hid fun h => rfl,
    Lib.hid fun _ => rfl,
    Lib.hid fun h => absurd ((F8.out h).2.2.1) (by rw [HHd.out]; decide),
    F9,
    F10,
    F11,
    F12⟩
                    refine StepsI.cons ?stMarkJ08 ?moMarkJ08
                    case stMarkJ08 =>
                      rintro d a9 w1 ⟨v76, v77, v78, v79, v80, v81, v82, v83, v84, v85, v86, v87, k2, a2, j2, c2, x2, m2, ea, BD, OF, CE, TX, F0, F1, F2, F3, F4, F5, F6, F7, F8, F9, F10, F11, F12⟩ hd hA K hK
                      subst ea
                      simp [Aft, Region.binds] at hA
                      have HD0 := Lib.hid (show d 0 = true by simp [hA])
                      have HD5 := Lib.hid (show d 5 = true by simp [hA])
                      have HD7 := Lib.hid (show d 7 = true by simp [hA])
                      clear hA
                      simp only [puts, List.foldl, Act.put, List.setIfInBounds_toArray, List.set_cons_zero, List.set_cons_succ]
                      have E0 := F0.out HD0.out
                      rw [E0]
                      clear E0
                      have E5 := F5.out HD5.out
                      rw [E5]
                      clear E5
                      have E7 := F7.out HD7.out
                      rw [E7]
                      clear E7
                      have HHd := Lib.hid hd
                      clear hd
                      go_simp
                      go_wp2_with (go_at_call 30; (with_reducible refine (mark_ok k F _ _ _ 1 ix _ _ TX.out hix (by decide) HPOS.out).mono ?_); rintro e w2 ⟨k9, s9, x9, m9, rfl, n9, g2⟩)
                      obtain ⟨a9, j9, c9, rfl⟩ := n9.node.slice
                      rw [HF2.out] at n9
                      exact ⟨v76, (treeV k (.slice ao jo co) xo mo), v78, v79, v80, v81, (.int .i64 (ix : Int)), v83, (.int .i64 1), (.tuple #[treeV k9 (.slice a9 j9 c9) x9 m9, .int .i64 0]), v86, v87, k9, a9, j9, c9, x9, m9, by simp only [puts, List.foldl, Act.put, List.setIfInBounds_toArray, List.set_cons_zero, List.set_cons_succ], ((HBd.out _ BD).1 _ g2),
    (Lib.hid fun h => (OF.out h).grew g2),
    (Lib.hid (CE.out.grew g2)),
    (Lib.hid (TX.out.grew g2)),
    Lib.hid fun h => rfl,
    F1,
    F2,
    F3,
    F4,
    Lib.hid fun h => rfl,
    F6,
    Lib.hid fun h => rfl,
    Lib.hid fun _ => ⟨HD0.out, HD5.out, HD7.out, rfl, n9.mono (fun c hc _ => HQ.out c (by have hc : w1.heap.size ≤ c := hc; have := (HBd.out _ BD).2; omega))⟩,
    Lib.hid fun h => absurd ((F9.out h).1) (by rw [HHd.out]; decide),
    Lib.hid fun h => absurd ((F9.out (F10.out h).1).1) (by rw [HHd.out]; decide),
    F11,
    Lib.hid fun h => absurd ((F9.out (F10.out (F12.out h).1).1).1) (by rw [HHd.out]; decide)⟩
                    refine StepsI.cons ?stMarkJ09 ?moMarkJ09
                    case stMarkJ09 =>
                      rintro d a9 w1 ⟨v76, v77, v78, v79, v80, v81, v82, v83, v84, v85, v86, v87, k2, a2, j2, c2, x2, m2, ea, BD, OF, CE, TX, F0, F1, F2, F3, F4, F5, F6, F7, F8, F9, F10, F11, F12⟩ hd hA K hK
                      subst ea
                      simp [Aft, Region.binds] at hA
                      have HD8 := Lib.hid (show d 8 = true by simp [hA])
                      clear hA
                      simp only [puts, List.foldl, Act.put, List.setIfInBounds_toArray, List.set_cons_zero, List.set_cons_succ]
                      have E8 := F8.out HD8.out
                      rw [E8.2.2.2.1]
                      clear E8
                      have HHd := Lib.hid hd
                      clear hd
                      go_simp
                      refine hK _ _ ?_
                      exact ⟨(.tuple #[treeV k2 (.slice a2 j2 c2) x2 m2, .int .i64 0]), v77, v78, v79, v80, v81, v82, v83, v84, (.tuple #[treeV k2 (.slice a2 j2 c2) x2 m2, .int .i64 0]), v86, v87, k2, a2, j2, c2, x2, m2, by simp only [puts, List.foldl, Act.put, List.setIfInBounds_toArray, List.set_cons_zero, List.set_cons_succ], BD,
    OF,
    CE,
    TX,
    F0,
    F1,
    F2,
    F3,
    F4,
    F5,
    F6,
    F7,
    Lib.hid fun h => ⟨(F8.out h).1, (F8.out h).2.1, (F8.out h).2.2.1, rfl, (F8.out h).2.2.2.2⟩,
    Lib.hid fun _ => ⟨HD8.out, rfl⟩,
    Lib.hid fun h => absurd ((F10.out h).1) (by rw [HHd.out]; decide),
    F11,
    F12⟩
                    refine StepsI.cons ?stMarkJ010 ?moMarkJ010
                    case stMarkJ010 =>
                      rintro d a9 w1 ⟨v76, v77, v78, v79, v80, v81, v82, v83, v84, v85, v86, v87, k2, a2, j2, c2, x2, m2, ea, BD, OF, CE, TX, F0, F1, F2, F3, F4, F5, F6, F7, F8, F9, F10, F11, F12⟩ hd hA K hK
                      subst ea
                      simp [Aft, Region.binds] at hA
                      have HD9 := Lib.hid (show d 9 = true by simp [hA])
                      clear hA
                      simp only [puts, List.foldl, Act.put, List.setIfInBounds_toArray, List.set_cons_zero, List.set_cons_succ]
                      have E9 := F9.out HD9.out
                      rw [E9.2]
                      clear E9
                      have HHd := Lib.hid hd
                      clear hd
                      go_simp
                      refine hK _ _ ?_
                      exact ⟨(.tuple #[treeV k2 (.slice a2 j2 c2) x2 m2, .int .i64 0]), v77, v78, v79, v80, v81, v82, v83, v84, v85, (treeV k2 (.slice a2 j2 c2) x2 m2), v87, k2, a2, j2, c2, x2, m2, by simp only [puts, List.foldl, Act.put, List.setIfInBounds_toArray, List.set_cons_zero, List.set_cons_succ], BD,
    OF,
    CE,
    TX,
    F0,
    F1,
    F2,
    F3,
    F4,
    F5,
    F6,
    F7,
    F8,
    Lib.hid fun h => ⟨(F9.out h).1, rfl⟩,
    Lib.hid fun _ => ⟨HD9.out, rfl⟩,
    F11,
    Lib.hid fun h => absurd ((F12.out h).1) (by rw [HHd.out]; decide)⟩
                    refine StepsI.cons ?stMarkJ011 ?moMarkJ011
                    case stMarkJ011 =>
                      rintro d a9 w1 ⟨v76, v77, v78, v79, v80, v81, v82, v83, v84, v85, v86, v87, k2, a2, j2, c2, x2, m2, ea, BD, OF, CE, TX, F0, F1, F2, F3, F4, F5, F6, F7, F8, F9, F10, F11, F12⟩ hd hA K hK
                      subst ea
                      simp [Aft, Region.binds] at hA
                      have HD9 := Lib.hid (show d 9 = true by simp [hA])
                      clear hA
                      simp only [puts, List.foldl, Act.put, List.setIfInBounds_toArray, List.set_cons_zero, List.set_cons_succ]
                      have E9 := F9.out HD9.out
                      rw [E9.2]
                      clear E9
                      have HHd := Lib.hid hd
                      clear hd
                      go_simp
                      refine hK _ _ ?_
                      exact ⟨(.tuple #[treeV k2 (.slice a2 j2 c2) x2 m2, .int .i64 0]), v77, v78, v79, v80, v81, v82, v83, v84, v85, v86, (.int .i64 0), k2, a2, j2, c2, x2, m2, by simp only [puts, List.foldl, Act.put, List.setIfInBounds_toArray, List.set_cons_zero, List.set_cons_succ], BD,
    OF,
    CE,
    TX,
    F0,
    F1,
    F2,
    F3,
    F4,
    F5,
    F6,
    F7,
    F8,
    Lib.hid fun h => ⟨(F9.out h).1, rfl⟩,
    F10,
    Lib.hid fun _ => rfl,
    F12⟩
                    refine StepsI.cons ?stMarkJ012 ?moMarkJ012
                    case stMarkJ012 =>
                      rintro d a9 w1 ⟨v76, v77, v78, v79, v80, v81, v82, v83, v84, v85, v86, v87, k2, a2, j2, c2, x2, m2, ea, BD, OF, CE, TX, F0, F1, F2, F3, F4, F5, F6, F7, F8, F9, F10, F11, F12⟩ hd hA K hK
                      subst ea
                      simp [Aft, Region.binds] at hA
                      have HD10 := Lib.hid (show d 10 = true by simp [hA])
                      clear hA
                      simp only [puts, List.foldl, Act.put, List.setIfInBounds_toArray, List.set_cons_zero, List.set_cons_succ]
                      have E10 := F10.out HD10.out
                      rw [E10.2]
                      clear E10
                      have HHd := Lib.hid hd
                      clear hd
                      have OX := OF.out HHd.out
                      have O4 := OX.four
                      have lX := OX.lt
                      go_simp
                      generalize hw3 : World.setCell (World.setCell (World.setCell (World.setCell _ _ _) _ _) _ _) _ _ = w3
                      have KQ3 : KeepQ Q w1 w3 := KeepQ.set4 hw3 HNQ.out
                      refine hK _ _ ?_
                      exact ⟨v76, v77, v78, v79, v80, v81, v82, v83, v84, v85, (treeV k2 (.slice a2 j2 c2) x2 m2), v87, k2, a2, j2, c2, x2, m2, by simp only [puts, List.foldl, Act.put, List.setIfInBounds_toArray, List.set_cons_zero, List.set_cons_succ], (HBs.out _ _ _ _ _ _ hw3 BD),
    (Lib.hid fun h => absurd h (by simp [upD])),
    (Lib.hid (CE.out.kq KQ3 HQg.out)),
    (Lib.hid (TX.out.kq KQ3)),
    F0,
    F1,
    F2,
    F3,
    F4,
    F5,
    F6,
    F7,
    Lib.hid fun h => ⟨(F8.out h).1, (F8.out h).2.1, (F8.out h).2.2.1, (F8.out h).2.2.2.1, ((F8.out h).2.2.2.2.kq KQ3)⟩,
    F9,
    Lib.hid fun h => ⟨(F10.out h).1, rfl⟩,
    F11,
    Lib.hid fun _ => ⟨HD10.out, own4 hw3 OX⟩⟩
                    exact StepsI.nil
              · rw [show ((1 : Nat) : Int) = 1 from rfl]
                have hc0 := CE.2.1
                have hc2 := CE.2.2.2
                have hge := CE.1
                have HCE := Lib.hid CE
                have HTX := Lib.hid TX
                have HBD := Lib.hid BD
                clear CE TX BD
                cases hb : (bits .and .i64 lm 2 != 0)
                · have HMM := Lib.hid (show mkTo lm 2 = mkTo lm 1 from by rw [HMK.out.2.1 _ hb]; rfl)
                  go_upto_region 15 with fail
                  go_quiet (fail)
                  revert nq; intro nq1
                  have BD2 := Lib.hid ((HBd.out _ HBD.out).1 _ ((Grew.refl _).drewN nq1))
                  have OX2 := OX.drewN nq1
                  have TX2 := Lib.hid (HTX.out.grew ((Grew.refl _).drewN nq1))
                  have CE2 := Lib.hid (HCE.out.grew ((Grew.refl _).drewN nq1))
                  clear hc0 hc2 hge HCE HTX HBD OX
                  generalize World.drewN _ nq1 = w30 at *
                  go_wp2_with fail
                  go_roundw
                  case rel => exact ⟨2, _, _, _, _, _, _, by go_num, by omega, OX2, by rw [HMM.out]; exact TX2.out, BD2.out, CE2.out⟩
                  case measure => simp [intOf]
                · have HMM := Lib.hid (show mkTo lm 2 = orI (mkTo lm 1) 2 from by rw [HMK.out.2.1 _ hb]; rfl)
                  have hpos : 0 < lv := by
                    rcases Int.lt_or_le 0 lv with h1 | h1
                    · exact h1
                    · have h2 := HGD.out.2.2.2 h1
                      rw [h2] at hb
                      exact absurd hb (by decide +kernel)
                  have HPOS0 := Lib.hid hpos
                  clear hpos
                  go_upto_region 15 with fail
                  go_quiet (fail)
                  revert nq; intro nq1
                  have BD2 := Lib.hid ((HBd.out _ HBD.out).1 _ ((Grew.refl _).drewN nq1))
                  have OX2 := OX.drewN nq1
                  have TX2 := Lib.hid (HTX.out.grew ((Grew.refl _).drewN nq1))
                  have CE2 := Lib.hid (HCE.out.grew ((Grew.refl _).drewN nq1))
                  clear hc0 hc2 hge HCE HTX HBD OX
                  generalize World.drewN _ nq1 = w30 at *
                  obtain ⟨FO, hFO⟩ : ∃ FO, F = FO := ⟨_, rfl⟩
                  rw [hFO] at TX2
                  have HFO := Lib.hid hFO
                  clear hFO
                  obtain ⟨F, hF⟩ : ∃ F, updG FO ix (lv, mkTo lm 1) = F := ⟨_, rfl⟩
                  rw [hF] at TX2
                  have HPOS := Lib.hid (show 0 < (F ix).1 from by rw [← hF, updG, if_pos rfl]; exact HPOS0.out)
                  obtain ⟨F2, hF2⟩ : ∃ F2, updG F ix ((F ix).1, orI (F ix).2 2) = F2 := ⟨_, rfl⟩
                  have HF2 := Lib.hid hF2
                  have HF3 := Lib.hid (show F2 = updG FO ix (lv, mkTo lm 2) from by rw [← hF2, ← hF, upd_upd, HMM.out, updG, if_pos rfl])
                  have OXa := OX2
                  have TXa := TX2.out
                  have BDa := BD2.out
                  have CEa := CE2.out
                  clear OX2 TX2 BD2 CE2 hF hF2
                  go_upto_region 16 with fail
                  refine wp_region_inv (J0 := MarkJ1 Bd Q PX n g cr i ix lv lm k ao jo co xo mo F F2) (by kernel_rfl) (by kernel_rfl) ?inv0MarkJ1 ?invSMarkJ1 ?invEMarkJ1
                  case inv0MarkJ1 =>
                    exact ⟨_, _, _, _, _, _, _, _, _, _, _, _, 0, none, 0, 0, 0, 0, puts_self [76, 77, 78, 79, 80, 81, 82, 83, 84, 85, 86, 87] _, ((HBd.out _ BDa).1 _ (Grew.refl _).drew), (Lib.hid fun _ => OXa.drew), (Lib.hid (CEa.grew (Grew.refl _).drew)), (Lib.hid (TXa.grew (Grew.refl _).drew)), Lib.hid fun h => absurd h (by decide), Lib.hid fun h => absurd h (by decide), Lib.hid fun h => absurd h (by decide), Lib.hid fun h => absurd h (by decide), Lib.hid fun h => absurd h (by decide), Lib.hid fun h => absurd h (by decide), Lib.hid fun h => absurd h (by decide), Lib.hid fun h => absurd h (by decide), Lib.hid fun h => absurd h (by decide), Lib.hid fun h => absurd h (by decide), Lib.hid fun h => absurd h (by decide), Lib.hid fun h => absurd h (by decide), Lib.hid fun h => absurd h (by decide)⟩
                  case invEMarkJ1 =>
                    rintro a9 w9 ⟨v76, v77, v78, v79, v80, v81, v82, v83, v84, v85, v86, v87, k2, a2, j2, c2, x2, m2, rfl, BD, OF, CE, TX, F0, F1, F2, F3, F4, F5, F6, F7, F8, F9, F10, F11, F12⟩
                    have OX2 := (F12.out (by decide)).2
                    have TX2 := Lib.hid (F8.out (by decide)).2.2.2.2
                    clear F0 F1 F2 F3 F4 F5 F6 F7 F8 F9 F10 F11 F12 OF TX BDa CEa TXa OXa
                    simp only [puts, List.foldl, Act.put, List.setIfInBounds_toArray, List.set_cons_zero, List.set_cons_succ]
                    have BD2 := Lib.hid BD
                    have CE2 := CE
                    clear BD CE
                    rw [HF3.out, ← HFO.out] at TX2
                    go_wp2_with fail
                    go_roundw
                    case rel => exact ⟨2, _, _, _, _, _, _, by go_num, by omega, OX2, TX2.out, BD2.out, CE2.out⟩
                    case measure => simp [intOf]
                  case invSMarkJ1 =>
                    refine StepsI.cons ?stMarkJ10 ?moMarkJ10
                    case stMarkJ10 =>
                      rintro d a9 w1 ⟨v76, v77, v78, v79, v80, v81, v82, v83, v84, v85, v86, v87, k2, a2, j2, c2, x2, m2, ea, BD, OF, CE, TX, F0, F1, F2, F3, F4, F5, F6, F7, F8, F9, F10, F11, F12⟩ hd hA K hK
                      subst ea
                      clear hA
                      simp only [puts, List.foldl, Act.put, List.setIfInBounds_toArray, List.set_cons_zero, List.set_cons_succ]
                      have HHd := Lib.hid hd
                      clear hd
                      have NN : d 12 = false := by cases h : d 12 with | false => rfl | true => exact absurd (F8.out (F9.out (F10.out (F12.out h).1).1).1).1 (by rw [HHd.out]; decide)
                      have OX := OF.out NN
                      have O4 := OX.four
                      have lX := OX.lt
                      clear NN OX
                      go_simp
                      refine hK _ _ ?_
                      exact ⟨v76, (treeV k (.slice ao jo co) xo mo), v78, v79, v80, v81, v82, v83, v84, v85, v86, v87, k2, a2, j2, c2, x2, m2, by simp only [puts, List.foldl, Act.put, List.setIfInBounds_toArray, List.set_cons_zero, List.set_cons_succ], BD,
    OF,
    CE,
    TX,
    Lib.hid fun _ => rfl,
    F1,
    F2,
    F3,
    F4,
    F5,
    F6,
    F7,
    Lib.hid fun h => absurd ((F8.out h).1) (by rw [HHd.out]; decide),
    F9,
    F10,
    F11,
    F12⟩
                    refine StepsI.cons ?stMarkJ11 ?moMarkJ11
                    case stMarkJ11 =>
                      rintro d a9 w1 ⟨v76, v77, v78, v79, v80, v81, v82, v83, v84, v85, v86, v87, k2, a2, j2, c2, x2, m2, ea, BD, OF, CE, TX, F0, F1, F2, F3, F4, F5, F6, F7, F8, F9, F10, F11, F12⟩ hd hA K hK
                      subst ea
                      clear hA
                      simp only [puts, List.foldl, Act.put, List.setIfInBounds_toArray, List.set_cons_zero, List.set_cons_succ]
                      have HHd := Lib.hid hd
                      clear hd
                      go_simp
                      refine hK _ _ ?_
                      exact ⟨v76, v77, (.slice (some ⟨g, 0, none⟩) n cr), v79, v80, v81, v82, v83, v84, v85, v86, v87, k2, a2, j2, c2, x2, m2, by simp only [puts, List.foldl, Act.put, List.setIfInBounds_toArray, List.set_cons_zero, List.set_cons_succ], BD,
    OF,
    CE,
    TX,
    F0,
    Lib.hid fun _ => rfl,
    F2,
    F3,
    F4,
    F5,
    F6,
    F7,
    F8,
    F9,
    F10,
    F11,
    F12⟩
                    refine StepsI.cons ?stMarkJ12 ?moMarkJ12
                    case stMarkJ12 =>
                      rintro d a9 w1 ⟨v76, v77, v78, v79, v80, v81, v82, v83, v84, v85, v86, v87, k2, a2, j2, c2, x2, m2, ea, BD, OF, CE, TX, F0, F1, F2, F3, F4, F5, F6, F7, F8, F9, F10, F11, F12⟩ hd hA K hK
                      subst ea
                      clear hA
                      simp only [puts, List.foldl, Act.put, List.setIfInBounds_toArray, List.set_cons_zero, List.set_cons_succ]
                      have HHd := Lib.hid hd
                      clear hd
                      go_simp
                      refine hK _ _ ?_
                      exact ⟨v76, v77, v78, (.int .i64 (i : Int)), v80, v81, v82, v83, v84, v85, v86, v87, k2, a2, j2, c2, x2, m2, by simp only [puts, List.foldl, Act.put, List.setIfInBounds_toArray, List.set_cons_zero, List.set_cons_succ], BD,
    OF,
    CE,
    TX,
    F0,
    F1,
    Lib.hid fun _ => rfl,
    F3,
    F4,
    F5,
    F6,
    F7,
    F8,
    F9,
    F10,
    F11,
    F12⟩
                    refine StepsI.cons ?stMarkJ13 ?moMarkJ13
                    case stMarkJ13 =>
                      rintro d a9 w1 ⟨v76, v77, v78, v79, v80, v81, v82, v83, v84, v85, v86, v87, k2, a2, j2, c2, x2, m2, ea, BD, OF, CE, TX, F0, F1, F2, F3, F4, F5, F6, F7, F8, F9, F10, F11, F12⟩ hd hA K hK
                      subst ea
                      simp [Aft, Region.binds] at hA
                      have HD1 := Lib.hid (show d 1 = true by simp [hA])
                      have HD2 := Lib.hid (show d 2 = true by simp [hA])
                      clear hA
                      simp only [puts, List.foldl, Act.put, List.setIfInBounds_toArray, List.set_cons_zero, List.set_cons_succ]
                      have E1 := F1.out HD1.out
                      rw [E1]
                      clear E1
                      have E2 := F2.out HD2.out
                      rw [E2]
                      clear E2
                      have HHd := Lib.hid hd
                      clear hd
                      go_simp
                      refine hK _ _ ?_
                      exact ⟨v76, v77, (.slice (some ⟨g, 0, none⟩) n cr), (.int .i64 (i : Int)), (.pointer (some ⟨g, i * 3, none⟩)), v81, v82, v83, v84, v85, v86, v87, k2, a2, j2, c2, x2, m2, by simp only [puts, List.foldl, Act.put, List.setIfInBounds_toArray, List.set_cons_zero, List.set_cons_succ], BD,
    OF,
    CE,
    TX,
    F0,
    Lib.hid fun h => rfl,
    Lib.hid fun h => rfl,
    Lib.hid fun _ => rfl,
    F4,
    F5,
    F6,
    F7,
    F8,
    F9,
    F10,
    F11,
    F12⟩
                    refine StepsI.cons ?stMarkJ14 ?moMarkJ14
                    case stMarkJ14 =>
                      rintro d a9 w1 ⟨v76, v77, v78, v79, v80, v81, v82, v83, v84, v85, v86, v87, k2, a2, j2, c2, x2, m2, ea, BD, OF, CE, TX, F0, F1, F2, F3, F4, F5, F6, F7, F8, F9, F10, F11, F12⟩ hd hA K hK
                      subst ea
                      simp [Aft, Region.binds] at hA
                      have HD3 := Lib.hid (show d 3 = true by simp [hA])
                      clear hA
                      simp only [puts, List.foldl, Act.put, List.setIfInBounds_toArray, List.set_cons_zero, List.set_cons_succ]
                      have E3 := F3.out HD3.out
                      rw [E3]
                      clear E3
                      have HHd := Lib.hid hd
                      clear hd
                      go_simp
                      refine hK _ _ ?_
                      exact ⟨v76, v77, v78, v79, (.pointer (some ⟨g, i * 3, none⟩)), (.pointer (some ⟨g, i * 3, none⟩)), v82, v83, v84, v85, v86, v87, k2, a2, j2, c2, x2, m2, by simp only [puts, List.foldl, Act.put, List.setIfInBounds_toArray, List.set_cons_zero, List.set_cons_succ], BD,
    OF,
    CE,
    TX,
    F0,
    F1,
    F2,
    Lib.hid fun h => rfl,
    Lib.hid fun _ => rfl,
    F5,
    F6,
    F7,
    F8,
    F9,
    F10,
    F11,
    F12⟩
                    refine StepsI.cons ?stMarkJ15 ?moMarkJ15
                    case stMarkJ15 =>
                      rintro d a9 w1 ⟨v76, v77, v78, v79, v80, v81, v82, v83, v84, v85, v86, v87, k2, a2, j2, c2, x2, m2, ea, BD, OF, CE, TX, F0, F1, F2, F3, F4, F5, F6, F7, F8, F9, F10, F11, F12⟩ hd hA K hK
                      subst ea
                      simp [Aft, Region.binds] at hA
                      have HD4 := Lib.hid (show d 4 = true by simp [hA])
                      clear hA
                      simp only [puts, List.foldl, Act.put, List.setIfInBounds_toArray, List.set_cons_zero, List.set_cons_succ]
                      have E4 := F4.out HD4.out
                      rw [E4]
                      clear E4
                      have HHd := Lib.hid hd
                      clear hd
                      have c0 := CE.out.2.1
                      have c1 := CE.out.2.2.1
                      have hge := CE.out.1
                      go_simp
                      refine hK _ _ ?_
                      exact ⟨v76, v77, v78, v79, v80, (.pointer (some ⟨g, i * 3, none⟩)), (.int .i64 (ix : Int)), v83, v84, v85, v86, v87, k2, a2, j2, c2, x2, m2, by simp only [puts, List.foldl, Act.put, List.setIfInBounds_toArray, List.set_cons_zero, List.set_cons_succ], BD,
    OF,
    CE,
    TX,
    F0,
    F1,
    F2,
    F3,
    Lib.hid fun h => rfl,
    Lib.hid fun _ => rfl,
    F6,
    F7,
    Lib.hid fun h => absurd ((F8.out h).2.1) (by rw [HHd.out]; decide),
    F9,
    F10,
    F11,
    F12⟩
                    refine StepsI.cons ?stMarkJ16 ?moMarkJ16
                    case stMarkJ16 =>
                      rintro d a9 w1 ⟨v76, v77, v78, v79, v80, v81, v82, v83, v84, v85, v86, v87, k2, a2, j2, c2, x2, m2, ea, BD, OF, CE, TX, F0, F1, F2, F3, F4, F5, F6, F7, F8, F9, F10, F11, F12⟩ hd hA K hK
                      subst ea
                      clear hA
                      simp only [puts, List.foldl, Act.put, List.setIfInBounds_toArray, List.set_cons_zero, List.set_cons_succ]
                      have HHd := Lib.hid hd
                      clear hd
                      go_simp
                      refine hK _ _ ?_
                      exact ⟨v76, v77, v78, v79, v80, v81, v82, (.int .i64 1), v84, v85, v86, v87, k2, a2, j2, c2, x2, m2, by simp only [puts, List.foldl, Act.put, List.setIfInBounds_toArray, List.set_cons_zero, List.set_cons_succ], BD,
    OF,
    CE,
    TX,
    F0,
    F1,
    F2,
    F3,
    F4,
    F5,
    Lib.hid fun _ => rfl,
    F7,
    F8,
    F9,
    F10,
    F11,
    F12⟩
                    refine StepsI.cons ?stMarkJ17 ?moMarkJ17
                    case stMarkJ17 =>
                      rintro d a9 w1 ⟨v76, v77, v78, v79, v80, v81, v82, v83, v84, v85, v86, v87, k2, a2, j2, c2, x2, m2, ea, BD, OF, CE, TX, F0, F1, F2, F3, F4, F5, F6, F7, F8, F9, F10, F11, F12⟩ hd hA K hK
                      subst ea
                      simp [Aft, Region.binds] at hA
                      have HD6 := Lib.hid (show d 6 = true by simp [hA])
                      clear hA
                      simp only [puts, List.foldl, Act.put, List.setIfInBounds_toArray, List.set_cons_zero, List.set_cons_succ]
                      have E6 := F6.out HD6.out
                      rw [E6]
                      clear E6
                      have HHd := Lib.hid hd
                      clear hd
                      go_simp
                      refine hK _ _ ?_
                      exact ⟨v76, v77, v78, v79, v80, v81, v82, (.int .i64 1), (.int .i64 2), v85, v86, v87, k2, a2, j2, c2, x2, m2, by simp only [puts, List.foldl, Act.put, List.setIfInBounds_toArray, List.set_cons_zero, List.set_cons_succ] <;> rfl, BD,
    OF,
    CE,
    TX,
    F0,
    F1,
    F2,
    F3,
    F4,
    F5,
    Lib.hid fun h => rfl,
    Lib.hid fun _ => rfl,
    Lib.hid fun h => absurd ((F8.out h).2.2.1) (by rw [HHd.out]; decide),
    F9,
    F10,
    F11,
    F12⟩
                    refine StepsI.cons ?stMarkJ18 ?moMarkJ18
                    case stMarkJ18 =>
                      rintro d a9 w1 ⟨v76, v77, v78, v79, v80, v81, v82, v83, v84, v85, v86, v87, k2, a2, j2, c2, x2, m2, ea, BD, OF, CE, TX, F0, F1, F2, F3, F4, F5, F6, F7, F8, F9, F10, F11, F12⟩ hd hA K hK
                      subst ea
                      simp [Aft, Region.binds] at hA
                      have HD0 := Lib.hid (show d 0 = true by simp [hA])
                      have HD5 := Lib.hid (show d 5 = true by simp [hA])
                      have HD7 := Lib.hid (show d 7 = true by simp [hA])
                      clear hA
                      simp only [puts, List.foldl, Act.put, List.setIfInBounds_toArray, List.set_cons_zero, List.set_cons_succ]
                      have E0 := F0.out HD0.out
                      rw [E0]
                      clear E0
                      have E5 := F5.out HD5.out
                      rw [E5]
                      clear E5
                      have E7 := F7.out HD7.out
                      rw [E7]
                      clear E7
                      have HHd := Lib.hid hd
                      clear hd
                      go_simp
                      go_wp2_with (go_at_call 30; (with_reducible refine (mark_ok k F _ _ _ 2 ix _ _ TX.out hix (by decide) HPOS.out).mono ?_); rintro e w2 ⟨k9, s9, x9, m9, rfl, n9, g2⟩)
                      obtain ⟨a9, j9, c9, rfl⟩ := n9.node.slice
                      rw [HF2.out] at n9
                      exact ⟨v76, (treeV k (.slice ao jo co) xo mo), v78, v79, v80, v81, (.int .i64 (ix : Int)), v83, (.int .i64 2), (.tuple #[treeV k9 (.slice a9 j9 c9) x9 m9, .int .i64 0]), v86, v87, k9, a9, j9, c9, x9, m9, by simp only [puts, List.foldl, Act.put, List.setIfInBounds_toArray, List.set_cons_zero, List.set_cons_succ], ((HBd.out _ BD).1 _ g2),
    (Lib.hid fun h => (OF.out h).grew g2),
    (Lib.hid (CE.out.grew g2)),
    (Lib.hid (TX.out.grew g2)),
    Lib.hid fun h => rfl,
    F1,
    F2,
    F3,
    F4,
    Lib.hid fun h => rfl,
    F6,
    Lib.hid fun h => rfl,
    Lib.hid fun _ => ⟨HD0.out, HD5.out, HD7.out, rfl, n9.mono (fun c hc _ => HQ.out c (by have hc : w1.heap.size ≤ c := hc; have := (HBd.out _ BD).2; omega))⟩,
    Lib.hid fun h => absurd ((F9.out h).1) (by rw [HHd.out]; decide),
    Lib.hid fun h => absurd ((F9.out (F10.out h).1).1) (by rw [HHd.out]; decide),
    F11,
    Lib.hid fun h => absurd ((F9.out (F10.out (F12.out h).1).1).1) (by rw [HHd.out]; decide)⟩
                    refine StepsI.cons ?stMarkJ19 ?moMarkJ19
                    case stMarkJ19 =>
                      rintro d a9 w1 ⟨v76, v77, v78, v79, v80, v81, v82, v83, v84, v85, v86, v87, k2, a2, j2, c2, x2, m2, ea, BD, OF, CE, TX, F0, F1, F2, F3, F4, F5, F6, F7, F8, F9, F10, F11, F12⟩ hd hA K hK
                      subst ea
                      simp [Aft, Region.binds] at hA
                      have HD8 := Lib.hid (show d 8 = true by simp [hA])
                      clear hA
                      simp only [puts, List.foldl, Act.put, List.setIfInBounds_toArray, List.set_cons_zero, List.set_cons_succ]
                      have E8 := F8.out HD8.out
                      rw [E8.2.2.2.1]
                      clear E8
                      have HHd := Lib.hid hd
                      clear hd
                      go_simp
                      refine hK _ _ ?_
                      exact ⟨(.tuple #[treeV k2 (.slice a2 j2 c2) x2 m2, .int .i64 0]), v77, v78, v79, v80, v81, v82, v83, v84, (.tuple #[treeV k2 (.slice a2 j2 c2) x2 m2, .int .i64 0]), v86, v87, k2, a2, j2, c2, x2, m2, by simp only [puts, List.foldl, Act.put, List.setIfInBounds_toArray, List.set_cons_zero, List.set_cons_succ], BD,
    OF,
    CE,
    TX,
    F0,
    F1,
    F2,
    F3,
    F4,
    F5,
    F6,
    F7,
    Lib.hid fun h => ⟨(F8.out h).1, (F8.out h).2.1, (F8.out h).2.2.1, rfl, (F8.out h).2.2.2.2⟩,
    Lib.hid fun _ => ⟨HD8.out, rfl⟩,
    Lib.hid fun h => absurd ((F10.out h).1) (by rw [HHd.out]; decide),
    F11,
    F12⟩
                    refine StepsI.cons ?stMarkJ110 ?moMarkJ110
                    case stMarkJ110 =>
                      rintro d a9 w1 ⟨v76, v77, v78, v79, v80, v81, v82, v83, v84, v85, v86, v87, k2, a2, j2, c2, x2, m2, ea, BD, OF, CE, TX, F0, F1, F2, F3, F4, F5, F6, F7, F8, F9, F10, F11, F12⟩ hd hA K hK
                      subst ea
                      simp [Aft, Region.binds] at hA
                      have HD9 := Lib.hid (show d 9 = true by simp [hA])
                      clear hA
                      simp only [puts, List.foldl, Act.put, List.setIfInBounds_toArray, List.set_cons_zero, List.set_cons_succ]
                      have E9 := F9.out HD9.out
                      rw [E9.2]
                      clear E9
                      have HHd := Lib.hid hd
                      clear hd
                      go_simp
                      refine hK _ _ ?_
                      exact ⟨(.tuple #[treeV k2 (.slice a2 j2 c2) x2 m2, .int .i64 0]), v77, v78, v79, v80, v81, v82, v83, v84, v85, (treeV k2 (.slice a2 j2 c2) x2 m2), v87, k2, a2, j2, c2, x2, m2, by simp only [puts, List.foldl, Act.put, List.setIfInBounds_toArray, List.set_cons_zero, List.set_cons_succ], BD,
    OF,
    CE,
    TX,
    F0,
    F1,
    F2,
    F3,
    F4,
    F5,
    F6,
    F7,
    F8,
    Lib.hid fun h => ⟨(F9.out h).1, rfl⟩,
    Lib.hid fun _ => ⟨HD9.out, rfl⟩,
    F11,
    Lib.hid fun h => absurd ((F12.out h).1) (by rw [HHd.out]; decide)⟩
                    refine StepsI.cons ?stMarkJ111 ?moMarkJ111
                    case stMarkJ111 =>
                      rintro d a9 w1 ⟨v76, v77, v78, v79, v80, v81, v82, v83, v84, v85, v86, v87, k2, a2, j2, c2, x2, m2, ea, BD, OF, CE, TX, F0, F1, F2, F3, F4, F5, F6, F7, F8, F9, F10, F11, F12⟩ hd hA K hK
                      subst ea
                      simp [Aft, Region.binds] at hA
                      have HD9 := Lib.hid (show d 9 = true by simp [hA])
                      clear hA
                      simp only [puts, List.foldl, Act.put, List.setIfInBounds_toArray, List.set_cons_zero, List.set_cons_succ]
                      have E9 := F9.out HD9.out
                      rw [E9.2]
                      clear E9
                      have HHd := Lib.hid hd
                      clear hd
                      go_simp
                      refine hK _ _ ?_
                      exact ⟨(.tuple #[treeV k2 (.slice a2 j2 c2) x2 m2, .int .i64 0]), v77, v78, v79, v80, v81, v82, v83, v84, v85, v86, (.int .i64 0), k2, a2, j2, c2, x2, m2, by simp only [puts, List.foldl, Act.put, List.setIfInBounds_toArray, List.set_cons_zero, List.set_cons_succ], BD,
    OF,
    CE,
    TX,
    F0,
    F1,
    F2,
    F3,
    F4,
    F5,
    F6,
    F7,
    F8,
    Lib.hid fun h => ⟨(F9.out h).1, rfl⟩,
    F10,
    Lib.hid fun _ => rfl,
    F12⟩
                    refine StepsI.cons ?stMarkJ112 ?moMarkJ112
                    case stMarkJ112 =>
                      rintro d a9 w1 ⟨v76, v77, v78, v79, v80, v81, v82, v83, v84, v85, v86, v87, k2, a2, j2, c2, x2, m2, ea, BD, OF, CE, TX, F0, F1, F2, F3, F4, F5, F6, F7, F8, F9, F10, F11, F12⟩ hd hA K hK
                      subst ea
                      simp [Aft, Region.binds] at hA
                      have HD10 := Lib.hid (show d 10 = true by simp [hA])
                      clear hA
                      simp only [puts, List.foldl, Act.put, List.setIfInBounds_toArray, List.set_cons_zero, List.set_cons_succ]
                      have E10 := F10.out HD10.out
                      rw [E10.2]
                      clear E10
                      have HHd := Lib.hid hd
                      clear hd
                      have OX := OF.out HHd.out
                      have O4 := OX.four
                      have lX := OX.lt
                      go_simp
                      generalize hw3 : World.setCell (World.setCell (World.setCell (World.setCell _ _ _) _ _) _ _) _ _ = w3
                      have KQ3 : KeepQ Q w1 w3 := KeepQ.set4 hw3 HNQ.out
                      refine hK _ _ ?_
                      exact ⟨v76, v77, v78, v79, v80, v81, v82, v83, v84, v85, (treeV k2 (.slice a2 j2 c2) x2 m2), v87, k2, a2, j2, c2, x2, m2, by simp only [puts, List.foldl, Act.put, List.setIfInBounds_toArray, List.set_cons_zero, List.set_cons_succ], (HBs.out _ _ _ _ _ _ hw3 BD),
    (Lib.hid fun h => absurd h (by simp [upD])),
    (Lib.hid (CE.out.kq KQ3 HQg.out)),
    (Lib.hid (TX.out.kq KQ3)),
    F0,
    F1,
    F2,
    F3,
    F4,
    F5,
    F6,
    F7,
    Lib.hid fun h => ⟨(F8.out h).1, (F8.out h).2.1, (F8.out h).2.2.1, (F8.out h).2.2.2.1, ((F8.out h).2.2.2.2.kq KQ3)⟩,
    F9,
    Lib.hid fun h => ⟨(F10.out h).1, rfl⟩,
    F11,
    Lib.hid fun _ => ⟨HD10.out, own4 hw3 OX⟩⟩
                    exact StepsI.nil
              · rw [show ((2 : Nat) : Int) = 2 from rfl]
                have hc0 := CE.2.1
                have hc2 := CE.2.2.2
                have hge := CE.1
                have HCE := Lib.hid CE
                have HTX := Lib.hid TX
                have HBD := Lib.hid BD
                clear CE TX BD
                cases hb : (bits .and .i64 lm 4 != 0)
                · have HMM := Lib.hid (show mkTo lm 3 = mkTo lm 2 from by rw [HMK.out.2.2 _ hb]; rfl)
                  go_upto_region 15 with fail
                  go_quiet (fail)
                  revert nq; intro nq1
                  have BD2 := Lib.hid ((HBd.out _ HBD.out).1 _ ((Grew.refl _).drewN nq1))
                  have OX2 := OX.drewN nq1
                  have TX2 := Lib.hid (HTX.out.grew ((Grew.refl _).drewN nq1))
                  have CE2 := Lib.hid (HCE.out.grew ((Grew.refl _).drewN nq1))
                  clear hc0 hc2 hge HCE HTX HBD OX
                  generalize World.drewN _ nq1 = w30 at *
                  go_wp2_with fail
                  go_roundw
                  case rel => exact ⟨3, _, _, _, _, _, _, by go_num, by omega, OX2, by rw [HMM.out]; exact TX2.out, BD2.out, CE2.out⟩
                  case measure => simp [intOf]
                · have HMM := Lib.hid (show mkTo lm 3 = orI (mkTo lm 2) 4 from by rw [HMK.out.2.2 _ hb]; rfl)
                  have hpos : 0 < lv := by
                    rcases Int.lt_or_le 0 lv with h1 | h1
                    · exact h1
                    · have h2 := HGD.out.2.2.2 h1
                      rw [h2] at hb
                      exact absurd hb (by decide +kernel)
                  have HPOS0 := Lib.hid hpos
                  clear hpos
                  go_upto_region 15 with fail
                  go_quiet (fail)
                  revert nq; intro nq1
                  have BD2 := Lib.hid ((HBd.out _ HBD.out).1 _ ((Grew.refl _).drewN nq1))
                  have OX2 := OX.drewN nq1
                  have TX2 := Lib.hid (HTX.out.grew ((Grew.refl _).drewN nq1))
                  have CE2 := Lib.hid (HCE.out.grew ((Grew.refl _).drewN nq1))
                  clear hc0 hc2 hge HCE HTX HBD OX
                  generalize World.drewN _ nq1 = w30 at *
                  obtain ⟨FO, hFO⟩ : ∃ FO, F = FO := ⟨_, rfl⟩
                  rw [hFO] at TX2
                  have HFO := Lib.hid hFO
                  clear hFO
                  obtain ⟨F, hF⟩ : ∃ F, updG FO ix (lv, mkTo lm 2) = F := ⟨_, rfl⟩
                  rw [hF] at TX2
                  have HPOS := Lib.hid (show 0 < (F ix).1 from by rw [← hF, updG, if_pos rfl]; exact HPOS0.out)
                  obtain ⟨F2, hF2⟩ : ∃ F2, updG F ix ((F ix).1, orI (F ix).2 4) = F2 := ⟨_, rfl⟩
                  have HF2 := Lib.hid hF2
                  have HF3 := Lib.hid (show F2 = updG FO ix (lv, mkTo lm 3) from by rw [← hF2, ← hF, upd_upd, HMM.out, updG, if_pos rfl])
                  have OXa := OX2
                  have TXa := TX2.out
                  have BDa := BD2.out
                  have CEa := CE2.out
                  clear OX2 TX2 BD2 CE2 hF hF2
                  go_upto_region 16 with fail
                  refine wp_region_inv (J0 := MarkJ2 Bd Q PX n g cr i ix lv lm k ao jo co xo mo F F2) (by kernel_rfl) (by kernel_rfl) ?inv0MarkJ2 ?invSMarkJ2 ?invEMarkJ2
                  case inv0MarkJ2 =>
                    exact ⟨_, _, _, _, _, _, _, _, _, _, _, _, 0, none, 0, 0, 0, 0, puts_self [76, 77, 78, 79, 80, 81, 82, 83, 84, 85, 86, 87] _, ((HBd.out _ BDa).1 _ (Grew.refl _).drew), (Lib.hid fun _ => OXa.drew), (Lib.hid (CEa.grew (Grew.refl _).drew)), (Lib.hid (TXa.grew (Grew.refl _).drew)), Lib.hid fun h => absurd h (by decide), Lib.hid fun h => absurd h (by decide), Lib.hid fun h => absurd h (by decide), Lib.hid fun h => absurd h (by decide), Lib.hid fun h => absurd h (by decide), Lib.hid fun h => absurd h (by decide), Lib.hid fun h => absurd h (by decide), Lib.hid fun h => absurd h (by decide), Lib.hid fun h => absurd h (by decide), Lib.hid fun h => absurd h (by decide), Lib.hid fun h => absurd h (by decide), Lib.hid fun h => absurd h (by decide), Lib.hid fun h => absurd h (by decide)⟩
                  case invEMarkJ2 =>
                    rintro a9 w9 ⟨v76, v77, v78, v79, v80, v81, v82, v83, v84, v85, v86, v87, k2, a2, j2, c2, x2, m2, rfl, BD, OF, CE, TX, F0, F1, F2, F3, F4, F5, F6, F7, F8, F9, F10, F11, F12⟩
                    have OX2 := (F12.out (by decide)).2
                    have TX2 := Lib.hid (F8.out (by decide)).2.2.2.2
                    clear F0 F1 F2 F3 F4 F5 F6 F7 F8 F9 F10 F11 F12 OF TX BDa CEa TXa OXa
                    simp only [puts, List.foldl, Act.put, List.setIfInBounds_toArray, List.set_cons_zero, List.set_cons_succ]
                    have BD2 := Lib.hid BD
                    have CE2 := CE
                    clear BD CE
                    rw [HF3.out, ← HFO.out] at TX2
                    go_wp2_with fail
                    go_roundw
                    case rel => exact ⟨3, _, _, _, _, _, _, by go_num, by omega, OX2, TX2.out, BD2.out, CE2.out⟩
                    case measure => simp [intOf]
                  case invSMarkJ2 =>
                    refine StepsI.cons ?stMarkJ20 ?moMarkJ20
                    case stMarkJ20 =>
                      rintro d a9 w1 ⟨v76, v77, v78, v79, v80, v81, v82, v83, v84, v85, v86, v87, k2, a2, j2, c2, x2, m2, ea, BD, OF, CE, TX, F0, F1, F2, F3, F4, F5, F6, F7, F8, F9, F10, F11, F12⟩ hd hA K hK
                      subst ea
                      clear hA
                      simp only [puts, List.foldl, Act.put, List.setIfInBounds_toArray, List.set_cons_zero, List.set_cons_succ]
                      have HHd := Lib.hid hd
                      clear hd
                      have NN : d 12 = false := by cases h : d 12 with | false => rfl | true => exact absurd (F8.out (F9.out (F10.out (F12.out h).1).1).1).1 (by rw [HHd.out]; decide)
                      have OX := OF.out NN
                      have O4 := OX.four
                      have lX := OX.lt
                      clear NN OX
                      go_simp
                      refine hK _ _ ?_
                      exact ⟨v76, (treeV k (.slice ao jo co) xo mo), v78, v79, v80, v81, v82, v83, v84, v85, v86, v87, k2, a2, j2, c2, x2, m2, by simp only [puts, List.foldl, Act.put, List.setIfInBounds_toArray, List.set_cons_zero, List.set_cons_succ], BD,
    OF,
    CE,
    TX,
    Lib.hid fun _ => rfl,
    F1,
    F2,
    F3,
    F4,
    F5,
    F6,
    F7,
    Lib.hid fun h => absurd ((F8.out h).1) (by rw [HHd.out]; decide),
    F9,
    F10,
    F11,
    F12⟩
                    refine StepsI.cons ?stMarkJ21 ?moMarkJ21
                    case stMarkJ21 =>
                      rintro d a9 w1 ⟨v76, v77, v78, v79, v80, v81, v82, v83, v84, v85, v86, v87, k2, a2, j2, c2, x2, m2, ea, BD, OF, CE, TX, F0, F1, F2, F3, F4, F5, F6, F7, F8, F9, F10, F11, F12⟩ hd hA K hK
                      subst ea
                      clear hA
                      simp only [puts, List.foldl, Act.put, List.setIfInBounds_toArray, List.set_cons_zero, List.set_cons_succ]
                      have HHd := Lib.hid hd
                      clear hd
                      go_simp
                      refine hK _ _ ?_
                      exact ⟨v76, v77, (.slice (some ⟨g, 0, none⟩) n cr), v79, v80, v81, v82, v83, v84, v85, v86, v87, k2, a2, j2, c2, x2, m2, by simp only [puts, List.foldl, Act.put, List.setIfInBounds_toArray, List.set_cons_zero, List.set_cons_succ], BD,
    OF,
    CE,
    TX,
    F0,
    Lib.hid fun _ => rfl,
    F2,
    F3,
    F4,
    F5,
    F6,
    F7,
    F8,
    F9,
    F10,
    F11,
    F12⟩
                    refine StepsI.cons ?stMarkJ22 ?moMarkJ22
                    case stMarkJ22 =>
                      rintro d a9 w1 ⟨v76, v77, v78, v79, v80, v81, v82, v83, v84, v85, v86, v87, k2, a2, j2, c2, x2, m2, ea, BD, OF, CE, TX, F0, F1, F2, F3, F4, F5, F6, F7, F8, F9, F10, F11, F12⟩ hd hA K hK
                      subst ea
                      clear hA
                      simp only [puts, List.foldl, Act.put, List.setIfInBounds_toArray, List.set_cons_zero, List.set_cons_succ]
                      have HHd := Lib.hid hd
                      clear hd
                      go_simp
                      refine hK _ _ ?_
                      exact ⟨v76, v77, v78, (.int .i64 (i : Int)), v80, v81, v82, v83, v84, v85, v86, v87, k2, a2, j2, c2, x2, m2, by simp only [puts, List.foldl, Act.put, List.setIfInBounds_toArray, List.set_cons_zero, List.set_cons_succ], BD,
    OF,
    CE,
    TX,
    F0,
    F1,
    Lib.hid fun _ => rfl,
    F3,
    F4,
    F5,
    F6,
    F7,
    F8,
    F9,
    F10,
    F11,
    F12⟩
                    refine StepsI.cons ?stMarkJ23 ?moMarkJ23
                    case stMarkJ23 =>
                      rintro d a9 w1 ⟨v76, v77, v78, v79, v80, v81, v82, v83, v84, v85, v86, v87, k2, a2, j2, c2, x2, m2, ea, BD, OF, CE, TX, F0, F1, F2, F3, F4, F5, F6, F7, F8, F9, F10, F11, F12⟩ hd hA K hK
                      subst ea
                      simp [Aft, Region.binds] at hA
                      have HD1 := Lib.hid (show d 1 = true by simp [hA])
                      have HD2 := Lib.hid (show d 2 = true by simp [hA])
                      clear hA
                      simp only [puts, List.foldl, Act.put, List.setIfInBounds_toArray, List.set_cons_zero, List.set_cons_succ]
                      have E1 := F1.out HD1.out
                      rw [E1]
                      clear E1
                      have E2 := F2.out HD2.out
                      rw [E2]
                      clear E2
                      have HHd := Lib.hid hd
                      clear hd
                      go_simp
                      refine hK _ _ ?_
                      exact ⟨v76, v77, (.slice (some ⟨g, 0, none⟩) n cr), (.int .i64 (i : Int)), (.pointer (some ⟨g, i * 3, none⟩)), v81, v82, v83, v84, v85, v86, v87, k2, a2, j2, c2, x2, m2, by simp only [puts, List.foldl, Act.put, List.setIfInBounds_toArray, List.set_cons_zero, List.set_cons_succ], BD,
    OF,
    CE,
    TX,
    F0,
    Lib.hid fun h => rfl,
    Lib.hid fun h => rfl,
    Lib.hid fun _ => rfl,
    F4,
    F5,
    F6,
    F7,
    F8,
    F9,
    F10,
    F11,
    F12⟩
                    refine StepsI.cons ?stMarkJ24 ?moMarkJ24
                    case stMarkJ24 =>
                      rintro d a9 w1 ⟨v76, v77, v78, v79, v80, v81, v82, v83, v84, v85, v86, v87, k2, a2, j2, c2, x2, m2, ea, BD, OF, CE, TX, F0, F1, F2, F3, F4, F5, F6, F7, F8, F9, F10, F11, F12⟩ hd hA K hK
                      subst ea
                      simp [Aft, Region.binds] at hA
                      have HD3 := Lib.hid (show d 3 = true by simp [hA])
                      clear hA
                      simp only [puts, List.foldl, Act.put, List.setIfInBounds_toArray, List.set_cons_zero, List.set_cons_succ]
                      have E3 := F3.out HD3.out
                      rw [E3]
                      clear E3
                      have HHd := Lib.hid hd
                      clear hd
                      go_simp
                      refine hK _ _ ?_
                      exact ⟨v76, v77, v78, v79, (.pointer (some ⟨g, i * 3, none⟩)), (.pointer (some ⟨g, i * 3, none⟩)), v82, v83, v84, v85, v86, v87, k2, a2, j2, c2, x2, m2, by simp only [puts, List.foldl, Act.put, List.setIfInBounds_toArray, List.set_cons_zero, List.set_cons_succ], BD,
    OF,
    CE,
    TX,
    F0,
    F1,
    F2,
    Lib.hid fun h => rfl,
    Lib.hid fun _ => rfl,
    F5,
    F6,
    F7,
    F8,
    F9,
    F10,
    F11,
    F12⟩
                    refine StepsI.cons ?stMarkJ25 ?moMarkJ25
                    case stMarkJ25 =>
                      rintro d a9 w1 ⟨v76, v77, v78, v79, v80, v81, v82, v83, v84, v85, v86, v87, k2, a2, j2, c2, x2, m2, ea, BD, OF, CE, TX, F0, F1, F2, F3, F4, F5, F6, F7, F8, F9, F10, F11, F12⟩ hd hA K hK
                      subst ea
                      simp [Aft, Region.binds] at hA
                      have HD4 := Lib.hid (show d 4 = true by simp [hA])
                      clear hA
                      simp only [puts, List.foldl, Act.put, List.setIfInBounds_toArray, List.set_cons_zero, List.set_cons_succ]
                      have E4 := F4.out HD4.out
                      rw [E4]
                      clear E4
                      have HHd := Lib.hid hd
                      clear hd
                      have c0 := CE.out.2.1
                      have c1 := CE.out.2.2.1
                      have hge := CE.out.1
                      go_simp
                      refine hK _ _ ?_
                      exact ⟨v76, v77, v78, v79, v80, (.pointer (some ⟨g, i * 3, none⟩)), (.int .i64 (ix : Int)), v83, v84, v85, v86, v87, k2, a2, j2, c2, x2, m2, by simp only [puts, List.foldl, Act.put, List.setIfInBounds_toArray, List.set_cons_zero, List.set_cons_succ], BD,
    OF,
    CE,
    TX,
    F0,
    F1,
    F2,
    F3,
    Lib.hid fun h => rfl,
    Lib.hid fun _ => rfl,
    F6,
    F7,
    Lib.hid fun h => absurd ((F8.out h).2.1) (by rw [HHd.out]; decide),
    F9,
    F10,
    F11,
    F12⟩
                    refine StepsI.cons ?stMarkJ26 ?moMarkJ26
                    case stMarkJ26 =>
                      rintro d a9 w1 ⟨v76, v77, v78, v79, v80, v81, v82, v83, v84, v85, v86, v87, k2, a2, j2, c2, x2, m2, ea, BD, OF, CE, TX, F0, F1, F2, F3, F4, F5, F6, F7, F8, F9, F10, F11, F12⟩ hd hA K hK
                      subst ea
                      clear hA
                      simp only [puts, List.foldl, Act.put, List.setIfInBounds_toArray, List.set_cons_zero, List.set_cons_succ]
                      have HHd := Lib.hid hd
                      clear hd
                      go_simp
                      refine hK _ _ ?_
                      exact ⟨v76, v77, v78, v79, v80, v81, v82, (.int .i64 2), v84, v85, v86, v87, k2, a2, j2, c2, x2, m2, by simp only [puts, List.foldl, Act.put, List.setIfInBounds_toArray, List.set_cons_zero, List.set_cons_succ], BD,
    OF,
    CE,
    TX,
    F0,
    F1,
    F2,
    F3,
    F4,
    F5,
    Lib.hid fun _ => rfl,
    F7,
    F8,
    F9,
    F10,
    F11,
    F12⟩
                    refine StepsI.cons ?stMarkJ27 ?moMarkJ27
                    case stMarkJ27 =>
                      rintro d a9 w1 ⟨v76, v77, v78, v79, v80, v81, v82, v83, v84, v85, v86, v87, k2, a2, j2, c2, x2, m2, ea, BD, OF, CE, TX, F0, F1, F2, F3, F4, F5, F6, F7, F8, F9, F10, F11, F12⟩ hd hA K hK
                      subst ea
                      simp [Aft, Region.binds] at hA
                      have HD6 := Lib.hid (show d 6 = true by simp [hA])
                      clear hA
                      simp only [puts, List.foldl, Act.put, List.setIfInBounds_toArray, List.set_cons_zero, List.set_cons_succ]
                      have E6 := F6.out HD6.out
                      rw [E6]
                      clear E6
                      have HHd := Lib.hid hd
                      clear hd
                      go_simp
                      refine hK _ _ ?_
                      exact ⟨v76, v77, v78, v79, v80, v81, v82, (.int .i64 2), (.int .i64 4), v85, v86, v87, k2, a2, j2, c2, x2, m2, by simp only [puts, List.foldl, Act.put, List.setIfInBounds_toArray, List.set_cons_zero, List.set_cons_succ] <;> rfl, BD,
    OF,
    CE,
    TX,
    F0,
    F1,
    F2,
    F3,
    F4,
    F5,
    Lib.hid fun h => rfl,
    Lib.hid fun _ => rfl,
    Lib.hid fun h => absurd ((F8.out h).2.2.1) (by rw [HHd.out]; decide),
    F9,
    F10,
    F11,
    F12⟩
                    refine StepsI.cons ?stMarkJ28 ?moMarkJ28
                    case stMarkJ28 =>
                      rintro d a9 w1 ⟨v76, v77, v78, v79, v80, v81, v82, v83, v84, v85, v86, v87, k2, a2, j2, c2, x2, m2, ea, BD, OF, CE, TX, F0, F1, F2, F3, F4, F5, F6, F7, F8, F9, F10, F11, F12⟩ hd hA K hK
                      subst ea
                      simp [Aft, Region.binds] at hA
                      have HD0 := Lib.hid (show d 0 = true by simp [hA])
                      have HD5 := Lib.hid (show d 5 = true by simp [hA])
                      have HD7 := Lib.hid (show d 7 = true by simp [hA])
                      clear hA
                      simp only [puts, List.foldl, Act.put, List.setIfInBounds_toArray, List.set_cons_zero, List.set_cons_succ]
                      have E0 := F0.out HD0.out
                      rw [E0]
                      clear E0
                      have E5 := F5.out HD5.out
                      rw [E5]
                      clear E5
                      have E7 := F7.out HD7.out
                      rw [E7]
                      clear E7
                      have HHd := Lib.hid hd
                      clear hd
                      go_simp
                      go_wp2_with (go_at_call 30; (with_reducible refine (mark_ok k F _ _ _ 4 ix _ _ TX.out hix (by decide) HPOS.out).mono ?_); rintro e w2 ⟨k9, s9, x9, m9, rfl, n9, g2⟩)
                      obtain ⟨a9, j9, c9, rfl⟩ := n9.node.slice
                      rw [HF2.out] at n9
                      exact ⟨v76, (treeV k (.slice ao jo co) xo mo), v78, v79, v80, v81, (.int .i64 (ix : Int)), v83, (.int .i64 4), (.tuple #[treeV k9 (.slice a9 j9 c9) x9 m9, .int .i64 0]), v86, v87, k9, a9, j9, c9, x9, m9, by simp only [puts, List.foldl, Act.put, List.setIfInBounds_toArray, List.set_cons_zero, List.set_cons_succ], ((HBd.out _ BD).1 _ g2),
    (Lib.hid fun h => (OF.out h).grew g2),
    (Lib.hid (CE.out.grew g2)),
    (Lib.hid (TX.out.grew g2)),
    Lib.hid fun h => rfl,
    F1,
    F2,
    F3,
    F4,
    Lib.hid fun h => rfl,
    F6,
    Lib.hid fun h => rfl,
    Lib.hid fun _ => ⟨HD0.out, HD5.out, HD7.out, rfl, n9.mono (fun c hc _ => HQ.out c (by have hc : w1.heap.size ≤ c := hc; have := (HBd.out _ BD).2; omega))⟩,
    Lib.hid fun h => absurd ((F9.out h).1) (by rw [HHd.out]; decide),
    Lib.hid fun h => absurd ((F9.out (F10.out h).1).1) (by rw [HHd.out]; decide),
    F11,
    Lib.hid fun h => absurd ((F9.out (F10.out (F12.out h).1).1).1) (by rw [HHd.out]; decide)⟩
                    refine StepsI.cons ?stMarkJ29 ?moMarkJ29
                    case stMarkJ29 =>
                      rintro d a9 w1 ⟨v76, v77, v78, v79, v80, v81, v82, v83, v84, v85, v86, v87, k2, a2, j2, c2, x2, m2, ea, BD, OF, CE, TX, F0, F1, F2, F3, F4, F5, F6, F7, F8, F9, F10, F11, F12⟩ hd hA K hK
                      subst ea
                      simp [Aft, Region.binds] at hA
                      have HD8 := Lib.hid (show d 8 = true by simp [hA])
                      clear hA
                      simp only [puts, List.foldl, Act.put, List.setIfInBounds_toArray, List.set_cons_zero, List.set_cons_succ]
                      have E8 := F8.out HD8.out
                      rw [E8.2.2.2.1]
                      clear E8
                      have HHd := Lib.hid hd
                      clear hd
                      go_simp
                      refine hK _ _ ?_
                      exact ⟨(.tuple #[treeV k2 (.slice a2 j2 c2) x2 m2, .int .i64 0]), v77, v78, v79, v80, v81, v82, v83, v84, (.tuple #[treeV k2 (.slice a2 j2 c2) x2 m2, .int .i64 0]), v86, v87, k2, a2, j2, c2, x2, m2, by simp only [puts, List.foldl, Act.put, List.setIfInBounds_toArray, List.set_cons_zero, List.set_cons_succ], BD,
    OF,
    CE,
    TX,
    F0,
    F1,
    F2,
    F3,
    F4,
    F5,
    F6,
    F7,
    Lib.hid fun h => ⟨(F8.out h).1, (F8.out h).2.1, (F8.out h).2.2.1, rfl, (F8.out h).2.2.2.2⟩,
    Lib.hid fun _ => ⟨HD8.out, rfl⟩,
    Lib.hid fun h => absurd ((F10.out h).1) (by rw [HHd.out]; decide),
    F11,
    F12⟩
                    refine StepsI.cons ?stMarkJ210 ?moMarkJ210
                    case stMarkJ210 =>
                      rintro d a9 w1 ⟨v76, v77, v78, v79, v80, v81, v82, v83, v84, v85, v86, v87, k2, a2, j2, c2, x2, m2, ea, BD, OF, CE, TX, F0, F1, F2, F3, F4, F5, F6, F7, F8, F9, F10, F11, F12⟩ hd hA K hK
                      subst ea
                      simp [Aft, Region.binds] at hA
                      have HD9 := Lib.hid (show d 9 = true by simp [hA])
                      clear hA
                      simp only [puts, List.foldl, Act.put, List.setIfInBounds_toArray, List.set_cons_zero, List.set_cons_succ]
                      have E9 := F9.out HD9.out
                      rw [E9.2]
                      clear E9
                      have HHd := Lib.hid hd
                      clear hd
                      go_simp
                      refine hK _ _ ?_
                      exact ⟨(.tuple #[treeV k2 (.slice a2 j2 c2) x2 m2, .int .i64 0]), v77, v78, v79, v80, v81, v82, v83, v84, v85, (treeV k2 (.slice a2 j2 c2) x2 m2), v87, k2, a2, j2, c2, x2, m2, by simp only [puts, List.foldl, Act.put, List.setIfInBounds_toArray, List.set_cons_zero, List.set_cons_succ], BD,
    OF,
    CE,
    TX,
    F0,
    F1,
    F2,
    F3,
    F4,
    F5,
    F6,
    F7,
    F8,
    Lib.hid fun h => ⟨(F9.out h).1, rfl⟩,
    Lib.hid fun _ => ⟨HD9.out, rfl⟩,
    F11,
    Lib.hid fun h => absurd ((F12.out h).1) (by rw [HHd.out]; decide)⟩
                    refine StepsI.cons ?stMarkJ211 ?moMarkJ211
                    case stMarkJ211 =>
                      rintro d a9 w1 ⟨v76, v77, v78, v79, v80, v81, v82, v83, v84, v85, v86, v87, k2, a2, j2, c2, x2, m2, ea, BD, OF, CE, TX, F0, F1, F2, F3, F4, F5, F6, F7, F8, F9, F10, F11, F12⟩ hd hA K hK
                      subst ea
                      simp [Aft, Region.binds] at hA
                      have HD9 := Lib.hid (show d 9 = true by simp [hA])
                      clear hA
                      simp only [puts, List.foldl, Act.put, List.setIfInBounds_toArray, List.set_cons_zero, List.set_cons_succ]
                      have E9 := F9.out HD9.out
                      rw [E9.2]
                      clear E9
                      have HHd := Lib.hid hd
                      clear hd
                      go_simp
                      refine hK _ _ ?_
                      exact ⟨(.tuple #[treeV k2 (.slice a2 j2 c2) x2 m2, .int .i64 0]), v77, v78, v79, v80, v81, v82, v83, v84, v85, v86, (.int .i64 0), k2, a2, j2, c2, x2, m2, by simp only [puts, List.foldl, Act.put, List.setIfInBounds_toArray, List.set_cons_zero, List.set_cons_succ], BD,
    OF,
    CE,
    TX,
    F0,
    F1,
    F2,
    F3,
    F4,
    F5,
    F6,
    F7,
    F8,
    Lib.hid fun h => ⟨(F9.out h).1, rfl⟩,
    F10,
    Lib.hid fun _ => rfl,
    F12⟩
                    refine StepsI.cons ?stMarkJ212 ?moMarkJ212
                    case stMarkJ212 =>
                      rintro d a9 w1 ⟨v76, v77, v78, v79, v80, v81, v82, v83, v84, v85, v86, v87, k2, a2, j2, c2, x2, m2, ea, BD, OF, CE, TX, F0, F1, F2, F3, F4, F5, F6, F7, F8, F9, F10, F11, F12⟩ hd hA K hK
                      subst ea
                      simp [Aft, Region.binds] at hA
                      have HD10 := Lib.hid (show d 10 = true by simp [hA])
                      clear hA
                      simp only [puts, List.foldl, Act.put, List.setIfInBounds_toArray, List.set_cons_zero, List.set_cons_succ]
                      have E10 := F10.out HD10.out
                      rw [E10.2]
                      clear E10
                      have HHd := Lib.hid hd
                      clear hd
                      have OX := OF.out HHd.out
                      have O4 := OX.four
                      have lX := OX.lt
                      go_simp
                      generalize hw3 : World.setCell (World.setCell (World.setCell (World.setCell _ _ _) _ _) _ _) _ _ = w3
                      have KQ3 : KeepQ Q w1 w3 := KeepQ.set4 hw3 HNQ.out
                      refine hK _ _ ?_
                      exact ⟨v76, v77, v78, v79, v80, v81, v82, v83, v84, v85, (treeV k2 (.slice a2 j2 c2) x2 m2), v87, k2, a2, j2, c2, x2, m2, by simp only [puts, List.foldl, Act.put, List.setIfInBounds_toArray, List.set_cons_zero, List.set_cons_succ], (HBs.out _ _ _ _ _ _ hw3 BD),
    (Lib.hid fun h => absurd h (by simp [upD])),
    (Lib.hid (CE.out.kq KQ3 HQg.out)),
    (Lib.hid (TX.out.kq KQ3)),
    F0,
    F1,
    F2,
    F3,
    F4,
    F5,
    F6,
    F7,
    Lib.hid fun h => ⟨(F8.out h).1, (F8.out h).2.1, (F8.out h).2.2.1, (F8.out h).2.2.2.1, ((F8.out h).2.2.2.2.kq KQ3)⟩,
    F9,
    Lib.hid fun h => ⟨(F10.out h).1, rfl⟩,
    F11,
    Lib.hid fun _ => ⟨HD10.out, own4 hw3 OX⟩⟩
                    exact StepsI.nil
            · have hq : q = 3 := by omega
              subst hq
              have hHE : updG F ix (lv, mkTo lm 3) = hideF (M.eraseIdx i) FX := by rw [HER.out]; rfl
              rw [hHE] at TX
              have HTX := Lib.hid TX
              have HCE := Lib.hid CE
              clear hHE TX CE
              rw [← HBdd.out] at BD
              have hrd := BD.1
              have hiM : i < M.length := by have := HNn.out; omega
              have HBD := Lib.hid BD
              clear BD
              by_cases hlast : i + 1 = n
              · have HLa := Lib.hid hlast
                clear hlast
                have R2 := Lib.hid (show RdE Q wr (.slice (some ⟨g, 0, none⟩) i i) (M.eraseIdx i) from by
                  have hla := HLa.out
                  have h1 := RdE.take (g := g) (c := cr) (by rw [HNn.out]; exact hrd) i hiM
                  have h2 : M.eraseIdx i = M.take i := by rw [List.eraseIdx_eq_take_drop_succ, List.drop_eq_nil_of_le (by have := HNn.out; omega), List.append_nil]
                  rw [h2]; exact h1)
                clear hrd
                have b0 : (0 : Int) ≤ (i : Int) := by omega
                have b1 : (i : Int) ≤ (cr : Int) := by omega
                have b2 : (n : Int) ≤ (cr : Int) := by omega
                have b4 : (0 : Int) ≤ (n : Int) := by omega
                have hl9 : (M.eraseIdx i).length = i := by rw [List.length_eraseIdx, if_pos hiM]; have := HNn.out; have := HLa.out; omega
                have Hl9 := Lib.hid hl9
                have BD9 := Lib.hid (((HBGr.out _ _ _ HBD.out).1 _ (Grew.refl wr).drew).list (R2.out.kq (.grew (Grew.refl wr).drew)))
                have OX9 := OX.drew
                have HTX9 := Lib.hid (HTX.out.grew (Grew.refl wr).drew)
                clear hl9 HBD R2 HTX HCE
                have hw1 : IntKind.i64.wrap ((i : Int) + 1) = (n : Int) := by have := HLa.out; rw [IntWalk.i64_in _ (by omega)]; omega
                by_cases hcc : cr = n
                · subst hcc
                  go_upto_region 17 with fail
                  go_region_held3 (fun _ => True) (trivial) (fail)
                  clear hw1
                  go_wp2_with fail
                  go_roundw
                  case rel => exact ⟨M.eraseIdx i, _, k, ao, jo, co, xo, mo, rfl, by rw [Hl9.out]; omega, HOM.out.erase i, OX9, HTX9.out, BD9.out⟩
                  case measure => simp; try omega
                · have hcc2 : ¬n = cr := by omega
                  go_upto_region 17 with fail
                  go_region_held3 (fun _ => True) (trivial) (fail)
                  clear hcc2 hw1
                  go_wp2_with fail
                  go_roundw
                  case rel => exact ⟨M.eraseIdx i, _, k, ao, jo, co, xo, mo, rfl, by rw [Hl9.out]; omega, HOM.out.erase i, OX9, HTX9.out, BD9.out⟩
                  case measure => simp; try omega
              · have hi2 : i + 1 < n := by omega
                have hw1 : IntKind.i64.wrap ((i : Int) + 1) = (i : Int) + 1 := IntWalk.i64_in _ (by omega)
                have b0 : (0 : Int) ≤ (i : Int) := by omega
                have b1 : (i : Int) ≤ (cr : Int) := by omega
                have b2 : (i : Int) + 1 ≤ (n : Int) := by omega
                have b3 : (n : Int) ≤ (cr : Int) := by omega
                have b4 : (0 : Int) ≤ (i : Int) + 1 := by omega
                have b5 : ((i : Int) + 1).toNat = i + 1 := by omega
                have hcc : ¬cr = i + 1 := by omega
                have HRD := Lib.hid (show RdE Q wr.drew (.slice (some ⟨g, 0, none⟩) M.length cr) M from by rw [HNn.out]; exact hrd.kq (.grew (Grew.refl _).drew))
                have HMl := Lib.hid (show i + 1 < M.length from by have := HNn.out; omega)
                have HM3 := Lib.hid (show M.length ≤ 300 from by have := HNn.out; omega)
                clear hrd
                go_upto_region 17 with fail
                go_region_held3 (fun _ => True) (trivial) ((refine step_cut (by rfl) (.tmp 91) (.tmp 95) (by rfl) HRD.out i HMl.out HM3.out (by rfl) (cc := cr - (i + 1)) (by rw [HNn.out]; rfl) ?_; intro v9 w9 R9 G9))
                have hl9 : (M.eraseIdx i).length = n - 1 := by rw [List.length_eraseIdx, if_pos hiM]; have := HNn.out; omega
                obtain ⟨a9, c9, rfl⟩ := R9.len
                rw [hl9] at R9
                have Hl9 := Lib.hid hl9
                have g99 := (Grew.refl wr).drew.trans G9
                have hl8 := (HBGr.out _ _ _ HBD.out).2
                have BD9 := Lib.hid (((HBGr.out _ _ _ HBD.out).1 _ g99).list (RdE.row R9 (fun c h1 _ => HQ.out c (by have h1 : wr.heap.size ≤ c := h1; omega))))
                have OX9 := OX.grew g99
                have HTX9 := Lib.hid (HTX.out.grew g99)
                rw [hl9]
                clear hl9 HBD HTX HCE OX R9 G9 g99 b5 hcc
                go_wp2_with fail
                go_roundw
                case rel => exact ⟨M.eraseIdx i, _, k, ao, jo, co, xo, mo, rfl, by rw [Hl9.out]; omega, HOM.out.erase i, OX9, HTX9.out, BD9.out⟩
                case measure => simp; try omega
        case invSSetJ =>
          refine StepsI.cons ?stSetJ0 ?moSetJ0
          case stSetJ0 =>
            rintro d a9 w1 ⟨v48, v49, v50, v51, v52, v53, v54, v55, v56, v57, v58, v59, v60, v61, v62, k2, a2, j2, c2, x2, m2, ea, BD, OF, CE, TX, F0, F1, F2, F3, F4, F5, F6, F7, F8, F9, F10, F11, F12, F13, F14, F15⟩ hd hA K hK
            subst ea
            clear hA
            simp only [puts, List.foldl, Act.put, List.setIfInBounds_toArray, List.set_cons_zero, List.set_cons_succ]
            have HHd := Lib.hid hd
            clear hd
            have NN : d 15 = false := by cases h : d 15 with | false => rfl | true => exact absurd (F11.out (F12.out (F13.out (F15.out h).1).1).1).1 (by rw [HHd.out]; decide)
            have OX := OF.out NN
            have O4 := OX.four
            have lX := OX.lt
            clear NN OX
            go_simp
            refine hK _ _ ?_
            exact ⟨v48, (treeV k (.slice ao jo co) xo mo), v50, v51, v52, v53, v54, v55, v56, v57, v58, v59, v60, v61, v62, k2, a2, j2, c2, x2, m2, by simp only [puts, List.foldl, Act.put, List.setIfInBounds_toArray, List.set_cons_zero, List.set_cons_succ], BD,
    OF,
    CE,
    TX,
    Lib.hid fun _ => rfl,
    F1,
    F2,
    F3,
    F4,
    F5,
    F6,
    F7,
    F8,
    F9,
    F10,
    Lib.hid fun h => absurd ((F11.out h).1) (by rw [HHd.out]; decide),
    F12,
    F13,
    F14,
    F15⟩
          refine StepsI.cons ?stSetJ1 ?moSetJ1
          case stSetJ1 =>
            rintro d a9 w1 ⟨v48, v49, v50, v51, v52, v53, v54, v55, v56, v57, v58, v59, v60, v61, v62, k2, a2, j2, c2, x2, m2, ea, BD, OF, CE, TX, F0, F1, F2, F3, F4, F5, F6, F7, F8, F9, F10, F11, F12, F13, F14, F15⟩ hd hA K hK
            subst ea
            clear hA
            simp only [puts, List.foldl, Act.put, List.setIfInBounds_toArray, List.set_cons_zero, List.set_cons_succ]
            have HHd := Lib.hid hd
            clear hd
            go_simp
            refine hK _ _ ?_
            exact ⟨v48, v49, (.slice (some ⟨g, 0, none⟩) n cr), v51, v52, v53, v54, v55, v56, v57, v58, v59, v60, v61, v62, k2, a2, j2, c2, x2, m2, by simp only [puts, List.foldl, Act.put, List.setIfInBounds_toArray, List.set_cons_zero, List.set_cons_succ], BD,
    OF,
    CE,
    TX,
    F0,
    Lib.hid fun _ => rfl,
    F2,
    F3,
    F4,
    F5,
    F6,
    F7,
    F8,
    F9,
    F10,
    F11,
    F12,
    F13,
    F14,
    F15⟩
          refine StepsI.cons ?stSetJ2 ?moSetJ2
          case stSetJ2 =>
            rintro d a9 w1 ⟨v48, v49, v50, v51, v52, v53, v54, v55, v56, v57, v58, v59, v60, v61, v62, k2, a2, j2, c2, x2, m2, ea, BD, OF, CE, TX, F0, F1, F2, F3, F4, F5, F6, F7, F8, F9, F10, F11, F12, F13, F14, F15⟩ hd hA K hK
            subst ea
            clear hA
            simp only [puts, List.foldl, Act.put, List.setIfInBounds_toArray, List.set_cons_zero, List.set_cons_succ]
            have HHd := Lib.hid hd
            clear hd
            go_simp
            refine hK _ _ ?_
            exact ⟨v48, v49, v50, (.int .i64 (i : Int)), v52, v53, v54, v55, v56, v57, v58, v59, v60, v61, v62, k2, a2, j2, c2, x2, m2, by simp only [puts, List.foldl, Act.put, List.setIfInBounds_toArray, List.set_cons_zero, List.set_cons_succ], BD,
    OF,
    CE,
    TX,
    F0,
    F1,
    Lib.hid fun _ => rfl,
    F3,
    F4,
    F5,
    F6,
    F7,
    F8,
    F9,
    F10,
    F11,
    F12,
    F13,
    F14,
    F15⟩
          refine StepsI.cons ?stSetJ3 ?moSetJ3
          case stSetJ3 =>
            rintro d a9 w1 ⟨v48, v49, v50, v51, v52, v53, v54, v55, v56, v57, v58, v59, v60, v61, v62, k2, a2, j2, c2, x2, m2, ea, BD, OF, CE, TX, F0, F1, F2, F3, F4, F5, F6, F7, F8, F9, F10, F11, F12, F13, F14, F15⟩ hd hA K hK
            subst ea
            simp [Aft, Region.binds] at hA
            have HD1 := Lib.hid (show d 1 = true by simp [hA])
            have HD2 := Lib.hid (show d 2 = true by simp [hA])
            clear hA
            simp only [puts, List.foldl, Act.put, List.setIfInBounds_toArray, List.set_cons_zero, List.set_cons_succ]
            have E1 := F1.out HD1.out
            rw [E1]
            clear E1
            have E2 := F2.out HD2.out
            rw [E2]
            clear E2
            have HHd := Lib.hid hd
            clear hd
            go_simp
            refine hK _ _ ?_
            exact ⟨v48, v49, (.slice (some ⟨g, 0, none⟩) n cr), (.int .i64 (i : Int)), (.pointer (some ⟨g, i * 3, none⟩)), v53, v54, v55, v56, v57, v58, v59, v60, v61, v62, k2, a2, j2, c2, x2, m2, by simp only [puts, List.foldl, Act.put, List.setIfInBounds_toArray, List.set_cons_zero, List.set_cons_succ], BD,
    OF,
    CE,
    TX,
    F0,
    Lib.hid fun h => rfl,
    Lib.hid fun h => rfl,
    Lib.hid fun _ => rfl,
    F4,
    F5,
    F6,
    F7,
    F8,
    F9,
    F10,
    F11,
    F12,
    F13,
    F14,
    F15⟩
          refine StepsI.cons ?stSetJ4 ?moSetJ4
          case stSetJ4 =>
            rintro d a9 w1 ⟨v48, v49, v50, v51, v52, v53, v54, v55, v56, v57, v58, v59, v60, v61, v62, k2, a2, j2, c2, x2, m2, ea, BD, OF, CE, TX, F0, F1, F2, F3, F4, F5, F6, F7, F8, F9, F10, F11, F12, F13, F14, F15⟩ hd hA K hK
            subst ea
            simp [Aft, Region.binds] at hA
            have HD3 := Lib.hid (show d 3 = true by simp [hA])
            clear hA
            simp only [puts, List.foldl, Act.put, List.setIfInBounds_toArray, List.set_cons_zero, List.set_cons_succ]
            have E3 := F3.out HD3.out
            rw [E3]
            clear E3
            have HHd := Lib.hid hd
            clear hd
            go_simp
            refine hK _ _ ?_
            exact ⟨v48, v49, v50, v51, (.pointer (some ⟨g, i * 3, none⟩)), (.pointer (some ⟨g, i * 3, none⟩)), v54, v55, v56, v57, v58, v59, v60, v61, v62, k2, a2, j2, c2, x2, m2, by simp only [puts, List.foldl, Act.put, List.setIfInBounds_toArray, List.set_cons_zero, List.set_cons_succ], BD,
    OF,
    CE,
    TX,
    F0,
    F1,
    F2,
    Lib.hid fun h => rfl,
    Lib.hid fun _ => rfl,
    F5,
    F6,
    F7,
    F8,
    F9,
    F10,
    F11,
    F12,
    F13,
    F14,
    F15⟩
          refine StepsI.cons ?stSetJ5 ?moSetJ5
          case stSetJ5 =>
            rintro d a9 w1 ⟨v48, v49, v50, v51, v52, v53, v54, v55, v56, v57, v58, v59, v60, v61, v62, k2, a2, j2, c2, x2, m2, ea, BD, OF, CE, TX, F0, F1, F2, F3, F4, F5, F6, F7, F8, F9, F10, F11, F12, F13, F14, F15⟩ hd hA K hK
            subst ea
            simp [Aft, Region.binds] at hA
            have HD4 := Lib.hid (show d 4 = true by simp [hA])
            clear hA
            simp only [puts, List.foldl, Act.put, List.setIfInBounds_toArray, List.set_cons_zero, List.set_cons_succ]
            have E4 := F4.out HD4.out
            rw [E4]
            clear E4
            have HHd := Lib.hid hd
            clear hd
            have c0 := CE.out.2.1
            have c1 := CE.out.2.2.1
            have hge := CE.out.1
            go_simp
            refine hK _ _ ?_
            exact ⟨v48, v49, v50, v51, v52, (.pointer (some ⟨g, i * 3, none⟩)), (.int .i64 (ix : Int)), v55, v56, v57, v58, v59, v60, v61, v62, k2, a2, j2, c2, x2, m2, by simp only [puts, List.foldl, Act.put, List.setIfInBounds_toArray, List.set_cons_zero, List.set_cons_succ], BD,
    OF,
    CE,
    TX,
    F0,
    F1,
    F2,
    F3,
    Lib.hid fun h => rfl,
    Lib.hid fun _ => rfl,
    F6,
    F7,
    F8,
    F9,
    F10,
    Lib.hid fun h => absurd ((F11.out h).2.1) (by rw [HHd.out]; decide),
    F12,
    F13,
    F14,
    F15⟩
          refine StepsI.cons ?stSetJ6 ?moSetJ6
          case stSetJ6 =>
            rintro d a9 w1 ⟨v48, v49, v50, v51, v52, v53, v54, v55, v56, v57, v58, v59, v60, v61, v62, k2, a2, j2, c2, x2, m2, ea, BD, OF, CE, TX, F0, F1, F2, F3, F4, F5, F6, F7, F8, F9, F10, F11, F12, F13, F14, F15⟩ hd hA K hK
            subst ea
            clear hA
            simp only [puts, List.foldl, Act.put, List.setIfInBounds_toArray, List.set_cons_zero, List.set_cons_succ]
            have HHd := Lib.hid hd
            clear hd
            go_simp
            refine hK _ _ ?_
            exact ⟨v48, v49, v50, v51, v52, v53, v54, (.slice (some ⟨g, 0, none⟩) n cr), v56, v57, v58, v59, v60, v61, v62, k2, a2, j2, c2, x2, m2, by simp only [puts, List.foldl, Act.put, List.setIfInBounds_toArray, List.set_cons_zero, List.set_cons_succ], BD,
    OF,
    CE,
    TX,
    F0,
    F1,
    F2,
    F3,
    F4,
    F5,
    Lib.hid fun _ => rfl,
    F7,
    F8,
    F9,
    F10,
    F11,
    F12,
    F13,
    F14,
    F15⟩
          refine StepsI.cons ?stSetJ7 ?moSetJ7
          case stSetJ7 =>
            rintro d a9 w1 ⟨v48, v49, v50, v51, v52, v53, v54, v55, v56, v57, v58, v59, v60, v61, v62, k2, a2, j2, c2, x2, m2, ea, BD, OF, CE, TX, F0, F1, F2, F3, F4, F5, F6, F7, F8, F9, F10, F11, F12, F13, F14, F15⟩ hd hA K hK
            subst ea
            clear hA
            simp only [puts, List.foldl, Act.put, List.setIfInBounds_toArray, List.set_cons_zero, List.set_cons_succ]
            have HHd := Lib.hid hd
            clear hd
            go_simp
            refine hK _ _ ?_
            exact ⟨v48, v49, v50, v51, v52, v53, v54, v55, (.int .i64 (i : Int)), v57, v58, v59, v60, v61, v62, k2, a2, j2, c2, x2, m2, by simp only [puts, List.foldl, Act.put, List.setIfInBounds_toArray, List.set_cons_zero, List.set_cons_succ], BD,
    OF,
    CE,
    TX,
    F0,
    F1,
    F2,
    F3,
    F4,
    F5,
    F6,
    Lib.hid fun _ => rfl,
    F8,
    F9,
    F10,
    F11,
    F12,
    F13,
    F14,
    F15⟩
          refine StepsI.cons ?stSetJ8 ?moSetJ8
          case stSetJ8 =>
            rintro d a9 w1 ⟨v48, v49, v50, v51, v52, v53, v54, v55, v56, v57, v58, v59, v60, v61, v62, k2, a2, j2, c2, x2, m2, ea, BD, OF, CE, TX, F0, F1, F2, F3, F4, F5, F6, F7, F8, F9, F10, F11, F12, F13, F14, F15⟩ hd hA K hK
            subst ea
            simp [Aft, Region.binds] at hA
            have HD6 := Lib.hid (show d 6 = true by simp [hA])
            have HD7 := Lib.hid (show d 7 = true by simp [hA])
            clear hA
            simp only [puts, List.foldl, Act.put, List.setIfInBounds_toArray, List.set_cons_zero, List.set_cons_succ]
            have E6 := F6.out HD6.out
            rw [E6]
            clear E6
            have E7 := F7.out HD7.out
            rw [E7]
            clear E7
            have HHd := Lib.hid hd
            clear hd
            go_simp
            refine hK _ _ ?_
            exact ⟨v48, v49, v50, v51, v52, v53, v54, (.slice (some ⟨g, 0, none⟩) n cr), (.int .i64 (i : Int)), (.pointer (some ⟨g, i * 3, none⟩)), v58, v59, v60, v61, v62, k2, a2, j2, c2, x2, m2, by simp only [puts, List.foldl, Act.put, List.setIfInBounds_toArray, List.set_cons_zero, List.set_cons_succ], BD,
    OF,
    CE,
    TX,
    F0,
    F1,
    F2,
    F3,
    F4,
    F5,
    Lib.hid fun h => rfl,
    Lib.hid fun h => rfl,
    Lib.hid fun _ => rfl,
    F9,
    F10,
    F11,
    F12,
    F13,
    F14,
    F15⟩
          refine StepsI.cons ?stSetJ9 ?moSetJ9
          case stSetJ9 =>
            rintro d a9 w1 ⟨v48, v49, v50, v51, v52, v53, v54, v55, v56, v57, v58, v59, v60, v61, v62, k2, a2, j2, c2, x2, m2, ea, BD, OF, CE, TX, F0, F1, F2, F3, F4, F5, F6, F7, F8, F9, F10, F11, F12, F13, F14, F15⟩ hd hA K hK
            subst ea
            simp [Aft, Region.binds] at hA
            have HD8 := Lib.hid (show d 8 = true by simp [hA])
            clear hA
            simp only [puts, List.foldl, Act.put, List.setIfInBounds_toArray, List.set_cons_zero, List.set_cons_succ]
            have E8 := F8.out HD8.out
            rw [E8]
            clear E8
            have HHd := Lib.hid hd
            clear hd
            go_simp
            refine hK _ _ ?_
            exact ⟨v48, v49, v50, v51, v52, v53, v54, v55, v56, (.pointer (some ⟨g, i * 3, none⟩)), (.pointer (some ⟨g, i * 3 + 1, none⟩)), v59, v60, v61, v62, k2, a2, j2, c2, x2, m2, by simp only [puts, List.foldl, Act.put, List.setIfInBounds_toArray, List.set_cons_zero, List.set_cons_succ], BD,
    OF,
    CE,
    TX,
    F0,
    F1,
    F2,
    F3,
    F4,
    F5,
    F6,
    F7,
    Lib.hid fun h => rfl,
    Lib.hid fun _ => rfl,
    F10,
    F11,
    F12,
    F13,
    F14,
    F15⟩
          refine StepsI.cons ?stSetJ10 ?moSetJ10
          case stSetJ10 =>
            rintro d a9 w1 ⟨v48, v49, v50, v51, v52, v53, v54, v55, v56, v57, v58, v59, v60, v61, v62, k2, a2, j2, c2, x2, m2, ea, BD, OF, CE, TX, F0, F1, F2, F3, F4, F5, F6, F7, F8, F9, F10, F11, F12, F13, F14, F15⟩ hd hA K hK
            subst ea
            simp [Aft, Region.binds] at hA
            have HD9 := Lib.hid (show d 9 = true by simp [hA])
            clear hA
            simp only [puts, List.foldl, Act.put, List.setIfInBounds_toArray, List.set_cons_zero, List.set_cons_succ]
            have E9 := F9.out HD9.out
            rw [E9]
            clear E9
            have HHd := Lib.hid hd
            clear hd
            have c0 := CE.out.2.1
            have c1 := CE.out.2.2.1
            have hge := CE.out.1
            go_simp
            refine hK _ _ ?_
            exact ⟨v48, v49, v50, v51, v52, v53, v54, v55, v56, v57, (.pointer (some ⟨g, i * 3 + 1, none⟩)), (.int .i64 lv), v60, v61, v62, k2, a2, j2, c2, x2, m2, by simp only [puts, List.foldl, Act.put, List.setIfInBounds_toArray, List.set_cons_zero, List.set_cons_succ], BD,
    OF,
    CE,
    TX,
    F0,
    F1,
    F2,
    F3,
    F4,
    F5,
    F6,
    F7,
    F8,
    Lib.hid fun h => rfl,
    Lib.hid fun _ => rfl,
    Lib.hid fun h => absurd ((F11.out h).2.2.1) (by rw [HHd.out]; decide),
    F12,
    F13,
    F14,
    F15⟩
          refine StepsI.cons ?stSetJ11 ?moSetJ11
          case stSetJ11 =>
            rintro d a9 w1 ⟨v48, v49, v50, v51, v52, v53, v54, v55, v56, v57, v58, v59, v60, v61, v62, k2, a2, j2, c2, x2, m2, ea, BD, OF, CE, TX, F0, F1, F2, F3, F4, F5, F6, F7, F8, F9, F10, F11, F12, F13, F14, F15⟩ hd hA K hK
            subst ea
            simp [Aft, Region.binds] at hA
            have HD0 := Lib.hid (show d 0 = true by simp [hA])
            have HD5 := Lib.hid (show d 5 = true by simp [hA])
            have HD10 := Lib.hid (show d 10 = true by simp [hA])
            clear hA
            simp only [puts, List.foldl, Act.put, List.setIfInBounds_toArray, List.set_cons_zero, List.set_cons_succ]
            have E0 := F0.out HD0.out
            rw [E0]
            clear E0
            have E5 := F5.out HD5.out
            rw [E5]
            clear E5
            have E10 := F10.out HD10.out
            rw [E10]
            clear E10
            have HHd := Lib.hid hd
            clear hd
            go_simp
            go_wp2_with (go_at_call 28; (with_reducible refine (set_f k F _ _ _ lv ix _ _ TX.out hix HWF.out).mono ?_); rintro e w2 ⟨k9, s9, x9, m9, rfl, n9, g2⟩)
            obtain ⟨a9, j9, c9, rfl⟩ := n9.node.slice
            rw [HF2.out] at n9
            exact ⟨v48, (treeV k (.slice ao jo co) xo mo), v50, v51, v52, v53, (.int .i64 (ix : Int)), v55, v56, v57, v58, (.int .i64 lv), (.tuple #[treeV k9 (.slice a9 j9 c9) x9 m9, .int .i64 0]), v61, v62, k9, a9, j9, c9, x9, m9, by simp only [puts, List.foldl, Act.put, List.setIfInBounds_toArray, List.set_cons_zero, List.set_cons_succ], ((HBd.out _ BD).1 _ g2),
    (Lib.hid fun h => (OF.out h).grew g2),
    (Lib.hid (CE.out.grew g2)),
    (Lib.hid (TX.out.grew g2)),
    Lib.hid fun h => rfl,
    F1,
    F2,
    F3,
    F4,
    Lib.hid fun h => rfl,
    F6,
    F7,
    F8,
    F9,
    Lib.hid fun h => rfl,
    Lib.hid fun _ => ⟨HD0.out, HD5.out, HD10.out, rfl, n9.mono (fun c hc _ => HQ.out c (by have hc : w1.heap.size ≤ c := hc; have := (HBd.out _ BD).2; omega))⟩,
    Lib.hid fun h => absurd ((F12.out h).1) (by rw [HHd.out]; decide),
    Lib.hid fun h => absurd ((F12.out (F13.out h).1).1) (by rw [HHd.out]; decide),
    F14,
    Lib.hid fun h => absurd ((F12.out (F13.out (F15.out h).1).1).1) (by rw [HHd.out]; decide)⟩
          refine StepsI.cons ?stSetJ12 ?moSetJ12
          case stSetJ12 =>
            rintro d a9 w1 ⟨v48, v49, v50, v51, v52, v53, v54, v55, v56, v57, v58, v59, v60, v61, v62, k2, a2, j2, c2, x2, m2, ea, BD, OF, CE, TX, F0, F1, F2, F3, F4, F5, F6, F7, F8, F9, F10, F11, F12, F13, F14, F15⟩ hd hA K hK
            subst ea
            simp [Aft, Region.binds] at hA
            have HD11 := Lib.hid (show d 11 = true by simp [hA])
            clear hA
            simp only [puts, List.foldl, Act.put, List.setIfInBounds_toArray, List.set_cons_zero, List.set_cons_succ]
            have E11 := F11.out HD11.out
            rw [E11.2.2.2.1]
            clear E11
            have HHd := Lib.hid hd
            clear hd
            go_simp
            refine hK _ _ ?_
            exact ⟨(.tuple #[treeV k2 (.slice a2 j2 c2) x2 m2, .int .i64 0]), v49, v50, v51, v52, v53, v54, v55, v56, v57, v58, v59, (.tuple #[treeV k2 (.slice a2 j2 c2) x2 m2, .int .i64 0]), v61, v62, k2, a2, j2, c2, x2, m2, by simp only [puts, List.foldl, Act.put, List.setIfInBounds_toArray, List.set_cons_zero, List.set_cons_succ], BD,
    OF,
    CE,
    TX,
    F0,
    F1,
    F2,
    F3,
    F4,
    F5,
    F6,
    F7,
    F8,
    F9,
    F10,
    Lib.hid fun h => ⟨(F11.out h).1, (F11.out h).2.1, (F11.out h).2.2.1, rfl, (F11.out h).2.2.2.2⟩,
    Lib.hid fun _ => ⟨HD11.out, rfl⟩,
    Lib.hid fun h => absurd ((F13.out h).1) (by rw [HHd.out]; decide),
    F14,
    F15⟩
          refine StepsI.cons ?stSetJ13 ?moSetJ13
          case stSetJ13 =>
            rintro d a9 w1 ⟨v48, v49, v50, v51, v52, v53, v54, v55, v56, v57, v58, v59, v60, v61, v62, k2, a2, j2, c2, x2, m2, ea, BD, OF, CE, TX, F0, F1, F2, F3, F4, F5, F6, F7, F8, F9, F10, F11, F12, F13, F14, F15⟩ hd hA K hK
            subst ea
            simp [Aft, Region.binds] at hA
            have HD12 := Lib.hid (show d 12 = true by simp [hA])
            clear hA
            simp only [puts, List.foldl, Act.put, List.setIfInBounds_toArray, List.set_cons_zero, List.set_cons_succ]
            have E12 := F12.out HD12.out
            rw [E12.2]
            clear E12
            have HHd := Lib.hid hd
            clear hd
            go_simp
            refine hK _ _ ?_
            exact ⟨(.tuple #[treeV k2 (.slice a2 j2 c2) x2 m2, .int .i64 0]), v49, v50, v51, v52, v53, v54, v55, v56, v57, v58, v59, v60, (treeV k2 (.slice a2 j2 c2) x2 m2), v62, k2, a2, j2, c2, x2, m2, by simp only [puts, List.foldl, Act.put, List.setIfInBounds_toArray, List.set_cons_zero, List.set_cons_succ], BD,
    OF,
    CE,
    TX,
    F0,
    F1,
    F2,
    F3,
    F4,
    F5,
    F6,
    F7,
    F8,
    F9,
    F10,
    F11,
    Lib.hid fun h => ⟨(F12.out h).1, rfl⟩,
    Lib.hid fun _ => ⟨HD12.out, rfl⟩,
    F14,
    Lib.hid fun h => absurd ((F15.out h).1) (by rw [HHd.out]; decide)⟩
          refine StepsI.cons ?stSetJ14 ?moSetJ14
          case stSetJ14 =>
            rintro d a9 w1 ⟨v48, v49, v50, v51, v52, v53, v54, v55, v56, v57, v58, v59, v60, v61, v62, k2, a2, j2, c2, x2, m2, ea, BD, OF, CE, TX, F0, F1, F2, F3, F4, F5, F6, F7, F8, F9, F10, F11, F12, F13, F14, F15⟩ hd hA K hK
            subst ea
            simp [Aft, Region.binds] at hA
            have HD12 := Lib.hid (show d 12 = true by simp [hA])
            clear hA
            simp only [puts, List.foldl, Act.put, List.setIfInBounds_toArray, List.set_cons_zero, List.set_cons_succ]
            have E12 := F12.out HD12.out
            rw [E12.2]
            clear E12
            have HHd := Lib.hid hd
            clear hd
            go_simp
            refine hK _ _ ?_
            exact ⟨(.tuple #[treeV k2 (.slice a2 j2 c2) x2 m2, .int .i64 0]), v49, v50, v51, v52, v53, v54, v55, v56, v57, v58, v59, v60, v61, (.int .i64 0), k2, a2, j2, c2, x2, m2, by simp only [puts, List.foldl, Act.put, List.setIfInBounds_toArray, List.set_cons_zero, List.set_cons_succ], BD,
    OF,
    CE,
    TX,
    F0,
    F1,
    F2,
    F3,
    F4,
    F5,
    F6,
    F7,
    F8,
    F9,
    F10,
    F11,
    Lib.hid fun h => ⟨(F12.out h).1, rfl⟩,
    F13,
    Lib.hid fun _ => rfl,
    F15⟩
          refine StepsI.cons ?stSetJ15 ?moSetJ15
          case stSetJ15 =>
            rintro d a9 w1 ⟨v48, v49, v50, v51, v52, v53, v54, v55, v56, v57, v58, v59, v60, v61, v62, k2, a2, j2, c2, x2, m2, ea, BD, OF, CE, TX, F0, F1, F2, F3, F4, F5, F6, F7, F8, F9, F10, F11, F12, F13, F14, F15⟩ hd hA K hK
            subst ea
            simp [Aft, Region.binds] at hA
            have HD13 := Lib.hid (show d 13 = true by simp [hA])
            clear hA
            simp only [puts, List.foldl, Act.put, List.setIfInBounds_toArray, List.set_cons_zero, List.set_cons_succ]
            have E13 := F13.out HD13.out
            rw [E13.2]
            clear E13
            have HHd := Lib.hid hd
            clear hd
            have OX := OF.out HHd.out
            have O4 := OX.four
            have lX := OX.lt
            go_simp
            generalize hw3 : World.setCell (World.setCell (World.setCell (World.setCell _ _ _) _ _) _ _) _ _ = w3
            have KQ3 : KeepQ Q w1 w3 := KeepQ.set4 hw3 HNQ.out
            refine hK _ _ ?_
            exact ⟨v48, v49, v50, v51, v52, v53, v54, v55, v56, v57, v58, v59, v60, (treeV k2 (.slice a2 j2 c2) x2 m2), v62, k2, a2, j2, c2, x2, m2, by simp only [puts, List.foldl, Act.put, List.setIfInBounds_toArray, List.set_cons_zero, List.set_cons_succ], (HBs.out _ _ _ _ _ _ hw3 BD),
    (Lib.hid fun h => absurd h (by simp [upD])),
    (Lib.hid (CE.out.kq KQ3 HQg.out)),
    (Lib.hid (TX.out.kq KQ3)),
    F0,
    F1,
    F2,
    F3,
    F4,
    F5,
    F6,
    F7,
    F8,
    F9,
    F10,
    Lib.hid fun h => ⟨(F11.out h).1, (F11.out h).2.1, (F11.out h).2.2.1, (F11.out h).2.2.2.1, ((F11.out h).2.2.2.2.kq KQ3)⟩,
    F12,
    Lib.hid fun h => ⟨(F13.out h).1, rfl⟩,
    F14,
    Lib.hid fun _ => ⟨HD13.out, own4 hw3 OX⟩⟩
          exact StepsI.nil
      · have hMn : M = [] := List.length_eq_zero_iff.1 (by omega)
        subst hMn
        rw [hide_nil] at HTX
        have TA := HBD.out.2.1
        have BA := HBD.out.2.2.1
        have GA : Grew w wo := HBD.out.2.2.2.2.1
        have hlX : PX < wo.heap.size := HBD.out.2.2.2.2.2
        have HBA := Lib.hid BA
        have HTA := Lib.hid TA
        obtain ⟨h1, a1, j1, c1, x1, m1, O1, T1⟩ := TA
        have HT1 := Lib.hid T1
        obtain ⟨t0, t1, t2, t3, -⟩ := O1.four
        have lT := O1.lt
        clear BA T1 HBD HOM hlt hML hcr
        go_wp2_with fail
        with_reducible refine (get_f h1 f _ _ _ ex Q _ HT1.out hex).mono ?_
        rintro e w8 ⟨rfl, g8⟩
        have TA8 := Lib.hid (HTA.out.kq (.grew g8) HQT.out)
        have BA8 := Lib.hid (HBA.out.kq (.grew g8) HQB.out)
        have OX8 := OX.grew g8
        have TX8 := Lib.hid (HTX.out.grew g8)
        have GA8 := GA.trans g8
        have hl8 : PX < w8.heap.size := OX8.lt
        rw [HFE.out]
        clear t0 t1 t2 t3 lT O1 HT1 HTA HBA OX HTX GA g8 hlX
        go_upto_if 100 with fail
        go_cut [] from 100 to 106 (fun wx => ∃ (k : Nat) (ao : Option Addr) (jo co : Nat) (xo mo : Int), Own wx PX 28 #[.int .i64 k, .slice ao jo co, .int .i64 xo, .int .i64 mo] ∧ TreeF wx Q k f (.slice ao jo co) xo mo ∧ TreeAt Q wx PT f ∧ TreeAt Q wx PB f ∧ Grew w wx)
        case first =>
          by_cases hf : fe = 0
          · subst hf
            obtain ⟨t0, t1, t2, t3, t4, t5, t6, t7⟩ := OX8.four
            have lX := OX8.lt
            have HFB := Lib.hid (show updG FX ex (0, 0) = f from by rw [← HFX.out, xtra_back HG0.out HFE.out])
            go_wp2_with fail
            with_reducible refine (set_f k FX _ _ _ 0 ex Q _ TX8.out hex (by decide)).mono ?_
            rintro e w9 ⟨k9, s9, x9, m9, rfl, n9, g9⟩
            obtain ⟨a9, j9, c9, rfl⟩ := n9.node.slice
            rw [HFB.out] at n9
            have OX9 := OX8.grew g9
            have TA9 := Lib.hid (TA8.out.kq (.grew g9) HQT.out)
            have BA9 := Lib.hid (BA8.out.kq (.grew g9) HQB.out)
            have GA9 := GA8.trans g9
            have TX9 := Lib.hid (n9.mono (q := Q) (fun c hc _ => HQ.out c (by have hc : w8.heap.size ≤ c := hc; omega)))
            clear t0 t1 t2 t3 t4 t5 t6 t7 lX OX8 n9 g9 TA8 BA8 GA8 TX8
            obtain ⟨t0, t1, t2, t3, t4, t5, t6, t7⟩ := OX9.four
            have lX := OX9.lt
            go_wp2_with fail
            generalize hw3 : World.setCell (World.setCell (World.setCell (World.setCell _ _ _) _ _) _ _) _ _ = w10
            go_meet
            have kq := KeepQ.set4 hw3 HNQ.out
            exact ⟨k9, a9, j9, c9, x9, m9, own4 hw3 OX9, TX9.out.kq kq, TA9.out.kq kq HQT.out, BA9.out.kq kq HQB.out, grew4 hw3 GA9 hWX⟩
          · have e1 : (fe == 0) = false := by simpa using hf
            have HFF := Lib.hid (show FX = f from by rw [← HFX.out, xtraF, if_neg (by rw [HFE.out]; exact hf)])
            go_wp2_with fail
            go_meet
            exact ⟨k, ao, jo, co, xo, mo, OX8, by rw [← HFF.out]; exact TX8.out, TA8.out, BA8.out, GA8⟩
        case rest =>
          clear OX8 TX8 TA8 BA8 GA8 hl8
          clear k ao jo co xo mo
          obtain ⟨k, ao, jo, co, xo, mo, OX, TX, TA, BA, GA⟩ := hcut
          obtain ⟨h1, a1, j1, c1, x1, m1, O1, T1⟩ := TA
          obtain ⟨h2, a2, j2, c2', x2, m2, O2, T2⟩ := BA
          have HTX := Lib.hid TX
          have HT1 := Lib.hid T1
          have HT2 := Lib.hid T2
          obtain ⟨t0, t1, t2, t3, -⟩ := O1.four
          obtain ⟨u0, u1, u2, u3, -⟩ := O2.four
          have lT := O1.lt
          have lU := O2.lt
          clear TX T1 T2
          go_wp2_with fail
          with_reducible refine (same_trees HT2.out HT1.out).mono ?_
          rintro e w12 ⟨rfl, g12⟩
          have OX2 := OX.grew g12
          have O12 := O1.grew g12
          have HTX2 := Lib.hid (HTX.out.grew g12)
          have HT12 := Lib.hid (HT1.out.grew g12)
          have GA2 := GA.trans g12
          clear t0 t1 t2 t3 u0 u1 u2 u3 lT lU OX O1 O2 HTX HT1 HT2 GA g12
          obtain ⟨t0, t1, t2, t3, -⟩ := O12.four
          obtain ⟨u0, u1, u2, u3, -⟩ := OX2.four
          have lT := O12.lt
          have lU := OX2.lt
          go_wp2_with fail
          with_reducible refine (same_trees HTX2.out HT12.out).mono ?_
          rintro e w13 ⟨rfl, g13⟩
          have GA3 := GA2.trans g13
          clear t0 t1 t2 t3 u0 u1 u2 u3 lT lU OX2 O12 HTX2 HT12 GA2 g13
          go_wp2_with fail
          with_reducible refine (awake_any _).mono ?_
          rintro e w40 ⟨rfl, g40⟩
          go_wp2
          go_ret
          exact ⟨rfl, GA3.trans g40⟩

theorem Try.own : ownKnob Try.prog.godebug = none := by kernel_rfl
theorem Try.laidOut : laidOutB Try.prog = true := by kernel_rfl

theorem radixOrder_contract (W : World) (base : Nat) (args : Array Value) (H : Type) (enc : TypeId × Value → H) (ds : List (DataW H)) (p : List MemPlace)
    (hval : ∀ (j : Nat) t v, Try.f6.params[j]? = some t → args[j]? = some v → Value.okWide Try.prog W .any base t v)
    (hA : DataW.TrodAll enc Try.prog W 0 (fun _ => true) true Try.f6.params.toList args.toList ds p) :
    (∃ d0 d1, ds = [d0, d1]) ∧ Calls Try.prog 6 args W fun e W' => e = .returned (.bool true) ∧ Below W.heap.size W W' := by
  rw [Try.params6] at hval hA
  obtain ⟨v0, v1, d0, d1, p0, p1, ha, hd, hp, h0, h1⟩ := args_2 hA
  subst ha hd
  obtain ⟨A0, c0, xs0, rfl, hr0, hm0⟩ := open_introw Try.underlying22 Try.underlying3 (by kernel_rfl) (hval 0 _ _ rfl rfl) h0
  obtain ⟨A1, c1, xs1, rfl, hr1, hm1⟩ := open_introw Try.underlying22 Try.underlying3 (by kernel_rfl) (hval 1 _ _ rfl rfl) h1
  exact ⟨⟨_, _, rfl⟩, (order_core A0 c0 xs0 A1 c1 xs1 W hr0 hm0 hr1 hm1).mono fun _ _ h => h⟩

set_option maxRecDepth 100000 in
theorem radixOrder_lifted (os : Os) (started : os.Started) (H : Type) (enc : TypeId × Value → H) :
    ReturnsInHanded {} Try.checked os 6 .any (Rows.radixOrderSpec.pre6 enc Try.prog Try.f6 Rows.radixOrderRow.domain false) (Rows.radixOrderSpec.post enc Try.prog Try.f6 false true false false) := by
  refine returnsInHanded_of_change (C := Try.checked) Try.own started (by kernel_rfl) Try.func6
    (ChangeSpec.witness6 (enc := enc) (C := Try.checked) false ⟨#[], #[.slice none 0 0, .slice none 0 0], []⟩ 8 (by kernel_rfl) (by kernel_rfl) (by kernel_rfl) (by kernel_rfl)) ?_
  intro W base args ds gs before hval hW _ _
  obtain ⟨p, q, hA, hV, hrest⟩ := id hW
  obtain ⟨⟨d0, d1, rfl⟩, hc⟩ := radixOrder_contract W base args H enc ds p hval hA
  obtain ⟨rfl, -⟩ := trodVars_none hV
  refine hc.mono fun e W' ⟨he, hb⟩ => ⟨_, he, ?_⟩
  exact law_close (tb := 4) Try.laidOut (by rw [Try.params6]; decide +kernel) Try.underlying4 rfl rfl hW rfl rfl rfl hb

theorem radixOrder_holds : Rows.RadixOrderSaid :=
  OpenClaim.holds_of_wide 6 Try.f6 rfl rfl rfl rfl rfl rfl rfl ⟨rfl, rfl, rfl, rfl, rfl⟩ rfl rfl rfl rfl rfl (by kernel_rfl) Try.func6 (by kernel_rfl)
    (of_decide_eq_true (by kernel_rfl)) (by unfold Func.isWrapper; first | (rw [if_pos (by decide +kernel)]; kernel_rfl) | (rw [if_neg (by decide +kernel)]; exact ⟨rfl, rfl⟩))
    (fun os started H enc _ => radixOrder_lifted os started H enc)
end Go.Proofs.Ytigmkgdalklnpaa
