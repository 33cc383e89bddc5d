/- The program's Scan: what a round of its loop keeps (layer 8). -/
import Derived.Test.YteaofieijginhaaLp8
namespace Go.Proofs.Yteaofieijginhaa
open Go.RowKit Go.Mine Go.Shelf

section
variable {e0 n₀ bs : Nat} {W W1 W2 : World}
/-- What a round has kept so far. -/
def Trk (_e0 n₀ bs : Nat) (W W' : World) : Prop := KeepsOthers W W' ∧ KpB n₀ bs W W'
theorem Trk.refl (W : World) : Trk e0 n₀ bs W W := ⟨KeepsOthers.refl W, Below.refl _ _, rfl⟩
theorem Trk.keeps (h : Trk e0 n₀ bs W W1) : KeepsFrom e0 W W1 := h.1.from e0
theorem Trk.by_ (h : Trk e0 n₀ bs W W1) {r : Option Nat} (g : W1.grownBy W2 r) (hc : ∀ k, r = some k → n₀ ≤ k ∧ k ≠ bs ∧ ∀ o, W1.heap[k]? = some o → o.isCells = true) (hn : n₀ ≤ W1.heap.size) (hb : bs < W1.heap.size) : Trk e0 n₀ bs W W2 :=
  ⟨h.1.trans (KeepsOthers.of_grownBy g fun j o e ho => (hc j e).2.2 o ho), h.2.1.trans ((Below.refl n₀ W1).grown g hn (fun k e => (hc k e).1)), (g.block bs hb (fun e => (hc bs e.symm).2.1 rfl)).trans h.2.2⟩
theorem Trk.grew (h : Trk e0 n₀ bs W W1) (g : Grew W1 W2) (hn : n₀ ≤ W1.heap.size) (hb : bs < W1.heap.size) : Trk e0 n₀ bs W W2 := h.by_ g.grown (fun k e => by cases e) hn hb
theorem Trk.set (h : Trk e0 n₀ bs W W1) {p : Addr} (u : Value) (hp : n₀ ≤ p.block) (hb : bs ≠ p.block) : Trk e0 n₀ bs W (W1.setCell p u) :=
  ⟨h.1.trans (KeepsOthers.setCell _ _ _), h.2.1.setCell hp u, (Below.heap_setCell W1 p u bs hb).trans h.2.2⟩
theorem Trk.drew (h : Trk e0 n₀ bs W W1) : Trk e0 n₀ bs W W1.drew := ⟨h.1.trans (KeepsOthers.drew _), Below.drew h.2.1, h.2.2⟩
end
theorem own_cellsOnly {w : World} {g : Nat} {t : TypeId} {cs : Array Value} (h : Mine.Own w g t cs) : ∀ o, w.heap[g]? = some o → o.isCells = true := fun o ho => by
  have h' : w.heap[g]? = some (.cells cs t (0, 0)) := h
  rw [h'] at ho
  cases ho
  rfl
theorem row_block {w : World} {B : Nat} {v : Value} {L : List Int} (h : RwI w B v L) {k : Nat} (hk : v.ownBlock = some k) : ∃ cur, Mine.Own w k 3 cur := by
  obtain ⟨-, h2 | ⟨g0, cap, cur, e, -, hg, -⟩⟩ := h
  · rw [h2.1] at hk; cases hk
  · subst e
    injection hk with hk
    exact ⟨cur, hk ▸ hg⟩
/-- What the memory holds between two rounds: the box gn the lists cur, the box vb the victims V. -/
structure ScM (w : World) (sx gn vb hb mb bs nH e0 : Nat) (n : Int) (H : List Int) (A : Array Value) (vi : Value) (cur : Lr) (V : List Int) (ua ui ur vv : Value) (W : World) : Prop where
  X : Mine.Own W sx 27 A
  K : Mine.Own W (sx + 1) 3 #[.int .i64 n]
  S : Mine.Own W (sx + 2) 27 n3
  N : Mine.Own W gn 27 #[ua, ui, ur]
  Vb : Mine.Own W vb 22 #[vv]
  Hb : Mine.Own W hb 52 #[.map (some mb)]
  Bs : Mine.Own W bs 22 #[vi]
  M : BS W mb nH (hlB H)
  R : LrR W (sx + 3) ua ui ur cur
  RV : RwI W e0 vv V
  F : Far3 gn ua ui ur
  FV : Far3 vb ua ui ur
  Sp : Sep vv ua ∧ Sep vv ui ∧ Sep vv ur
  G : Grew w W
section
variable {w W W' : World} {sx gn vb hb mb bs nH e0 : Nat} {n : Int} {H : List Int} {A : Array Value} {vi : Value} {cur : Lr} {V : List Int} {ua ui ur vv : Value}
/-- The memory abides what turns no cells of it. -/
theorem ScM.by_ (h : ScM w sx gn vb hb mb bs nH e0 n H A vi cur V ua ui ur vv W) {r : Option Nat} (g : W.grownBy W' r) (hr : ∀ k, r = some k → e0 ≤ k ∧ ∃ o : Obj, W.heap[k]? = some o ∧ o.isCells = false) (hm : mb < e0) (he : w.heap.size ≤ e0) :
    ScM w sx gn vb hb mb bs nH e0 n H A vi cur V ua ui ur vv W' := by
  have own : ∀ {q : Nat} {t : TypeId} {cs : Array Value}, Mine.Own W q t cs → r ≠ some q := fun ho e => by
    obtain ⟨-, o, h1, h2⟩ := hr _ e
    rw [own_cellsOnly ho o h1] at h2
    cases h2
  have row : ∀ {B : Nat} {v : Value} {L : List Int}, RwI W B v L → ∀ k, r = some k → v.ownBlock ≠ some k := fun hR k e ho => by
    obtain ⟨cs, hO⟩ := row_block hR ho
    exact own hO e
  exact ⟨h.X.keptN g (own h.X), h.K.keptN g (own h.K), h.S.keptN g (own h.S), h.N.keptN g (own h.N), h.Vb.keptN g (own h.Vb), h.Hb.keptN g (own h.Hb), h.Bs.keptN g (own h.Bs),
    h.M.kept g (fun e => by have := (hr mb e).1; omega), ⟨RowE.keptG h.R.a g (row h.R.a), RowE.keptG h.R.i g (row h.R.i), RowE.keptG h.R.r g (row h.R.r)⟩, RowE.keptG h.RV g (row h.RV), h.F, h.FV, h.Sp,
    h.G.keptA g (fun x e => (hr x e).1) he⟩
theorem ScM.grew (h : ScM w sx gn vb hb mb bs nH e0 n H A vi cur V ua ui ur vv W) (g : Grew W W') : ScM w sx gn vb hb mb bs nH e0 n H A vi cur V ua ui ur vv W' :=
  ⟨h.X.grew g, h.K.grew g, h.S.grew g, h.N.grew g, h.Vb.grew g, h.Hb.grew g, h.Bs.grew g, h.M.grew g, h.R.grew g, h.RV.grew g, h.F, h.FV, h.Sp, h.G.trans g⟩
theorem ScM.drew (h : ScM w sx gn vb hb mb bs nH e0 n H A vi cur V ua ui ur vv W) : ScM w sx gn vb hb mb bs nH e0 n H A vi cur V ua ui ur vv W.drew := h.grew (Grew.refl W).drew
/-- Inactive and Ref are stored anew. -/
theorem ScM.store2 (h : ScM w sx gn vb hb mb bs nH e0 n H A vi cur V ua ui ur vv W) {I R : List Int} {ui' ur' : Value} {B1 B2 : Nat} (hI : RwI W B1 ui' I) (hR : RwI W B2 ur' R) (h1 : e0 ≤ B1) (h2 : e0 ≤ B2) (hV1 : Sep vv ui') (hV2 : Sep vv ur')
    (hg : gn < e0) (hv : vb < e0) (hs : sx + 3 ≤ gn) (d1 : gn ≠ vb) (d2 : gn ≠ hb) (d3 : gn ≠ bs) (d4 : gn ≠ mb) (hw : w.heap.size ≤ gn) :
    ScM w sx gn vb hb mb bs nH e0 n H A vi ⟨cur.a, I, R⟩ V ua ui' ur' vv ((W.setCell ⟨gn, 1, none⟩ ui').setCell ⟨gn, 2, none⟩ ur') := by
  have G : W.grownBy ((W.setCell ⟨gn, 1, none⟩ ui').setCell ⟨gn, 2, none⟩ ur') (some gn) := grown_set (p := ⟨gn, 2, none⟩) (grown_set (p := ⟨gn, 1, none⟩) (grown_refl _ _) (.inl rfl) _) (.inl rfl) _
  have row : ∀ {B : Nat} {v : Value} {L : List Int}, RwI W B v L → v.ownBlock ≠ some gn → RwI ((W.setCell ⟨gn, 1, none⟩ ui').setCell ⟨gn, 2, none⟩ ur') B v L := fun hR hn => RowE.keptG hR G (fun k e => by injection e with e; exact e ▸ hn)
  have n1 := far_of hI (show gn < B1 by omega)
  have n2 := far_of hR (show gn < B2 by omega)
  refine ⟨h.X.past G (by omega), h.K.past G (by omega), h.S.past G (by omega), ?_, h.Vb.past G (by omega), h.Hb.past G (by omega), h.Bs.past G (by omega), h.M.kept G (fun e => by injection e with e <;> omega),
    ⟨row h.R.a h.F.1, RowE.wider (row hI n1) (by omega), RowE.wider (row hR n2) (by omega)⟩, row h.RV (far_of h.RV hg), ⟨h.F.1, n1, n2⟩, ⟨h.FV.1, far_of hI (by omega), far_of hR (by omega)⟩, ⟨h.Sp.1, hV1, hV2⟩, h.G.keptA G (B := gn) (fun x e => by injection e with e <;> omega) hw⟩
  exact (h.N.set 1 ui').set 2 ur'
/-- A victim more. -/
theorem ScM.app (h : ScM w sx gn vb hb mb bs nH e0 n H A vi cur V ua ui ur vv W) {W1 : World} {V1 : List Int} {vv' : Value} (hV : RwI W1 e0 vv' V1) (G : W.grownBy W1 vv.ownBlock) (hS : Sep vv' ua ∧ Sep vv' ui ∧ Sep vv' ur)
    (hg : gn < e0) (hv : vb < e0) (hh : hb < e0) (hbs : bs < e0) (hm : mb < e0) (hs : sx + 3 ≤ e0) (d0 : sx + 3 ≤ vb) (d1 : vb ≠ gn) (d2 : vb ≠ hb) (d3 : vb ≠ bs) (d4 : vb ≠ mb) (hw : w.heap.size ≤ vb) :
    ScM w sx gn vb hb mb bs nH e0 n H A vi cur V1 ua ui ur vv' (W1.setCell ⟨vb, 0, none⟩ vv') := by
  have own : ∀ {q : Nat} {t : TypeId} {cs : Array Value}, Mine.Own W q t cs → q < e0 → Mine.Own W1 q t cs := fun ho hq => ho.keptN G (far_of h.RV hq)
  have row : ∀ {B : Nat} {v : Value} {L : List Int}, RwI W B v L → Sep vv v → RwI W1 B v L := fun hR hs => RowE.keptG hR G (fun k e => hs k e)
  have G2 : W1.grownBy (W1.setCell ⟨vb, 0, none⟩ vv') (some vb) := grown_set (p := ⟨vb, 0, none⟩) (grown_refl _ _) (.inl rfl) _
  have row2 : ∀ {B : Nat} {v : Value} {L : List Int}, RwI W1 B v L → v.ownBlock ≠ some vb → RwI (W1.setCell ⟨vb, 0, none⟩ vv') B v L := fun hR hn => RowE.keptG hR G2 (fun k e => by injection e with e; exact e ▸ hn)
  refine ⟨(own h.X (by omega)).past G2 (by omega), (own h.K (by omega)).past G2 (by omega), (own h.S (by omega)).past G2 (by omega), (own h.N hg).past G2 (by omega), ?_, (own h.Hb hh).past G2 (by omega), (own h.Bs hbs).past G2 (by omega),
    (h.M.kept G (far_of h.RV hm)).kept G2 (fun e => by injection e with e <;> omega), ⟨row2 (row h.R.a h.Sp.1) h.FV.1, row2 (row h.R.i h.Sp.2.1) h.FV.2.1, row2 (row h.R.r h.Sp.2.2) h.FV.2.2⟩, row2 hV (far_of hV hv), h.F, h.FV, hS,
    (h.G.keptA G (fun x e => h.RV.above x e) (by omega)).keptA G2 (B := vb) (fun x e => by injection e with e <;> omega) hw⟩
  exact (own h.Vb hv).set 0 vv'
end
theorem psL_len {h : Int → Bool} {rr : List Int} : ∀ (l : List Int) (s : Lr × List Int), (psL h rr l s).1.a.length = s.1.a.length ∧ (psL h rr l s).1.i.length ≤ s.1.i.length + l.length ∧ (psL h rr l s).1.r.length ≤ s.1.r.length ∧ (psL h rr l s).2.length ≤ s.2.length + l.length
  | [], _ => ⟨rfl, Nat.le_refl _, Nat.le_refl _, Nat.le_refl _⟩
  | f :: l, s => by
    obtain ⟨h1, h2, h3, h4⟩ := psL_len (h := h) (rr := rr) l (psS h rr f s)
    have h5 : (psS h rr f s).1.a.length = s.1.a.length ∧ (psS h rr f s).1.i.length ≤ s.1.i.length + 1 ∧ (psS h rr f s).1.r.length ≤ s.1.r.length ∧ (psS h rr f s).2.length ≤ s.2.length + 1 := by
      unfold psS
      cases h f
      · cases decide (f ∈ rr)
        · exact ⟨rfl, Nat.le_succ _, Nat.le_refl _, by show (s.2 ++ [f]).length ≤ _; simp⟩
        · exact ⟨rfl, by show (wol s.1.i f).length + 1 ≤ _; have := wol_len s.1.i f; omega, wol_len _ _, Nat.le_succ _⟩
      · exact ⟨rfl, Nat.le_succ _, Nat.le_refl _, Nat.le_succ _⟩
    show (psL h rr l (psS h rr f s)).1.a.length = _ ∧ _
    rw [List.length_cons]
    refine ⟨h1.trans h5.1, ?_, ?_, ?_⟩
    · show (psL h rr l (psS h rr f s)).1.i.length ≤ _; omega
    · show (psL h rr l (psS h rr f s)).1.r.length ≤ _; omega
    · show (psL h rr l (psS h rr f s)).2.length ≤ _; omega
/-- What the lists and the victims are behind the places pre. -/
def stP (H : List Int) (x : Lr) (pre : List (Fin x.i.length)) : Lr × List Int := psL (hlB H) x.r (frL x.i pre) (x, [])
theorem stP_snoc (H : List Int) (x : Lr) (pre : List (Fin x.i.length)) (j : Fin x.i.length) : stP H x (pre ++ [j]) = psS (hlB H) x.r (x.i.getD j.val 0) (stP H x pre) := by
  unfold stP frL
  rw [List.map_append]
  exact psL_snoc _ _ _
theorem stP_len (H : List Int) (x : Lr) (pre : List (Fin x.i.length)) : (stP H x pre).1.a.length = x.a.length ∧ (stP H x pre).1.i.length ≤ x.i.length + pre.length ∧ (stP H x pre).1.r.length ≤ x.r.length ∧ (stP H x pre).2.length ≤ pre.length := by
  have := psL_len (h := hlB H) (rr := x.r) (frL x.i pre) (x, [])
  unfold stP
  rw [show (frL x.i pre).length = pre.length by unfold frL; simp] at this
  simpa using this
end Go.Proofs.Yteaofieijginhaa
