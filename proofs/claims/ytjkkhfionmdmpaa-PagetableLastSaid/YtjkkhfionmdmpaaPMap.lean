/- Maps from a pair of ints to an entry, that a call keeps, told by a list of entries: words of my own, no program is named here. -/
import Derived.Test.YtjkkhfionmdmpaaPtM
import Derived.Maps.OwnSet
import Derived.Maps.OwnOps
import Derived.Maps.Views
import Derived.Maps.Range
import Derived.WideKeyPair
import Derived.ChangeKeysEq
namespace Go.Mine
open Go Go.RowKit Go.Maps Go.WideMaps

abbrev kT (p v : Int) : Lit := .string (keyBytes [.int .i64 p, .int .i64 v])
abbrev kV (p v : Int) : Value := .agg #[.int .i64 p, .int .i64 v]
/-- The words about the key's type. -/
structure PairKey (P : Program) (K I : TypeId) : Prop where
  arr : ArrKey P K I 2
  int : P.underlying I = some (.int .i64)
  sz : ∃ m, P.types.size = m + 1
section
variable {P : Program} {K I : TypeId} (A : PairKey P K I)
include A
theorem PairKey.keyed : Keyed P K := Keyed.of_law A.arr.law
theorem PairKey.of {p v : Int} (hp : (Lit.int .i64 p).wf = true) (hv : (Lit.int .i64 v).wf = true) : keyOf P K (kV p v) = some (kT p v) := keyOf_pair A.arr A.int A.sz hp hv
theorem PairKey.inv {key : Value} {kl : Lit} (h : keyOf P K key = some kl) : ∃ p v, (Lit.int .i64 p).wf = true ∧ (Lit.int .i64 v).wf = true ∧ key = kV p v ∧ kl = kT p v := by
  have h0 := h
  obtain ⟨m, hm⟩ := A.sz
  unfold keyOf at h
  simp only [A.arr.hu] at h
  split at h
  · rename_i hc
    simp only [Option.map_eq_some_iff] at h
    obtain ⟨ls, hl, rfl⟩ := h
    rw [hm] at hl
    unfold Program.keyLits at hl
    simp only [A.arr.hu] at hl
    split at hl
    · rename_i hlen
      rw [show List.range 2 = [0, 1] from rfl, List.mapM_cons, List.mapM_cons, List.mapM_nil] at hl
      simp only [bind, Option.bind_eq_some_iff, pure, Option.map_eq_some_iff, Option.some.injEq, A.arr.one] at hl
      obtain ⟨_, ⟨y0, h1, _, ⟨y1, h2, _, rfl, rfl⟩, rfl⟩, rfl⟩ := hl
      have w1 := keyLits_wf h1
      have w2 := keyLits_wf h2
      obtain ⟨p, e1, rfl⟩ := keyLits_int' A.int h1
      obtain ⟨v, e2, rfl⟩ := keyLits_int' A.int h2
      have hf : key.formed P K = true := by
        simp only [Bool.and_eq_true] at hc
        exact hc.2
      rw [A.arr.size] at hlen
      cases key with
      | agg cs =>
        obtain ⟨l⟩ := cs
        simp only [Value.cells] at hlen e1 e2
        match l, hlen, e1, e2 with
        | [a, b], _, e1, e2 =>
          simp at e1 e2
          subst e1 e2
          refine ⟨p, v, ?_, ?_, rfl, rfl⟩
          · exact w1 (.int .i64 p) (List.mem_singleton.2 rfl)
          · exact w2 (.int .i64 v) (List.mem_singleton.2 rfl)
      | _ => simp [Value.formed, A.arr.hu] at hf
    · cases hl
  · cases h
theorem PairKey.ne {p v p' v' : Int} (hp : (Lit.int .i64 p).wf = true) (hv : (Lit.int .i64 v).wf = true) (hp' : (Lit.int .i64 p').wf = true) (hv' : (Lit.int .i64 v').wf = true) (h : ¬(p' = p ∧ v' = v)) : kT p' v' ≠ kT p v := by
  intro e
  have h1 := A.of hp' hv'
  rw [e] at h1
  have h2 := A.keyed.inj h1 (A.of hp hv)
  injection h2 with h2
  have h3 := congrArg Array.toList h2
  simp at h3
  exact h h3
end
/-! How an element reads. -/
def datT (x : Pt) : DataW Unit := .agg [.lit (.int .i64 x.p), .lit (.int .i64 x.v), .lit (.int .i64 x.f), .lit (.bool x.w), .lit (.bool x.a)]
theorem datT_inj {x y : Pt} (h : datT x = datT y) : x = y := by
  unfold datT at h
  injection h with h
  obtain ⟨p, v, f, a, b⟩ := x
  obtain ⟨p', v', f', a', b'⟩ := y
  simp at h
  obtain ⟨rfl, rfl, rfl, rfl, rfl⟩ := h
  rfl
def ptElem : Value → Option (DataW Unit × List MemPlace)
  | .agg cs => (match cs.toList with | [.int .i64 p, .int .i64 v, .int .i64 f, .bool w, .bool a] => some (datT ⟨p, v, f, w, a⟩, []) | _ => none)
  | _ => none
theorem ptElem_mk (x : Pt) : ptElem (ptV x) = some (datT x, []) := rfl
theorem ptElem_inv {v : Value} {z : DataW Unit × List MemPlace} (h : ptElem v = some z) : ∃ x, v = ptV x ∧ z.1 = datT x := by
  unfold ptElem at h
  split at h
  · rename_i cs
    split at h
    · rename_i p v f w a he
      injection h with h
      subst h
      exact ⟨⟨p, v, f, w, a⟩, by obtain ⟨l⟩ := cs; simp at he; subst he; rfl, rfl⟩
    · cases h
  · cases h
/-! What a datum says. -/
abbrev wfI (x : Int) : Prop := (Lit.int .i64 x).wf = true
structure SaysT (D : DataW Unit) (L : List Pt) : Prop where
  has : ∀ p v, wfI p → wfI v → Maps.has D (kT p v) = (fndT L p v).isSome
  at' : ∀ p v, wfI p → wfI v → ∀ x, fndT L p v = some x → ∀ z, D.atKey (kT p v) z = datT x
  size : Maps.size D = L.length
def delT (L : List Pt) (p v : Int) : List Pt := L.filter fun x => !decide (x.p = p ∧ x.v = v)
theorem fndT_del {L : List Pt} (h : ascT L) (p v p' v' : Int) : fndT (delT L p v) p' v' = if p' = p ∧ v' = v then none else fndT L p' v' := by
  unfold delT
  rw [fndT_filter h]
  cases hk : fndT L p' v' with
  | none => simp
  | some x =>
    obtain ⟨-, h1, h2⟩ := fndT_some hk
    by_cases e : p' = p ∧ v' = v
    · rw [if_pos e, Option.filter_some_neg]
      rw [decide_eq_true (by omega)]; simp
    · rw [if_neg e, Option.filter_some_pos]
      rw [decide_eq_false (by omega)]; simp
theorem len_del : ∀ {L : List Pt} {p v : Int}, ascT L → (delT L p v).length + (if (fndT L p v).isSome then 1 else 0) = L.length
  | [], _, _, _ => rfl
  | y :: l, p, v, h => by
    obtain ⟨ha, hb⟩ := List.pairwise_cons.1 h
    have ih := len_del (p := p) (v := v) hb
    by_cases e : y.p = p ∧ y.v = v
    · have hn : fndT l p v = none := fndT_none.2 fun x hx hm => by have := ltT_iff.1 (ha x hx); omega
      rw [hn] at ih
      rw [fndT_y e]
      have : delT (y :: l) p v = delT l p v := List.filter_cons_of_neg (by rw [decide_eq_true e]; simp)
      rw [this, List.length_cons]
      simp at ih ⊢
      omega
    · rw [fndT_n e]
      have : delT (y :: l) p v = y :: delT l p v := List.filter_cons_of_pos (by rw [decide_eq_false e]; rfl)
      rw [this, List.length_cons, List.length_cons]
      omega
theorem asc_del {L : List Pt} (h : ascT L) (p v : Int) : ascT (delT L p v) := h.filter _
theorem SaysT.nil : SaysT (.map []) [] := ⟨fun _ _ _ _ => rfl, fun _ _ _ _ _ h => (by cases h), rfl⟩
section
variable {P : Program} {K I T E : TypeId} {D : DataW Unit} {L : List Pt}
theorem SaysT.put (h : SaysT D L) (A : PairKey P K I) (hL : ascT L) (ty : Tidy D) {x : Pt} (hp : wfI x.p) (hv : wfI x.v) : SaysT (D.put (kT x.p x.v) (datT x)) (insT L x) := by
  have isk := A.keyed.key (A.of hp hv)
  refine ⟨fun p v wp wv => ?_, fun p v wp wv y hy z => ?_, ?_⟩
  · rw [fndT_ins]
    by_cases e : x.p = p ∧ x.v = v
    · obtain ⟨rfl, rfl⟩ := e
      rw [has_put_same ty.isMap isk, if_pos ⟨rfl, rfl⟩]; rfl
    · rw [has_put_other (A.ne hp hv wp wv (by omega)), if_neg e]; exact h.has p v wp wv
  · rw [fndT_ins] at hy
    by_cases e : x.p = p ∧ x.v = v
    · rw [if_pos e] at hy
      injection hy with hy
      subst hy
      obtain ⟨rfl, rfl⟩ := e
      rw [atKey_put_same ty.isMap isk]
    · rw [if_neg e] at hy
      rw [atKey_put_other (A.ne hp hv wp wv (by omega))]; exact h.at' p v wp wv y hy z
  · rw [size_put ty, h.has _ _ hp hv, len_insT hL, h.size]
    cases (fndT L x.p x.v).isSome <;> rfl
theorem SaysT.del (h : SaysT D L) (A : PairKey P K I) (hL : ascT L) (ty : Tidy D) {p v : Int} (hp : wfI p) (hv : wfI v) : SaysT (D.del (kT p v)) (delT L p v) := by
  refine ⟨fun p' v' wp wv => ?_, fun p' v' wp wv y hy z => ?_, ?_⟩
  · rw [fndT_del hL]
    by_cases e : p' = p ∧ v' = v
    · obtain ⟨rfl, rfl⟩ := e
      rw [has_del_same, if_pos ⟨rfl, rfl⟩]; rfl
    · rw [has_del_other (A.ne hp hv wp wv e), if_neg e]; exact h.has p' v' wp wv
  · rw [fndT_del hL] at hy
    by_cases e : p' = p ∧ v' = v
    · rw [if_pos e] at hy; cases hy
    · rw [if_neg e] at hy
      rw [atKey_del_other (A.ne hp hv wp wv e)]; exact h.at' p' v' wp wv y hy z
  · have h1 := size_del (k := kT p v) ty
    have h2 := len_del (p := p) (v := v) hL
    rw [h.has _ _ hp hv, h.size] at h1
    omega
end
/-- Block b is such a map; n bounds its entries. -/
def PMap (P : Program) (K : TypeId) (w : World) (b n : Nat) (L : List Pt) : Prop := ∃ D : DataW Unit, w.ownsMap P K ptElem b n D ∧ SaysT D L
/-- r is on its way over it; left: what is to come. -/
def RgT (P : Program) (K : TypeId) (w : World) (b r n : Nat) (L : List Pt) (left : Lit → Bool) : Prop := ∃ (D : DataW Unit) (cnt : Nat), w.ranges P K ptElem b r n D left cnt ∧ SaysT D L
section
variable {P : Program} {K I E T : TypeId} {w w' : World} {b r n : Nat} {L : List Pt} {left : Lit → Bool}
theorem PMap.made (w : World) (P : Program) (K : TypeId) : PMap P K (w.alloc (.map #[] 0)) w.heap.size 0 [] := ⟨_, World.ownsMap_made w P K _, SaysT.nil⟩
theorem PMap.lt (h : PMap P K w b n L) : b < w.heap.size := h.elim fun _ h => h.1.lt
theorem PMap.kept {r : Option Nat} (h : PMap P K w b n L) (k : w.grownBy w' r) (hr : r ≠ some b) : PMap P K w' b n L := by
  obtain ⟨D, h1, h2⟩ := h
  exact ⟨D, h1.kept k (Ne.symm hr), h2⟩
theorem PMap.grew (h : PMap P K w b n L) (k : Grew w w') : PMap P K w' b n L := h.kept k.grown (by simp)
theorem PMap.alloc (h : PMap P K w b n L) (o : Obj) : PMap P K (w.alloc o) b n L := h.kept (World.grownBy_alloc w o none) (by simp)
theorem PMap.drewN (h : PMap P K w b n L) (k : Nat) : PMap P K (w.drewN k) b n L := h
theorem PMap.drew (h : PMap P K w b n L) : PMap P K w.drew b n L := h
theorem PMap.setCell (h : PMap P K w b n L) {a : Addr} (ha : b ≠ a.block) (u : Value) : PMap P K (w.setCell a u) b n L := by
  obtain ⟨D, h1, h2⟩ := h
  exact ⟨D, h1.setCell ha u, h2⟩
theorem PMap.mono {m : Nat} (h : PMap P K w b n L) (hm : n ≤ m) : PMap P K w b m L := by
  obtain ⟨D, h1, h2⟩ := h
  exact ⟨D, h1.mono hm, h2⟩
theorem PMap.len (h : PMap P K w b n L) (ht : P.underlying T = some (.map K E)) (ty : TypeId) : (Builtin.len_ #[T] ty #[.map (some b)]).run P w = .ok (.int .i64 L.length) w := by
  obtain ⟨D, h1, h2⟩ := h
  rw [h1.len ht ty, h2.size]
theorem PMap.store (h : PMap P K w b n L) (A : PairKey P K I) (ht : P.underlying T = some (.map K E)) (hL : ascT L) (hn : n < maxLen) {x : Pt} (hp : wfI x.p) (hv : wfI x.v) :
    ∃ w', (Instr.mapUpdate T (.map (some b)) (kV x.p x.v) (ptV x)).run P w = .ok () w' ∧ PMap P K w' b (n + 1) (insT L x) ∧ w.grownBy w' (some b) := by
  obtain ⟨D, h1, h3⟩ := h
  obtain ⟨w', hr, ho, hg⟩ := h1.update A.keyed ht hn (A.of hp hv) (ptElem_mk x)
  exact ⟨w', hr, ⟨_, ho, h3.put A hL (h1.tidy A.keyed) hp hv⟩, hg⟩
theorem PMap.del (h : PMap P K w b n L) (A : PairKey P K I) (ht : P.underlying T = some (.map K E)) (hL : ascT L) {p v : Int} (hp : wfI p) (hv : wfI v) :
    ∃ w', (∀ ty, (Builtin.delete_ #[T, K] ty #[.map (some b), kV p v]).run P w = .ok (.tuple #[]) w') ∧ PMap P K w' b n (delT L p v) ∧ w.grownBy w' (some b) := by
  obtain ⟨D, h1, h3⟩ := h
  obtain ⟨w', hr, ho, hg⟩ := h1.drop A.keyed ht (A.of hp hv) 0
  exact ⟨w', fun ty => hr, ⟨_, ho, h3.del A hL (h1.tidy A.keyed) hp hv⟩, hg.grown⟩
theorem PMap.range (h : PMap P K w b n L) (A : PairKey P K I) (ht : P.underlying T = some (.map K E)) :
    ∃ w' left, (Instr.range T (.map (some b))).run P w = .ok (.pointer (some ⟨w.heap.size, 0, none⟩)) w' ∧ RgT P K w' b w.heap.size n L left ∧ (∀ p v, wfI p → wfI v → left (kT p v) = (fndT L p v).isSome) ∧ Grew w w' ∧ w'.heap.size = w.heap.size + 1 := by
  obtain ⟨D, h1, h3⟩ := h
  obtain ⟨w', e1, e2, e3, e4⟩ := h1.range A.keyed ht
  exact ⟨w', _, e1, ⟨D, _, e2, h3⟩, h3.has, below_of_grown e3, e4⟩
theorem RgT.owns (h : RgT P K w b r n L left) : PMap P K w b n L := by
  obtain ⟨D, cnt, h1, h2⟩ := h
  exact ⟨D, h1.owns, h2⟩
theorem RgT.lt (h : RgT P K w b r n L left) : r < w.heap.size := by
  obtain ⟨D, cnt, h1, h2⟩ := h
  exact h1.lt
theorem RgT.kept {q : Option Nat} (h : RgT P K w b r n L left) (k : w.grownBy w' q) (hb : q ≠ some b) (hr : q ≠ some r) : RgT P K w' b r n L left ∧ w'.rangeLeft b r = w.rangeLeft b r := by
  obtain ⟨D, cnt, h1, h2⟩ := h
  have h3 := h1.kept k (Ne.symm hb) (Ne.symm hr)
  exact ⟨⟨D, cnt, h3, h2⟩, by rw [h1.left_eq, h3.left_eq]⟩
/-- The step: nothing is left, or an entry has come. -/
theorem RgT.next (h : RgT P K w b r n L left) (A : PairKey P K I) :
    ((∀ kl, left kl = false) ∧ ∀ ty, (Instr.next (.pointer (some ⟨r, 0, none⟩)) false ty).run P w = .ok (.tuple #[.bool false]) w) ∨
    ∃ p v x w', wfI p ∧ wfI v ∧ fndT L p v = some x ∧ left (kT p v) = true ∧ (∀ ty, (Instr.next (.pointer (some ⟨r, 0, none⟩)) false ty).run P w = .ok (.tuple #[.bool true, kV p v, ptV x]) w') ∧
      RgT P K w' b r n L (fun k => left k && !k.sameKey (kT p v)) ∧ w.grownBy w' (some r) ∧
      (Instr.entry (.pointer (some ⟨r, 0, none⟩))).run P w' = .ok (.tuple #[kV p v, ptV x]) w' ∧ w'.rangeLeft b r < w.rangeLeft b r ∧ w'.heap.size = w.heap.size := by
  obtain ⟨D, cnt, h1, h2⟩ := h
  rcases h1.next A.keyed 0 with ⟨-, hl, hrun⟩ | ⟨key, val, kl, y, w', cnt', hkk, hlk, hv, hat, hrun, hrg, hc, hg, hsz, hen⟩
  · exact .inl ⟨hl, fun _ => hrun⟩
  · obtain ⟨p, v, hp, hv', rfl, rfl⟩ := A.inv hkk
    obtain ⟨x, rfl, ex⟩ := ptElem_inv hv
    have e1 := h2.has p v hp hv'
    rw [has_true_of_atKey (fun z => hat z)] at e1
    obtain ⟨x', hx'⟩ := Option.isSome_iff_exists.1 e1.symm
    have e2 := h2.at' p v hp hv' x' hx' (.lit (.int .i64 0))
    rw [hat, ex] at e2
    have := datT_inj e2
    subst this
    exact .inr ⟨p, v, x, w', hp, hv', hx', hlk, fun _ => hrun, ⟨D, _, hrg, h2⟩, hg, hen, by rw [hrg.left_eq, h1.left_eq]; exact hc, hsz⟩
/-- An entry is taken out on the way. -/
theorem RgT.drop (h : RgT P K w b r n L left) (A : PairKey P K I) (ht : P.underlying T = some (.map K E)) (hL : ascT L) {p v : Int} (hp : wfI p) (hv : wfI v) :
    ∃ w', (∀ ty, (Builtin.delete_ #[T, K] ty #[.map (some b), kV p v]).run P w = .ok (.tuple #[]) w') ∧ RgT P K w' b r n (delT L p v) (fun k => left k && !k.sameKey (kT p v)) ∧ w'.rangeLeft b r ≤ w.rangeLeft b r ∧ w.grownBy w' (some b) := by
  obtain ⟨D, cnt, h1, h2⟩ := h
  obtain ⟨w', cnt', hr, hrg, hc, hg⟩ := h1.drop A.keyed ht (A.of hp hv) 0
  exact ⟨w', fun ty => hr, ⟨_, cnt', hrg, h2.del A hL (h1.owns.tidy A.keyed) hp hv⟩, by rw [hrg.left_eq, h1.left_eq]; exact hc, hg.grown⟩
theorem PairKey.other (A : PairKey P K I) {p v p' v' : Int} (hp : wfI p) (hv : wfI v) (hp' : wfI p') (hv' : wfI v') (h : ¬(p' = p ∧ v' = v)) : (kT p' v').sameKey (kT p v) = false := by
  cases e : (kT p' v').sameKey (kT p v)
  · rfl
  · exact absurd (WideAt.sameKey_eq e) (A.ne hp hv hp' hv' h)
end
/-! What the tests of a list of entries come to. -/
theorem entT_ok {L : List Pt} {x : Pt} (h : okT L = true) (k : rtT x = true) : entT L x = (insT L x, 0) := by unfold entT; rw [h, k]
theorem drpT_ok {L : List Pt} {f : Int} (h : okT L = true) : drpT L f = L.filter (fun x => !decide (x.f = f)) := by unfold drpT; rw [h]
theorem zpB_0 (p v : Int) (x : Pt) : zpB p v 0 x = false := decide_eq_false (by omega)
theorem zap_0 (L : List Pt) (p v : Int) : L.filter (fun x => !zpB p v 0 x) = L := List.filter_eq_self.2 fun x _ => by rw [zpB_0]; rfl
theorem zapT_ok {L : List Pt} {p v c : Int} (h : okT L = true) (hc : 0 ≤ c) : zapT L p v c = L.filter (fun x => !zpB p v c x) := by
  unfold zapT
  by_cases e : c = 0
  · subst e
    rw [zap_0, decide_eq_false (by omega)]; rfl
  · rw [h, decide_eq_true (by omega)]; rfl
theorem zap_s (L : List Pt) (p v i : Int) : delT (L.filter fun x => !zpB p v (i - v) x) p i = if v ≤ i then L.filter (fun x => !zpB p v (i + 1 - v) x) else delT (L.filter fun x => !zpB p v (i - v) x) p i := by
  by_cases h : v ≤ i
  · rw [if_pos h]
    unfold delT
    rw [List.filter_filter]
    congr 1
    funext x
    unfold zpB
    by_cases e : x.p = p ∧ x.v = i
    · rw [decide_eq_true e, decide_eq_true (show x.p = p ∧ v ≤ x.v ∧ x.v - (i + 1 - v) < v by omega)]; rfl
    · rw [decide_eq_false e]
      rw [decide_eq_decide.2 (show (x.p = p ∧ v ≤ x.v ∧ x.v - (i - v) < v) ↔ (x.p = p ∧ v ≤ x.v ∧ x.v - (i + 1 - v) < v) by omega)]; rfl
  · rw [if_neg h]
theorem zap_step {L : List Pt} {p v i : Int} (h : v ≤ i) : delT (L.filter fun x => !zpB p v (i - v) x) p i = L.filter (fun x => !zpB p v (i + 1 - v) x) := (zap_s L p v i).trans (if_pos h)
/-! The walk that takes a frame's entries out. -/
abbrev nfD (f : Int) (x : Pt) : Bool := !decide (x.f = f)
structure DlM (M L : List Pt) (f : Int) : Prop where
  asc : ascT M
  wf : ∀ x ∈ M, wfI x.p ∧ wfI x.v
  out : M.filter (nfD f) = L.filter (nfD f)
def DlI (P : Program) (K : TypeId) (w0 wr : World) (b r n : Nat) (L : List Pt) (f : Int) : Prop := ∃ M left, RgT P K wr b r n M left ∧ w0.grownBy wr (some b) ∧ DlM M L f ∧ ∀ x ∈ M, x.f = f → left (kT x.p x.v) = true
def DlJ (P : Program) (K : TypeId) (w0 wr : World) (b r n : Nat) (L : List Pt) (f p v : Int) : Prop := ∃ M left, RgT P K wr b r n M left ∧ w0.grownBy wr (some b) ∧ DlM M L f ∧ (∀ x ∈ M, x.f = f → ¬(x.p = p ∧ x.v = v) → left (kT x.p x.v) = true) ∧ wfI p ∧ wfI v ∧ ∀ x ∈ M, x.p = p ∧ x.v = v → x.f = f
section
variable {P : Program} {K I E T : TypeId} {w w0 w' wr : World} {b r n : Nat} {L : List Pt} {f : Int}
theorem DlI.next (h : DlI P K w0 wr b r n L f) (A : PairKey P K I) (hb : w0.heap.size ≤ r) :
    ((∀ ty, (Instr.next (.pointer (some ⟨r, 0, none⟩)) false ty).run P wr = .ok (.tuple #[.bool false]) wr) ∧ PMap P K wr b n (L.filter (nfD f)) ∧ w0.grownBy wr (some b)) ∨
    ∃ p v x w', wfI p ∧ wfI v ∧ (∀ ty, (Instr.next (.pointer (some ⟨r, 0, none⟩)) false ty).run P wr = .ok (.tuple #[.bool true, kV p v, ptV x]) w') ∧
      (Instr.entry (.pointer (some ⟨r, 0, none⟩))).run P w' = .ok (.tuple #[kV p v, ptV x]) w' ∧ w'.rangeLeft b r < wr.rangeLeft b r ∧ wr.grownBy w' (some r) ∧ (x.f ≠ f → DlI P K w0 w' b r n L f) ∧ (x.f = f → DlJ P K w0 w' b r n L f p v) := by
  obtain ⟨M, left, R, G, D, H⟩ := h
  rcases R.next A with ⟨hl, hrun⟩ | ⟨p, v, x, w', hp, hv, hx, hk, hrun, R', g, hen, hms, -⟩
  · refine .inl ⟨hrun, ?_, G⟩
    have e : M.filter (nfD f) = M := List.filter_eq_self.2 fun y hy => by
      by_cases ef : y.f = f
      · have := H y hy ef; rw [hl] at this; cases this
      · show (!decide (y.f = f)) = true
        rw [decide_eq_false ef]; rfl
    rw [← D.out, e]
    exact R.owns
  · have G' : w0.grownBy w' (some b) := G.andThen g (fun j e => by injection e with e; subst e; exact .inl hb)
    obtain ⟨hxM, hxp, hxv⟩ := fndT_some hx
    have step : ∀ y ∈ M, ¬(y.p = p ∧ y.v = v) → y.f = f → (left (kT y.p y.v) && !(kT y.p y.v).sameKey (kT p v)) = true := fun y hy hne hf => by
      rw [H y hy hf, A.other hp hv (D.wf y hy).1 (D.wf y hy).2 hne]; rfl
    refine .inr ⟨p, v, x, w', hp, hv, hrun, hen, hms, g, fun hf => ⟨M, _, R', G', D, fun y hy hyf => step y hy (fun hm => hf ?_) hyf⟩, fun hf => ⟨M, _, R', G', D, fun y hy hyf hne => step y hy hne hyf, hp, hv, fun y hy hm => ?_⟩⟩
    · have : y = x := asc_one D.asc hy hxM (by omega) (by omega)
      rw [← this]; exact hyf
    · have : y = x := asc_one D.asc hy hxM (by omega) (by omega)
      rw [this]; exact hf
theorem DlI.start (h : PMap P K w0 b n L) (A : PairKey P K I) (ht : P.underlying T = some (.map K E)) (hL : ascT L) (hw : ∀ x ∈ L, wfI x.p ∧ wfI x.v) (f : Int) :
    ∃ w', (Instr.range T (.map (some b))).run P w0 = .ok (.pointer (some ⟨w0.heap.size, 0, none⟩)) w' ∧ DlI P K w0 w' b w0.heap.size n L f := by
  obtain ⟨w', left, e1, e2, e3, e4, -⟩ := h.range A ht
  refine ⟨w', e1, L, left, e2, ?_, ⟨hL, hw, rfl⟩, fun x hx _ => ?_⟩
  · exact ⟨e4.grown.os, e4.grown.tape, e4.grown.output, e4.grown.size, fun i hi _ => e4.grown.block i hi (by simp)⟩
  · rw [e3 _ _ (hw x hx).1 (hw x hx).2, (fndT_iff hL).2 ⟨hx, rfl, rfl⟩]; rfl
theorem DlI.grew (h : DlI P K w0 wr b r n L f) (k : Grew wr w') : DlI P K w0 w' b r n L f ∧ w'.rangeLeft b r = wr.rangeLeft b r := by
  obtain ⟨M, left, R, G, D, H⟩ := h
  obtain ⟨R', e⟩ := R.kept k.grown (by simp) (by simp)
  exact ⟨⟨M, left, R', G.andThen k.grown (fun j e => by cases e), D, H⟩, e⟩
theorem DlJ.grew {p v : Int} (h : DlJ P K w0 wr b r n L f p v) (k : Grew wr w') : DlJ P K w0 w' b r n L f p v ∧ w'.rangeLeft b r = wr.rangeLeft b r := by
  obtain ⟨M, left, R, G, D, H⟩ := h
  obtain ⟨R', e⟩ := R.kept k.grown (by simp) (by simp)
  exact ⟨⟨M, left, R', G.andThen k.grown (fun j e => by cases e), D, H⟩, e⟩
theorem DlJ.drop {p v : Int} (h : DlJ P K w0 wr b r n L f p v) (A : PairKey P K I) (ht : P.underlying T = some (.map K E)) :
    ∃ w', (∀ ty, (Builtin.delete_ #[T, K] ty #[.map (some b), kV p v]).run P wr = .ok (.tuple #[]) w') ∧ DlI P K w0 w' b r n L f ∧ w'.rangeLeft b r ≤ wr.rangeLeft b r := by
  obtain ⟨M, left, R, G, D, H, hp, hv, hf⟩ := h
  obtain ⟨w', hr, R', hm, g⟩ := R.drop A ht D.asc hp hv
  refine ⟨w', hr, ⟨_, _, R', G.andThen g (fun j e => .inr e.symm.symm), ⟨asc_del D.asc p v, fun x hx => D.wf x (List.mem_filter.1 hx).1, ?_⟩, fun x hx hxf => ?_⟩, hm⟩
  · rw [← D.out]
    unfold delT
    rw [List.filter_filter]
    refine List.filter_congr fun x hx => ?_
    by_cases e : x.p = p ∧ x.v = v
    · rw [show nfD f x = false from by show (!decide (x.f = f)) = false; rw [decide_eq_true (hf x hx e)]; rfl]; rfl
    · rw [decide_eq_false e]; simp
  · obtain ⟨hx1, hx2⟩ := List.mem_filter.1 hx
    have hne : ¬(x.p = p ∧ x.v = v) := fun e => by rw [decide_eq_true e] at hx2; cases hx2
    rw [H x hx1 hxf hne, A.other hp hv (D.wf x hx1).1 (D.wf x hx1).2 hne]; rfl
end
theorem wf_rt {x : Pt} (h : rtT x = true) : wfI x.p ∧ wfI x.v := by
  have := rtT_iff.1 h
  exact ⟨WalkArith.wf_i64 (by omega), WalkArith.wf_i64 (by omega)⟩
theorem wf_ok {L : List Pt} (h : okT L = true) : ∀ x ∈ L, wfI x.p ∧ wfI x.v := fun x hx => wf_rt ((okT_iff2.1 h).1 x hx)
end Go.Mine
