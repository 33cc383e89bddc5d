/- Descriptors in memory of the call's own (layer 18): words of my own, no program is named here. -/
import Derived.Test.YtokijggckiidjaaDs1
import Derived.Test.YtokijggckiidjaaDsN
import Derived.Test.YtokijggckiidjaaRowCut
namespace Go.Mine
open Go Go.RowKit
abbrev slV (g n c : Nat) : Value := .slice (some ⟨g, 0, none⟩) n c
def slL (G C : Nat → Nat) (T : List (List Int)) : List Value := (List.range T.length).map fun k => slV (G k) (T.getD k []).length (C k)
theorem slL_len (G C : Nat → Nat) (T : List (List Int)) : (slL G C T).length = T.length := by simp [slL]
theorem slL_at {G C : Nat → Nat} {T : List (List Int)} {k : Nat} (h : k < T.length) : (slL G C T).getD k nilV = slV (G k) (T.getD k []).length (C k) := by simp [slL, List.getD, h]
theorem slL_congr {G C : Nat → Nat} {T T' : List (List Int)} (h : T'.length = T.length) (hk : ∀ k, k < T.length → (T'.getD k []).length = (T.getD k []).length) : slL G C T' = slL G C T := by
  unfold slL
  rw [h]
  refine List.map_congr_left fun k hm => ?_
  rw [hk k (List.mem_range.1 hm)]
theorem slL_snoc {G C : Nat → Nat} {T : List (List Int)} {R : List Int} {g c : Nat} : slL (fun k => if k = T.length then g else G k) (fun k => if k = T.length then c else C k) (T ++ [R]) = slL G C T ++ [slV g R.length c] := by
  unfold slL
  rw [List.length_append, List.length_singleton, List.range_succ, List.map_append, List.map_singleton]
  congr 1
  · refine List.map_congr_left fun k hm => ?_
    have hk := List.mem_range.1 hm
    have hne : ¬k = T.length := by omega
    simp only [if_neg hne]
    simp only [List.getD]
    rw [List.getElem?_append_left hk]
  · simp [List.getD]
/-- Tables of the call's own: the slice v, the blocks of its rows. -/
structure TbK (Ts Ti : TypeId) (w : World) (B : Nat) (v : Value) (G C : Nat → Nat) (T : List (List Int)) : Prop where
  row : RowE Ts 1 eV w B v (slL G C T)
  inn : ∀ k, k < T.length → RowE Ti 1 enc1 w B (slV (G k) (T.getD k []).length (C k)) (T.getD k [])
  far : ∀ k, k < T.length → v.ownBlock ≠ some (G k)
  inj : ∀ k, k < T.length → ∀ j, j < T.length → G j = G k → j = k
theorem eV_len (v : Value) : (eV v).length = 1 := rfl
section
variable {Ts Ti : TypeId} {w w' : World} {B : Nat} {v : Value} {G C : Nat → Nat} {T : List (List Int)}
theorem TbK.nil (w : World) (B : Nat) : TbK Ts Ti w B (.slice none 0 0) G C [] := ⟨RowE.nil _ _, fun k h => absurd h (by simp), fun k h => absurd h (by simp), fun k h => absurd h (by simp)⟩
theorem TbK.keptG {r : Option Nat} (h : TbK Ts Ti w B v G C T) (g : w.grownBy w' r) (h1 : ∀ x, r = some x → v.ownBlock ≠ some x) (h2 : ∀ x, r = some x → ∀ k, k < T.length → G k ≠ x) : TbK Ts Ti w' B v G C T :=
  ⟨h.row.keptG g h1, fun k hk => (h.inn k hk).keptG g (fun x e ho => h2 x e k hk (by have : some (G k) = some x := ho; injection this)), h.far, h.inj⟩
theorem TbK.grew (h : TbK Ts Ti w B v G C T) (g : Grew w w') : TbK Ts Ti w' B v G C T := h.keptG g.grown (by simp) (by simp)
theorem TbK.above (h : TbK Ts Ti w B v G C T) {k : Nat} (hk : k < T.length) : B ≤ G k ∧ G k < w.heap.size := ⟨(h.inn k hk).above _ rfl, (h.inn k hk).lt _ rfl⟩
theorem TbK.past {b : Nat} (h : TbK Ts Ti w B v G C T) (g : w.grownBy w' (some b)) (hb : b < B) : TbK Ts Ti w' B v G C T :=
  h.keptG g (fun x e ho => by injection e with e; have := h.row.above x ho; omega) (fun x e k hk => by injection e with e; have := (h.above hk).1; omega)
theorem TbK.wider {B' : Nat} (h : TbK Ts Ti w B v G C T) (hB : B' ≤ B) : TbK Ts Ti w B' v G C T := ⟨h.row.wider hB, fun k hk => (h.inn k hk).wider hB, h.far, h.inj⟩
theorem TbK.snoc (h : TbK Ts Ti w B v G C T) {R : List Int} {g c n : Nat} (hr : RowE Ti 1 enc1 w B (slV g n c) R) (hn : n = R.length) (hv : v.ownBlock ≠ some g) (hG : ∀ k, k < T.length → G k ≠ g) {v' : Value} (hv' : RowE Ts 1 eV w' B v' (slL G C T ++ [slV g n c])) (gw : w.grownBy w' v.ownBlock)
    (ho : ∀ x, v'.ownBlock = some x → v.ownBlock = some x ∨ w.heap.size ≤ x) : TbK Ts Ti w' B v' (fun k => if k = T.length then g else G k) (fun k => if k = T.length then c else C k) (T ++ [R]) := by
  subst hn
  have hlt : g < w.heap.size := hr.lt _ rfl
  have hget : ∀ k, k < T.length → (T ++ [R]).getD k [] = T.getD k [] := fun k hk => by simp only [List.getD]; rw [List.getElem?_append_left hk]
  have hlast : (T ++ [R]).getD T.length [] = R := by simp [List.getD]
  refine ⟨by rw [slL_snoc]; exact hv', fun k hk => ?_, fun k hk e => ?_, fun k hk j hj e => ?_⟩
  · rw [List.length_append, List.length_singleton] at hk
    by_cases e : k = T.length
    · subst e
      simp only [if_pos]
      rw [hlast]
      exact hr.keptG gw (fun x e ho => hv (e.trans ho.symm))
    · simp only [if_neg e]
      rw [hget k (by omega)]
      exact (h.inn k (by omega)).keptG gw (fun x e ho => h.far k (by omega) (e.trans ho.symm))
  · rw [List.length_append, List.length_singleton] at hk
    by_cases e2 : k = T.length
    · simp only [if_pos e2] at e
      rcases ho _ e with h1 | h1
      · exact hv h1
      · omega
    · simp only [if_neg e2] at e
      rcases ho _ e with h1 | h1
      · exact h.far k (by omega) h1
      · have := (h.above (k := k) (by omega)).2; omega
  · rw [List.length_append, List.length_singleton] at hk hj
    by_cases e1 : k = T.length <;> by_cases e2 : j = T.length
    · omega
    · simp only [if_pos e1, if_neg e2] at e
      exact absurd e (hG j (by omega))
    · simp only [if_neg e1, if_pos e2] at e
      exact absurd e.symm (hG k (by omega))
    · simp only [if_neg e1, if_neg e2] at e
      exact h.inj k (by omega) j (by omega) e
/-- One table's slice. -/
theorem TbK.at_ {a : Option Addr} {n c : Nat} (h : TbK Ts Ti w B (.slice a n c) G C T) {k : Nat} (hk : k < T.length) : ∃ g, a = some ⟨g, 0, none⟩ ∧ B ≤ g ∧ g < w.heap.size ∧ w.cell? ⟨g, k, none⟩ = some (slV (G k) (T.getD k []).length (C k)) ∧ w.frozen? ⟨g, k, none⟩ = false := by
  have hk2 : k < (slL G C T).length := by rw [slL_len]; exact hk
  rcases h.row.shape eV_len with ⟨e, e2⟩ | ⟨g, cap, e, hB, hg, -, -, hcell, hfr⟩
  · rw [e2] at hk2; exact absurd hk2 (by simp)
  · injection e with e1 e2 e3
    refine ⟨g, e1, hB, hg, ?_, hfr k⟩
    have := hcell k hk2 0 (by omega)
    rw [Nat.mul_one, Nat.add_zero] at this
    rw [this, ← slL_at hk (G := G) (C := C)]
    simp [eV, List.getD, hk2]
/-- One descriptor. -/
theorem TbK.in_ (h : TbK Ts Ti w B v G C T) {k i : Nat} (hk : k < T.length) (hi : i < (T.getD k []).length) : w.cell? ⟨G k, i, none⟩ = some (.int .i64 ((T.getD k []).getD i 0)) ∧ w.frozen? ⟨G k, i, none⟩ = false ∧ B ≤ G k ∧ G k < w.heap.size := by
  obtain ⟨g, e, hB, hg, hc, hf⟩ := (h.inn k hk).atI.2 i hi
  injection e with e
  injection e with e
  subst e
  exact ⟨hc, hf, hB, hg⟩
theorem TbK.store (h : TbK Ts Ti w B v G C T) {p : Nat} (hp : p < T.length) (i : Nat) (x : Int) : TbK Ts Ti (w.setCell ⟨G p, i, none⟩ (.int .i64 x)) B v G C (setT T p i x) := by
  have hl := setT_len T p i x
  have hrow : ∀ k, k < T.length → ((setT T p i x).getD k []).length = (T.getD k []).length := fun k hk => by
    by_cases e : k = p
    · subst e; rw [setT_eq hk, List.length_set]
    · rw [setT_ne e]
  refine ⟨by rw [slL_congr hl hrow]; exact h.row.set (p := ⟨G p, i, none⟩) (h.far p hp) _, fun k hk => ?_, fun k hk => h.far k (by rwa [hl] at hk), fun k hk j hj => h.inj k (by rwa [hl] at hk) j (by rwa [hl] at hj)⟩
  rw [hl] at hk
  rw [hrow k hk]
  by_cases e : k = p
  · subst e
    rw [setT_eq hk]
    exact (h.inn k hk).storeI i x
  · rw [setT_ne e]
    exact (h.inn k hk).set (p := ⟨G p, i, none⟩) (fun q => by have q2 : some (G k) = some (G p) := q; injection q2 with q2; exact e (h.inj p hp k hk q2)) _
theorem TbK.tbR (h : TbK Ts Ti w B v G C T) : TbR w B v T := by
  refine ⟨slL G C T, RowE.rdS eV_len h.row, slL_len _ _ _, fun k hk => ?_⟩
  rw [slL_at hk]
  exact RowE.rdS enc1_len (h.inn k hk)
theorem TbK.slice (h : TbK Ts Ti w B v G C T) : ∃ a c, v = .slice a T.length c := by
  obtain ⟨a, c, e⟩ := h.row.len
  rw [slL_len] at e
  exact ⟨a, c, e⟩
end
/-- Descriptors of the call's own. -/
structure DdK (To Ts Ti : TypeId) (w : World) (B : Nat) (a b : Value) (G C : Nat → Nat) (d : Dd) : Prop where
  o : RowE To 5 encDs w B a d.o
  t : TbK Ts Ti w B b G C d.t
  s1 : ∀ x, a.ownBlock = some x → b.ownBlock ≠ some x
  s2 : ∀ x, a.ownBlock = some x → ∀ k, k < d.t.length → G k ≠ x
/-- x is none of their blocks. -/
structure NoD (a b : Value) (G : Nat → Nat) (n x : Nat) : Prop where
  a : a.ownBlock ≠ some x
  b : b.ownBlock ≠ some x
  g : ∀ k, k < n → G k ≠ x
section
variable {To Ts Ti : TypeId} {w w' : World} {B : Nat} {a b : Value} {G C : Nat → Nat} {d : Dd}
theorem DdK.keptG {r : Option Nat} (h : DdK To Ts Ti w B a b G C d) (g : w.grownBy w' r) (hr : ∀ x, r = some x → NoD a b G d.t.length x) : DdK To Ts Ti w' B a b G C d :=
  ⟨h.o.keptG g (fun x e => (hr x e).a), h.t.keptG g (fun x e => (hr x e).b) (fun x e => (hr x e).g), h.s1, h.s2⟩
theorem DdK.grew (h : DdK To Ts Ti w B a b G C d) (g : Grew w w') : DdK To Ts Ti w' B a b G C d := h.keptG g.grown (by simp)
theorem DdK.alloc (h : DdK To Ts Ti w B a b G C d) (o : Obj) : DdK To Ts Ti (w.alloc o) B a b G C d := h.grew ((Grew.refl w).alloc o)
theorem DdK.drew (h : DdK To Ts Ti w B a b G C d) : DdK To Ts Ti w.drew B a b G C d := h.grew (Grew.refl w).drew
theorem DdK.wider {B' : Nat} (h : DdK To Ts Ti w B a b G C d) (hB : B' ≤ B) : DdK To Ts Ti w B' a b G C d := ⟨h.o.wider hB, h.t.wider hB, h.s1, h.s2⟩
theorem DdK.no_hi (h : DdK To Ts Ti w B a b G C d) {x : Nat} (hx : w.heap.size ≤ x) : NoD a b G d.t.length x :=
  ⟨fun e => by have := h.o.lt x e; omega, fun e => by have := h.t.row.lt x e; omega, fun k hk e => by have := (h.t.above hk).2; omega⟩
theorem DdK.no_lo (h : DdK To Ts Ti w B a b G C d) {x : Nat} (hx : x < B) : NoD a b G d.t.length x :=
  ⟨fun e => by have := h.o.above x e; omega, fun e => by have := h.t.row.above x e; omega, fun k hk e => by have := (h.t.above hk).1; omega⟩
theorem DdK.put (h : DdK To Ts Ti w B a b G C d) {x : Nat} (hx : NoD a b G d.t.length x) (i : Nat) (u : Value) : DdK To Ts Ti (w.setCell ⟨x, i, none⟩ u) B a b G C d :=
  h.keptG (grown_set (p := ⟨x, i, none⟩) (grown_refl w (some x)) (.inl rfl) u) (fun y e => by injection e with e; subst e; exact hx)
theorem DdK.dd (h : DdK To Ts Ti w B a b G C d) : DdR w B a b d := ⟨RowE.rdS encDs_len h.o, h.t.tbR⟩
/-- One description, to be written. -/
theorem DdK.atO {ao : Option Addr} {n c : Nat} (h : DdK To Ts Ti w B (.slice ao n c) b G C d) {k : Nat} (hk : k < d.o.length) : ∃ g, ao = some ⟨g, 0, none⟩ ∧ B ≤ g ∧ g < w.heap.size ∧
    w.cell? ⟨g, k * 5, none⟩ = some (.int .i64 (d.o.getD k zDs).f) ∧ w.cell? ⟨g, k * 5 + 1, none⟩ = some (.int .i64 (d.o.getD k zDs).g) ∧ w.cell? ⟨g, k * 5 + 2, none⟩ = some (.int .i64 (d.o.getD k zDs).o) ∧
    w.cell? ⟨g, k * 5 + 3, none⟩ = some (.int .i64 (d.o.getD k zDs).c) ∧ w.cell? ⟨g, k * 5 + 4, none⟩ = some (.int .i64 (d.o.getD k zDs).r) ∧ ∀ j, w.frozen? ⟨g, j, none⟩ = false := by
  rcases h.o.shape encDs_len with ⟨e, e2⟩ | ⟨g, cap, e, hB, hg, -, -, hcell, hfr⟩
  · rw [e2] at hk; exact absurd hk (by simp)
  · injection e with e1 e2 e3
    have hc := hcell k hk
    rw [getD_get hk]
    exact ⟨g, e1, hB, hg, hc 0 (by omega), hc 1 (by omega), hc 2 (by omega), hc 3 (by omega), hc 4 (by omega), hfr⟩
theorem DdK.noA {g n c : Nat} (h : DdK To Ts Ti w B (.slice (some ⟨g, 0, none⟩) n c) b G C d) : b.ownBlock ≠ some g ∧ ∀ k, k < d.t.length → G k ≠ g := ⟨h.s1 g rfl, h.s2 g rfl⟩
/-- One field of a description is stored. -/
theorem DdK.storeO {g n c : Nat} (h : DdK To Ts Ti w B (.slice (some ⟨g, 0, none⟩) n c) b G C d) {k j : Nat} (hk : k < d.o.length) (hj : j < 5) {u : Value} {y : Ds} (hy : encDs y = (encDs (d.o.getD k zDs)).set j u) :
    DdK To Ts Ti (w.setCell ⟨g, k * 5 + j, none⟩ u) B (.slice (some ⟨g, 0, none⟩) n c) b G C ⟨d.t, d.o.set k y⟩ := by
  obtain ⟨a2, c2, e⟩ := h.o.len
  injection e with e1 e2 e3
  have ho := h.o
  rw [e2] at ho
  rw [getD_get hk] at hy
  have h1 := RowE.stored ho (k * 5 + j) u (L' := d.o.set k y) (List.length_set ..) (fm_setZ encDs_len d.o k hk j u y hj hy)
  rw [← e2] at h1
  exact ⟨h1, h.t.keptG (grown_set (p := ⟨g, k * 5 + j, none⟩) (grown_refl w (some g)) (.inl rfl) u) (fun x e => by injection e with e; subst e; exact h.noA.1) (fun x e => by injection e with e; subst e; exact h.noA.2), h.s1, h.s2⟩
/-- A whole one. -/
theorem DdK.storeX {g n c : Nat} (h : DdK To Ts Ti w B (.slice (some ⟨g, 0, none⟩) n c) b G C d) {k : Nat} (hk : k < d.o.length) (y : Ds) {W : World}
    (hw : ((((w.setCell ⟨g, k * 5, none⟩ (.int .i64 y.f)).setCell ⟨g, k * 5 + 1, none⟩ (.int .i64 y.g)).setCell ⟨g, k * 5 + 2, none⟩ (.int .i64 y.o)).setCell ⟨g, k * 5 + 3, none⟩ (.int .i64 y.c)).setCell ⟨g, k * 5 + 4, none⟩ (.int .i64 y.r) = W) :
    DdK To Ts Ti W B (.slice (some ⟨g, 0, none⟩) n c) b G C ⟨d.t, d.o.set k y⟩ := by
  subst hw
  obtain ⟨x0, hx⟩ : ∃ x, d.o.getD k zDs = x := ⟨_, rfl⟩
  have s0 := h.storeO hk (j := 0) (by omega) (u := .int .i64 y.f) (y := ⟨y.f, x0.g, x0.o, x0.c, x0.r⟩) (by rw [hx]; rfl)
  have l1 : k < (d.o.set k ⟨y.f, x0.g, x0.o, x0.c, x0.r⟩).length := by rw [List.length_set]; exact hk
  have s1 := s0.storeO (k := k) l1 (j := 1) (by omega) (u := .int .i64 y.g) (y := ⟨y.f, y.g, x0.o, x0.c, x0.r⟩) (by rw [setO_eq hk]; rfl)
  have l2 : k < ((d.o.set k ⟨y.f, x0.g, x0.o, x0.c, x0.r⟩).set k ⟨y.f, y.g, x0.o, x0.c, x0.r⟩).length := by rw [List.length_set]; exact l1
  have s2 := s1.storeO (k := k) l2 (j := 2) (by omega) (u := .int .i64 y.o) (y := ⟨y.f, y.g, y.o, x0.c, x0.r⟩) (by rw [setO_eq l1]; rfl)
  have l3 : k < (((d.o.set k ⟨y.f, x0.g, x0.o, x0.c, x0.r⟩).set k ⟨y.f, y.g, x0.o, x0.c, x0.r⟩).set k ⟨y.f, y.g, y.o, x0.c, x0.r⟩).length := by rw [List.length_set]; exact l2
  have s3 := s2.storeO (k := k) l3 (j := 3) (by omega) (u := .int .i64 y.c) (y := ⟨y.f, y.g, y.o, y.c, x0.r⟩) (by rw [setO_eq l2]; rfl)
  have l4 : k < ((((d.o.set k ⟨y.f, x0.g, x0.o, x0.c, x0.r⟩).set k ⟨y.f, y.g, x0.o, x0.c, x0.r⟩).set k ⟨y.f, y.g, y.o, x0.c, x0.r⟩).set k ⟨y.f, y.g, y.o, y.c, x0.r⟩).length := by rw [List.length_set]; exact l3
  have s4 := s3.storeO (k := k) l4 (j := 4) (by omega) (u := .int .i64 y.r) (y := y) (by rw [setO_eq l3]; rfl)
  simp only [List.set_set] at s4
  exact s4
/-- One descriptor is stored. -/
theorem DdK.storeT (h : DdK To Ts Ti w B a b G C d) {p : Nat} (hp : p < d.t.length) (i : Nat) (x : Int) : DdK To Ts Ti (w.setCell ⟨G p, i, none⟩ (.int .i64 x)) B a b G C ⟨setT d.t p i x, d.o⟩ :=
  ⟨h.o.set (p := ⟨G p, i, none⟩) (fun e => h.s2 _ e p hp rfl) _, h.t.store hp i x, h.s1, fun x e k hk => h.s2 x e k (by rwa [setT_len] at hk)⟩
/-- The first descriptions alone. -/
theorem DdK.cut {g n c : Nat} (h : DdK To Ts Ti w B (.slice (some ⟨g, 0, none⟩) n c) b G C d) {k : Nat} (hk : k ≤ d.o.length) : DdK To Ts Ti w B (.slice (some ⟨g, 0, none⟩) k c) b G C ⟨d.t, d.o.take k⟩ :=
  ⟨RowE.cut encDs_len h.o hk, h.t, h.s1, h.s2⟩
/-- One more description. -/
theorem DdK.app (h : DdK To Ts Ti w B a b G C d) {y : Ds} {a' : Value} (hr : RowE To 5 encDs w' B a' (d.o ++ [y])) (g : w.grownBy w' a.ownBlock) (ho : ∀ x, a'.ownBlock = some x → a.ownBlock = some x ∨ w.heap.size ≤ x) : DdK To Ts Ti w' B a' b G C ⟨d.t, d.o ++ [y]⟩ := by
  refine ⟨hr, h.t.keptG g h.s1 h.s2, fun x e => ?_, fun x e k hk => ?_⟩
  · rcases ho x e with h1 | h1
    · exact h.s1 x h1
    · exact (h.no_hi h1).b
  · rcases ho x e with h1 | h1
    · exact h.s2 x h1 k hk
    · exact (h.no_hi h1).g k hk
end
/-- It returns descriptors of its own. -/
def RetK (To Ts Ti : TypeId) (d : Dd) (w : World) (e : Ending) (w' : World) : Prop := ∃ a b G C, e = .returned (.agg #[a, b]) ∧ DdK To Ts Ti w' w.heap.size a b G C d ∧ Grew w w'
/-! Whose blocks have a property. -/
def blkV : Value → Option Nat
  | .slice (some a) _ _ => some a.block
  | _ => none
/-- The slice v holds L, in a block with p; read only. -/
def RdP {α : Type} (sz : Nat) (enc : α → List Value) (w : World) (p : Nat → Prop) (v : Value) (L : List α) : Prop := RdS sz enc w 0 v L ∧ (L = [] ∨ ∀ g, blkV v = some g → p g)
section
variable {α : Type} {sz : Nat} {enc : α → List Value} {w w' : World} {p q : Nat → Prop} {v : Value} {L : List α}
theorem RdP.keptG {r : Option Nat} (h : RdP sz enc w p v L) (g : w.grownBy w' r) (hr : ∀ k, r = some k → ¬p k) : RdP sz enc w' p v L := by
  obtain ⟨⟨a, c, rfl, h1, h2, h3⟩, h4⟩ := h
  refine ⟨⟨a, c, rfl, h1, h2, ?_⟩, h4⟩
  rcases h3 with h3 | ⟨b, o, rfl, hB, hb, hc⟩
  · exact .inl h3
  · by_cases hL : L = []
    · exact .inl hL
    · have hp : p b := h4.resolve_left hL b rfl
      exact .inr ⟨b, o, rfl, hB, Nat.lt_of_lt_of_le hb g.size, fun k hk j hj => (World.cell?_of_block (a := ⟨b, o + (k * sz + j), none⟩) (g.block b hb (fun e => hr b e.symm hp))).trans (hc k hk j hj)⟩
theorem RdP.mono (h : RdP sz enc w p v L) (hq : ∀ g, p g → q g) : RdP sz enc w q v L := ⟨h.1, h.2.imp id fun h g e => hq g (h g e)⟩
theorem RdS.own {B : Nat} (h : RdS sz enc w B v L) (hq : ∀ g, B ≤ g → q g) : RdP sz enc w q v L := by
  refine ⟨h.wider (Nat.zero_le _), ?_⟩
  obtain ⟨a, c, rfl, h1, h2, h3⟩ := h
  rcases h3 with h3 | ⟨b, o, rfl, hB, hb, hc⟩
  · exact .inl h3
  · exact .inr fun g e => by have e2 : some b = some g := e; injection e2 with e2; subst e2; exact hq b hB
end
/-- a and b hold the descriptors d, in blocks with p. -/
structure DdP (w : World) (p : Nat → Prop) (a b : Value) (d : Dd) : Prop where
  o : RdP 5 encDs w p a d.o
  t : ∃ vs : List Value, RdP 1 eV w p b vs ∧ vs.length = d.t.length ∧ ∀ k, k < d.t.length → RdP 1 enc1 w p (vs.getD k nilV) (d.t.getD k [])
def pW (p : Nat → Prop) (w : World) (g : Nat) : Prop := p g ∨ w.heap.size ≤ g
section
variable {w w' : World} {p q : Nat → Prop} {a b : Value} {d : Dd}
theorem DdP.keptG {r : Option Nat} (h : DdP w p a b d) (g : w.grownBy w' r) (hr : ∀ k, r = some k → ¬p k) : DdP w' p a b d := by
  obtain ⟨ho, vs, h1, h2, h3⟩ := h
  exact ⟨ho.keptG g hr, vs, h1.keptG g hr, h2, fun k hk => (h3 k hk).keptG g hr⟩
theorem DdP.grew (h : DdP w p a b d) (g : Grew w w') : DdP w' p a b d := h.keptG g.grown (by simp)
theorem DdP.past {x : Nat} (h : DdP w p a b d) (g : w.grownBy w' (some x)) (hx : ¬p x) : DdP w' p a b d := h.keptG g (fun k e => by injection e with e; subst e; exact hx)
theorem DdP.mono (h : DdP w p a b d) (hq : ∀ g, p g → q g) : DdP w q a b d := by
  obtain ⟨ho, vs, h1, h2, h3⟩ := h
  exact ⟨ho.mono hq, vs, h1.mono hq, h2, fun k hk => (h3 k hk).mono hq⟩
theorem DdP.rd (h : DdP w p a b d) : DdR w 0 a b d := by
  obtain ⟨ho, vs, h1, h2, h3⟩ := h
  exact ⟨ho.1, vs, h1.1, h2, fun k hk => (h3 k hk).1⟩
theorem DdR.toP {B : Nat} (h : DdR w B a b d) (hq : ∀ g, B ≤ g → q g) : DdP w q a b d := by
  obtain ⟨ho, vs, h1, h2, h3⟩ := h
  exact ⟨ho.own hq, vs, h1.own hq, h2, fun k hk => (h3 k hk).own hq⟩
/-- As they came. -/
theorem DdP.keep (h : DdP w p a b d) (g : Grew w w') : DdP w' (pW p w) a b d := (h.grew g).mono fun _ h => .inl h
/-- Of the call's own. -/
theorem DdR.own {w0 : World} (h : DdR w w0.heap.size a b d) : DdP w (pW p w0) a b d := h.toP fun _ h => .inr h
end
/-- It returns descriptors and an error; and a number; or whether: in blocks with p or in new ones. -/
def RetDE (p : Nat → Prop) (x : Dd × Int) (w : World) (e : Ending) (w' : World) : Prop := ∃ a b, e = .returned (.tuple #[.agg #[a, b], .int .i64 x.2]) ∧ DdP w' (pW p w) a b x.1 ∧ Grew w w'
def RetDI (p : Nat → Prop) (x : Dd × Int × Int) (w : World) (e : Ending) (w' : World) : Prop := ∃ a b, e = .returned (.tuple #[.agg #[a, b], .int .i64 x.2.1, .int .i64 x.2.2]) ∧ DdP w' (pW p w) a b x.1 ∧ Grew w w'
def RetDB (p : Nat → Prop) (x : Dd × Bool × Int) (w : World) (e : Ending) (w' : World) : Prop := ∃ a b, e = .returned (.tuple #[.agg #[a, b], .bool x.2.1, .int .i64 x.2.2]) ∧ DdP w' (pW p w) a b x.1 ∧ Grew w w'
end Go.Mine
