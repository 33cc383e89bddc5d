/- Zones (layer 10): what the functions answer, as total functions of lists of zones: plain mathematics, no program is named here. -/
import Derived.Test.YtphccdfdknihdaaZnO
import Derived.Test.YtphccdfdknihdaaZnA
namespace Go.Mine
open Go Go.RowKit

def okz (z : Zo) (nx : Int) : Bool := decide (z.f = nx ∧ 1 ≤ z.s ∧ z.s ≤ 65 - nx ∧ 0 ≤ z.mn ∧ z.mn ≤ z.lo ∧ z.lo ≤ z.hi ∧ z.hi ≤ z.s) && (decide (∀ x ∈ z.fr, z.f ≤ x ∧ x < z.f + z.s) && decide (z.fr.Pairwise (· < ·)))
theorem okz_iff {z : Zo} {nx : Int} : okz z nx = true ↔ ZoOK z nx := by
  unfold okz ZoOK ascI
  rw [Bool.and_eq_true, Bool.and_eq_true, decide_eq_true_iff, decide_eq_true_iff, decide_eq_true_iff]
  constructor
  · rintro ⟨⟨a, b, c, d, e, f, g⟩, h, i⟩; exact ⟨a, b, c, d, e, f, g, h, i⟩
  · rintro ⟨a, b, c, d, e, f, g, h, i⟩; exact ⟨⟨a, b, c, d, e, f, g⟩, h, i⟩
def rtB : Int → List Zo → Bool
  | _, [] => true
  | nx, z :: L => okz z nx && rtB (nx + z.s) L
theorem rtB_iff : ∀ {L : List Zo} {nx : Int}, rtB nx L = true ↔ RtZ nx L
  | [], _ => by simp [rtB, RtZ]
  | z :: L, nx => by
    unfold rtB RtZ
    rw [Bool.and_eq_true, okz_iff, rtB_iff]
def okB (L : List Zo) : Bool := decide (0 < L.length) && rtB 1 L
theorem okB_iff {L : List Zo} : okB L = true ↔ 0 < L.length ∧ RtZ 1 L := by
  unfold okB
  rw [Bool.and_eq_true, rtB_iff, decide_eq_true_iff]
def inZ (f : Int) (z : Zo) : Bool := decide (z.f ≤ f ∧ f < z.f + z.s)
def whZ (f : Int) (L : List Zo) : Option Nat := L.findIdx? (inZ f)
def frI (L : List Zo) (i : Nat) : List Int := (L.getD i zoZ).fr
def setF (L : List Zo) (i : Nat) (xs : List Int) : List Zo := L.set i { L.getD i zoZ with fr := xs }
def takX (u : Bool) (L : List Zo) (p : Int) : List Zo × Int × Int :=
  match okB L, decide (0 ≤ p ∧ p < (L.length : Int)), fromZ u L (p.toNat + 1) with
  | false, _, _ => (L, 0, 1)
  | true, false, _ => (L, 0, 2)
  | true, true, none => (L, 0, 3)
  | true, true, some i => (setF L i ((frI L i).drop 1), (frI L i).getD 0 0, 0)
def givX (L : List Zo) (f : Int) : List Zo × Int :=
  match okB L, whZ f L with
  | false, _ => (L, 1)
  | true, none => (L, 2)
  | true, some i => if f ∈ frI L i then (L, 5) else (setF L i (insI f (frI L i)), 0)
def sumZ (g : Zo → Int) : List Zo → Int
  | [] => 0
  | z :: L => g z + sumZ g L
def frN (z : Zo) : Int := z.fr.length
def waN (z : Zo) : Int := max (z.hi - (z.fr.length : Int)) 0
def loQ (z : Zo) : Bool := decide ((z.fr.length : Int) < z.lo)
def freX (L : List Zo) : Int := if okB L = true then sumZ frN L else 0
def wanX (L : List Zo) : Int := if okB L = true then sumZ waN L else 0
def lowX (L : List Zo) : Bool := okB L && L.any loQ
theorem takX_1 {u : Bool} {L : List Zo} {p : Int} (h : okB L = false) : takX u L p = (L, 0, 1) := by unfold takX; rw [h]
theorem takX_2 {u : Bool} {L : List Zo} {p : Int} (h : okB L = true) (hp : ¬(0 ≤ p ∧ p < (L.length : Int))) : takX u L p = (L, 0, 2) := by unfold takX; rw [h, decide_eq_false hp]
theorem takX_3 {u : Bool} {L : List Zo} {p : Int} (h : okB L = true) (hp : 0 ≤ p ∧ p < (L.length : Int)) (hf : fromZ u L (p.toNat + 1) = none) : takX u L p = (L, 0, 3) := by unfold takX; rw [h, decide_eq_true hp, hf]
theorem takX_0 {u : Bool} {L : List Zo} {p : Int} {i : Nat} (h : okB L = true) (hp : 0 ≤ p ∧ p < (L.length : Int)) (hf : fromZ u L (p.toNat + 1) = some i) : takX u L p = (setF L i ((frI L i).drop 1), (frI L i).getD 0 0, 0) := by
  unfold takX; rw [h, decide_eq_true hp, hf]
theorem givX_1 {L : List Zo} {f : Int} (h : okB L = false) : givX L f = (L, 1) := by unfold givX; rw [h]
theorem givX_2 {L : List Zo} {f : Int} (h : okB L = true) (hw : whZ f L = none) : givX L f = (L, 2) := by unfold givX; rw [h, hw]
theorem givX_5 {L : List Zo} {f : Int} {i : Nat} (h : okB L = true) (hw : whZ f L = some i) (hm : f ∈ frI L i) : givX L f = (L, 5) := by unfold givX; rw [h, hw]; exact if_pos hm
theorem givX_0 {L : List Zo} {f : Int} {i : Nat} (h : okB L = true) (hw : whZ f L = some i) (hm : ¬f ∈ frI L i) : givX L f = (setF L i (insI f (frI L i)), 0) := by unfold givX; rw [h, hw]; exact if_neg hm
theorem sumZ_snoc (g : Zo → Int) (z : Zo) : ∀ L : List Zo, sumZ g (L ++ [z]) = sumZ g L + g z
  | [] => by show g z + 0 = 0 + g z; omega
  | y :: L => by
    have := sumZ_snoc g z L
    show g y + sumZ g (L ++ [z]) = g y + sumZ g L + g z
    omega
theorem takeZ {L : List Zo} {i : Nat} (h : i < L.length) : L.take (i + 1) = L.take i ++ [L.getD i zoZ] := by
  rw [List.take_add_one, List.getElem?_eq_getElem h, List.getD, List.getElem?_eq_getElem h]; rfl
theorem getZ {L : List Zo} {i : Nat} (h : i < L.length) : L[i]? = some (L.getD i zoZ) := by rw [List.getD, List.getElem?_eq_getElem h]; rfl
/-- Where a frame is. -/
theorem whZ_some {f : Int} {L : List Zo} {i : Nat} (h : i < L.length) (hi : inZ f (L.getD i zoZ) = true) (hb : ∀ j, j < i → inZ f (L.getD j zoZ) = false) : whZ f L = some i := by
  unfold whZ
  rw [List.findIdx?_eq_some_iff_getElem]
  refine ⟨h, by rw [← getD_get (d := zoZ) h]; exact hi, fun j hj => ?_⟩
  have := hb j hj
  rw [getD_get (by omega)] at this
  simp [this]
theorem whZ_none {f : Int} {L : List Zo} (hb : ∀ j, j < L.length → inZ f (L.getD j zoZ) = false) : whZ f L = none := by
  unfold whZ
  rw [List.findIdx?_eq_none_iff]
  intro z hz
  obtain ⟨j, hj, rfl⟩ := List.getElem_of_mem hz
  have := hb j hj
  rwa [getD_get hj] at this
theorem whZ_is {f : Int} {L : List Zo} {i : Nat} (h : whZ f L = some i) : i < L.length ∧ inZ f (L.getD i zoZ) = true ∧ ∀ j, j < i → inZ f (L.getD j zoZ) = false := by
  unfold whZ at h
  rw [List.findIdx?_eq_some_iff_getElem] at h
  obtain ⟨h1, h2, h3⟩ := h
  refine ⟨h1, by rw [getD_get h1]; exact h2, fun j hj => ?_⟩
  have := h3 j hj
  rw [getD_get (by omega)]
  simpa using this
/-- In its place. -/
theorem insI_app {f : Int} : ∀ {M N : List Int}, (∀ y ∈ M, ¬f < y) → insI f (M ++ N) = M ++ insI f N
  | [], _, _ => rfl
  | y :: M, N, h => by
    show (if f < y then _ else y :: insI f (M ++ N)) = y :: (M ++ insI f N)
    rw [if_neg (h y List.mem_cons_self), insI_app fun z hz => h z (List.mem_cons_of_mem _ hz)]
theorem insI_at {f : Int} {xs : List Int} {m : Nat} (h : ∀ y ∈ xs.take m, ¬f < y) (h2 : m = xs.length ∨ f < xs.getD m 0) (hm : m ≤ xs.length) : insI f xs = xs.take m ++ f :: xs.drop m := by
  have e : xs = xs.take m ++ xs.drop m := (List.take_append_drop m xs).symm
  have e1 : insI f xs = xs.take m ++ insI f (xs.drop m) := by
    conv => lhs; rw [e]
    exact insI_app h
  rw [e1]
  congr 1
  rcases h2 with h2 | h2
  · rw [h2, List.drop_length]; rfl
  · by_cases hm2 : m = xs.length
    · rw [hm2, List.drop_length]; rfl
    · rw [List.drop_eq_getElem_cons (by omega)]
      rw [getD_get (by omega)] at h2
      show (if f < xs[m] then _ else _) = _
      rw [if_pos h2]
theorem insI_bin {f : Int} {xs : List Int} (ha : ascI xs) (hn : ¬f ∈ xs) : insI f xs = xs.take (xs.countP (· < f)) ++ f :: xs.drop (xs.countP (· < f)) := by
  induction xs with
  | nil => rfl
  | cons x xs ih =>
    obtain ⟨h1, h2⟩ := List.pairwise_cons.1 ha
    have hx : ¬f = x := fun e => hn (e ▸ List.mem_cons_self)
    by_cases hlt : x < f
    · rw [List.countP_cons_of_pos (by simpa using hlt), List.take_succ_cons, List.drop_succ_cons]
      show (if f < x then _ else x :: insI f xs) = x :: _
      rw [if_neg (by omega), ih h2 fun hm => hn (List.mem_cons_of_mem _ hm)]
      rfl
    · have h0 : xs.countP (· < f) = 0 := List.countP_eq_zero.2 fun y hy => by have := h1 y hy; simp; omega
      rw [List.countP_cons_of_neg (by simpa using hlt), h0]
      show (if f < x then f :: x :: xs else _) = f :: x :: xs
      rw [if_pos (by omega)]
/-! Right zones are small. -/
theorem asc_len {f : Int} : ∀ {xs : List Int} {s : Nat}, ascI xs → (∀ x ∈ xs, f ≤ x ∧ x < f + s) → xs.length ≤ s
  | [], _, _, _ => Nat.zero_le _
  | x :: xs, s, ha, h => by
    obtain ⟨h1, h2⟩ := List.pairwise_cons.1 ha
    have hx := h x List.mem_cons_self
    obtain ⟨s', rfl⟩ : ∃ s', s = s' + 1 := ⟨s - 1, by omega⟩
    have h3 : xs.length ≤ s' := asc_len (f := f + 1) h2 fun y hy => by
      have := h y (List.mem_cons_of_mem _ hy)
      have := h1 y hy
      omega
    simpa using h3
def SmZ (L : List Zo) : Prop := L.length ≤ 1000 ∧ ∀ k, k < L.length → (L.getD k zoZ).fr.length ≤ 1000
theorem rt_len : ∀ {L : List Zo} {nx : Int}, RtZ nx L → (L.length : Int) ≤ sizeZ L ∧ (0 < L.length → nx + sizeZ L ≤ 65)
  | [], _, _ => ⟨Int.le_refl _, fun h => absurd h (by simp)⟩
  | z :: L, nx, h => by
    obtain ⟨h1, h2⟩ := rt_len h.2
    have h3 : 1 ≤ z.s ∧ z.s ≤ 65 - nx := ⟨h.1.2.1, h.1.2.2.1⟩
    show ((L.length + 1 : Nat) : Int) ≤ z.s + sizeZ L ∧ (_ → nx + (z.s + sizeZ L) ≤ 65)
    refine ⟨by omega, fun _ => ?_⟩
    by_cases e : 0 < L.length
    · have := h2 e; omega
    · have : L = [] := List.length_eq_zero_iff.1 (by omega)
      subst this
      show nx + (z.s + 0) ≤ 65
      omega
theorem rt_get : ∀ {L : List Zo} {nx : Int} {i : Nat}, RtZ nx L → i < L.length → ZoOK (L.getD i zoZ) (nx + sizeZ (L.take i))
  | y :: L, nx, 0, h, _ => by
    have e : nx + sizeZ ((y :: L).take 0) = nx := by show nx + 0 = nx; omega
    rw [e]
    exact h.1
  | y :: L, nx, i + 1, h, hi => by
    have := rt_get (L := L) (i := i) h.2 (by simpa using hi)
    have e : nx + sizeZ ((y :: L).take (i + 1)) = nx + y.s + sizeZ (L.take i) := by show nx + (y.s + sizeZ (L.take i)) = _; omega
    rw [e]
    exact this
theorem size_take : ∀ (L : List Zo) (i : Nat) {nx : Int}, RtZ nx L → 0 ≤ sizeZ (L.take i)
  | [], i, _, _ => by simp [sizeZ]
  | z :: L, 0, _, _ => Int.le_refl _
  | z :: L, i + 1, nx, h => by
    have := size_take L i h.2
    have := h.1.2.1
    show 0 ≤ z.s + sizeZ (L.take i)
    omega
/-- What a right zone has. -/
theorem ok_at {L : List Zo} (h : okB L = true) {i : Nat} (hi : i < L.length) : ∃ nx, 1 ≤ nx ∧ ZoOK (L.getD i zoZ) nx := by
  obtain ⟨-, h2⟩ := okB_iff.1 h
  exact ⟨_, by have := size_take L i h2; omega, rt_get h2 hi⟩
theorem ok_small {L : List Zo} (h : okB L = true) : SmZ L := by
  obtain ⟨h1, h2⟩ := okB_iff.1 h
  obtain ⟨h3, h4⟩ := rt_len h2
  have h5 := h4 h1
  refine ⟨by omega, fun k hk => ?_⟩
  obtain ⟨nx, h6, h7⟩ := ok_at h hk
  have h8 := asc_len (s := (L.getD k zoZ).s.toNat) h7.2.2.2.2.2.2.2.2 (f := (L.getD k zoZ).f) (by have := h7.2.2.2.2.2.2.2.1; have := h7.2.1; intro x hx; have := h7.2.2.2.2.2.2.2.1 x hx; omega)
  have := h7.2.2.1
  omega
theorem setF_len (L : List Zo) (i : Nat) (xs : List Int) : (setF L i xs).length = L.length := by unfold setF; simp
/-- Right zones stay right. -/
theorem ok_setF {L : List Zo} (h : okB L = true) {i : Nat} (hi : i < L.length) {xs : List Int} (h1 : ∀ x ∈ xs, (L.getD i zoZ).f ≤ x ∧ x < (L.getD i zoZ).f + (L.getD i zoZ).s) (h2 : ascI xs) : okB (setF L i xs) = true := by
  obtain ⟨a, b⟩ := okB_iff.1 h
  exact okB_iff.2 ⟨by rw [setF_len]; exact a, (RtZ.set b (getZ hi) h1 h2).1⟩
theorem fromZ_lt {u : Bool} {L : List Zo} {k i : Nat} (h : fromZ u L k = some i) : i < L.length := by
  obtain ⟨-, z, hz, -⟩ := fromZ_some h
  exact (List.getElem?_eq_some_iff.1 hz).1
theorem ok_take {u : Bool} {L : List Zo} {p : Int} (h : okB L = true) : okB (takX u L p).1 = true := by
  by_cases hp : 0 ≤ p ∧ p < (L.length : Int)
  · cases hf : fromZ u L (p.toNat + 1) with
    | none => rw [takX_3 h hp hf]; exact h
    | some i =>
      rw [takX_0 h hp hf]
      have hi := fromZ_lt hf
      obtain ⟨nx, -, hz⟩ := ok_at h hi
      exact ok_setF h hi (fun x hx => hz.2.2.2.2.2.2.2.1 x (List.mem_of_mem_drop hx)) (List.Pairwise.sublist (List.drop_sublist 1 _) hz.2.2.2.2.2.2.2.2)
  · rw [takX_2 h hp]; exact h
theorem ok_give {L : List Zo} {f : Int} (h : okB L = true) : okB (givX L f).1 = true := by
  cases hw : whZ f L with
  | none => rw [givX_2 h hw]; exact h
  | some i =>
    by_cases hm : f ∈ frI L i
    · rw [givX_5 h hw hm]; exact h
    · rw [givX_0 h hw hm]
      obtain ⟨hi, hin, -⟩ := whZ_is hw
      obtain ⟨nx, -, hz⟩ := ok_at h hi
      have hin := of_decide_eq_true hin
      refine ok_setF h hi (fun x hx => ?_) (insI_asc hz.2.2.2.2.2.2.2.2 hm)
      rcases List.mem_cons.1 ((insI_perm _ _).mem_iff.1 hx) with rfl | hx
      · exact hin
      · exact hz.2.2.2.2.2.2.2.1 x hx
end Go.Mine
