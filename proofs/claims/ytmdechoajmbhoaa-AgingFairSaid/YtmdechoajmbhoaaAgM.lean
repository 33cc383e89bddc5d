/- Dirty files by age (layer 15) as plain mathematics: words of my own, no program is named here. -/
import Derived.Test.YtmdechoajmbhoaaRdS
namespace Go.Mine
open Go Go.RowKit

/-- A file that is dirty: which, since when. -/
abbrev Du := Int × Int
abbrev zD : Du := (0, 0)
def fileB (f : Int) : Bool := decide (0 ≤ f ∧ f < 8)
def tickB (n : Int) : Bool := decide (0 ≤ n ∧ n ≤ 1000000)
def hasA (L : List Du) (f : Int) : Bool := L.any fun d => d.1 == f
def lstA (L : List Du) : Int := match L.getLast? with | some d => d.2 | none => 0
/-- An element is right behind those of P. -/
def oneA (P : List Du) (d : Du) : Bool := fileB d.1 && !hasA P d.1 && decide (lstA P ≤ d.2) && decide (d.2 ≤ 1000000)
def okA (L : List Du) : Bool := (List.range L.length).all fun j => oneA (L.take j) (L.getD j zD)
theorem fileB_iff {f : Int} : fileB f = true ↔ 0 ≤ f ∧ f < 8 := decide_eq_true_iff
theorem tickB_iff {n : Int} : tickB n = true ↔ 0 ≤ n ∧ n ≤ 1000000 := decide_eq_true_iff
theorem okA_iff {L : List Du} : okA L = true ↔ ∀ j, j < L.length → oneA (L.take j) (L.getD j zD) = true := by
  unfold okA
  rw [List.all_eq_true]
  exact ⟨fun h j hj => h j (List.mem_range.2 hj), fun h j hj => h j (List.mem_range.1 hj)⟩
theorem okA_no {L : List Du} {j : Nat} (hj : j < L.length) (h : oneA (L.take j) (L.getD j zD) = false) : okA L = false := by
  cases hk : okA L
  · rfl
  · rw [okA_iff.1 hk j hj] at h; cases h
theorem oneA_iff {P : List Du} {d : Du} : oneA P d = true ↔ fileB d.1 = true ∧ hasA P d.1 = false ∧ lstA P ≤ d.2 ∧ d.2 ≤ 1000000 := by
  unfold oneA
  simp only [Bool.and_eq_true, Bool.not_eq_true', decide_eq_true_eq]
  exact ⟨fun ⟨⟨⟨a, b⟩, c⟩, d⟩ => ⟨a, b, c, d⟩, fun ⟨a, b, c, d⟩ => ⟨⟨⟨a, b⟩, c⟩, d⟩⟩
theorem oneA_f1 {P : List Du} {d : Du} (h : fileB d.1 = false) : oneA P d = false := by unfold oneA; rw [h]; rfl
theorem oneA_f2 {P : List Du} {d : Du} (h : hasA P d.1 = true) : oneA P d = false := by unfold oneA; rw [h]; simp
theorem oneA_f3 {P : List Du} {d : Du} (h : d.2 < lstA P) : oneA P d = false := by unfold oneA; rw [decide_eq_false (by omega : ¬ lstA P ≤ d.2)]; simp
theorem oneA_f4 {P : List Du} {d : Du} (h : 1000000 < d.2) : oneA P d = false := by unfold oneA; rw [decide_eq_false (by omega : ¬ d.2 ≤ 1000000)]; simp
theorem hasA_nil (f : Int) : hasA [] f = false := rfl
theorem lstA_nil : lstA [] = 0 := rfl
theorem hasA_app (P Q : List Du) (f : Int) : hasA (P ++ Q) f = (hasA P f || hasA Q f) := by unfold hasA; rw [List.any_append]
theorem hasA_snoc (P : List Du) (d : Du) (f : Int) : hasA (P ++ [d]) f = (hasA P f || d.1 == f) := by rw [hasA_app]; unfold hasA; simp
theorem lstA_snoc (P : List Du) (d : Du) : lstA (P ++ [d]) = d.2 := by unfold lstA; rw [List.getLast?_append]; simp
theorem dD {L : List Du} {k : Nat} (h : k < L.length) : L.getD k zD = L[k] := by simp [List.getD, h]
theorem takeD {L : List Du} {k : Nat} (h : k < L.length) : L.take (k + 1) = L.take k ++ [L.getD k zD] := take_getD L k h
theorem hasA_take {L : List Du} {k : Nat} (h : k < L.length) (f : Int) : hasA (L.take (k + 1)) f = (hasA (L.take k) f || (L.getD k zD).1 == f) := by rw [takeD h, hasA_snoc]
theorem lstA_take {L : List Du} {k : Nat} (h : k < L.length) : lstA (L.take (k + 1)) = (L.getD k zD).2 := by rw [takeD h, lstA_snoc]
theorem hasA_iff {L : List Du} {f : Int} : hasA L f = true ↔ ∃ k, k < L.length ∧ (L.getD k zD).1 = f := by
  unfold hasA
  rw [List.any_eq_true]
  constructor
  · rintro ⟨d, hd, e⟩
    obtain ⟨k, hk, rfl⟩ := List.getElem_of_mem hd
    exact ⟨k, hk, by rw [dD hk]; simpa using e⟩
  · rintro ⟨k, hk, e⟩
    exact ⟨L[k], List.getElem_mem hk, by rw [dD hk] at e; simpa using e⟩
theorem hasA_iff' {L : List Du} {f : Int} : hasA L f = false ↔ ∀ k, k < L.length → (L.getD k zD).1 ≠ f := by
  rw [← Bool.not_eq_true, hasA_iff]
  exact ⟨fun h k hk e => h ⟨k, hk, e⟩, fun h ⟨k, hk, e⟩ => h k hk e⟩
theorem lstA_eq {L : List Du} (h : 0 < L.length) : lstA L = (L.getD (L.length - 1) zD).2 := by
  have := lstA_take (L := L) (k := L.length - 1) (by omega)
  rw [show L.length - 1 + 1 = L.length by omega, List.take_length] at this
  exact this
theorem take_getD2 {L : List Du} {k j : Nat} (h : j < k) : (L.take k).getD j zD = L.getD j zD := by simp [List.getD, List.getElem?_take, h]
theorem drop_getD2 {L : List Du} {k j : Nat} : (L.drop k).getD j zD = L.getD (k + j) zD := by simp [List.getD]
theorem okA_nil : okA [] = true := rfl
theorem okA_take {L : List Du} (h : okA L = true) (k : Nat) : okA (L.take k) = true := by
  refine okA_iff.2 fun j hj => ?_
  rw [List.length_take] at hj
  have := okA_iff.1 h j (by omega)
  rw [List.take_take, Nat.min_eq_left (by omega)]
  rw [take_getD2 (show j < k by omega)]
  exact this
theorem okA_snoc {L : List Du} {d : Du} : okA (L ++ [d]) = true ↔ okA L = true ∧ oneA L d = true := by
  constructor
  · intro h
    refine ⟨by have := okA_take h L.length; rwa [List.take_left] at this, ?_⟩
    have := okA_iff.1 h L.length (by simp)
    rw [List.take_left] at this
    simpa using this
  · rintro ⟨h1, h2⟩
    refine okA_iff.2 fun j hj => ?_
    rw [List.length_append, List.length_singleton] at hj
    by_cases e : j = L.length
    · subst e
      rw [List.take_left]
      simpa using h2
    · rw [List.take_append_of_le_length (by omega)]
      rw [show (L ++ [d]).getD j zD = L.getD j zD by simp [List.getD, List.getElem?_append_left (show j < L.length by omega)]]
      exact okA_iff.1 h1 j (by omega)
/-- What a right list has. -/
theorem okA_at {L : List Du} (h : okA L = true) {k : Nat} (hk : k < L.length) : 0 ≤ (L.getD k zD).1 ∧ (L.getD k zD).1 < 8 ∧ 0 ≤ (L.getD k zD).2 ∧ (L.getD k zD).2 ≤ 1000000 := by
  induction k with
  | zero =>
    have h1 := oneA_iff.1 (okA_iff.1 h 0 hk)
    have h2 := fileB_iff.1 h1.1
    have h3 := h1.2.2.1
    rw [List.take_zero, lstA_nil] at h3
    exact ⟨h2.1, h2.2, h3, h1.2.2.2⟩
  | succ k ih =>
    have h0 := ih (by omega)
    have h1 := oneA_iff.1 (okA_iff.1 h (k + 1) hk)
    have h2 := fileB_iff.1 h1.1
    have h3 := h1.2.2.1
    rw [lstA_take (by omega)] at h3
    exact ⟨h2.1, h2.2, by omega, h1.2.2.2⟩
theorem okA_mono {L : List Du} (h : okA L = true) {i j : Nat} (hij : i ≤ j) (hj : j < L.length) : (L.getD i zD).2 ≤ (L.getD j zD).2 := by
  induction j with
  | zero => obtain rfl : i = 0 := by omega
            exact Int.le_refl _
  | succ j ih =>
    by_cases e : i = j + 1
    · subst e; exact Int.le_refl _
    · have h0 := ih (by omega) (by omega)
      have h1 := (oneA_iff.1 (okA_iff.1 h (j + 1) hj)).2.2.1
      rw [lstA_take (by omega)] at h1
      omega
theorem okA_ne {L : List Du} (h : okA L = true) {i j : Nat} (hij : i < j) (hj : j < L.length) : (L.getD i zD).1 ≠ (L.getD j zD).1 := by
  have h1 := (oneA_iff.1 (okA_iff.1 h j hj)).2.1
  have h2 := hasA_iff'.1 h1 i (by rw [List.length_take]; omega)
  rw [take_getD2 (show i < j by omega)] at h2
  exact h2
theorem okA_lst {L : List Du} (h : okA L = true) : 0 ≤ lstA L ∧ lstA L ≤ 1000000 := by
  by_cases h0 : 0 < L.length
  · rw [lstA_eq h0]
    have := okA_at h (k := L.length - 1) (by omega)
    omega
  · rw [List.length_eq_zero_iff.1 (by omega : L.length = 0), lstA_nil]
    omega
theorem lst_nn {L : List Du} {i : Nat} (h : ∀ j, j < i → oneA (L.take j) (L.getD j zD) = true) (hi : i ≤ L.length) : 0 ≤ lstA (L.take i) ∧ lstA (L.take i) ≤ 1000000 := by
  have : okA (L.take i) = true := okA_iff.2 fun j hj => by
    rw [List.length_take] at hj
    rw [List.take_take, Nat.min_eq_left (by omega)]
    rw [take_getD2 (show j < i by omega)]
    exact h j (by omega)
  exact okA_lst this
/-! The calls. -/
def outA (L : List Du) (f : Int) : List Du := L.filter fun d => !(d.1 == f)
/-- The first error of a list and a file; and of a tick. -/
def eF (L : List Du) (f : Int) : Int := match okA L, fileB f with | false, _ => 1 | true, false => 2 | true, true => 0
def eA (L : List Du) (f n : Int) : Int := match okA L, fileB f, tickB n && decide (lstA L ≤ n) with | false, _, _ => 1 | true, false, _ => 2 | true, true, false => 2 | true, true, true => 0
def addX (L : List Du) (f n : Int) : List Du × Int := match okA L, fileB f, tickB n && decide (lstA L ≤ n), hasA L f with
  | false, _, _, _ => (L, 1) | true, false, _, _ => (L, 2) | true, true, false, _ => (L, 2) | true, true, true, true => (L, 0) | true, true, true, false => (L ++ [(f, n)], 0)
def remX (L : List Du) (f : Int) : List Du × Int := match okA L, fileB f, hasA L f with
  | false, _, _ => (L, 1) | true, false, _ => (L, 2) | true, true, false => (L, 4) | true, true, true => (outA L f, 0)
def agaX (L : List Du) (f n : Int) : List Du × Int := match okA L, fileB f, tickB n && decide (lstA L ≤ n), hasA L f with
  | false, _, _, _ => (L, 1) | true, false, _, _ => (L, 2) | true, true, false, _ => (L, 2) | true, true, true, false => (L, 4) | true, true, true, true => (outA L f ++ [(f, n)], 0)
def dueL (L : List Du) (t : Int) : List Int := (L.filter fun d => decide (d.2 ≤ t)).map fun d => d.1
def expX (L : List Du) (now age : Int) : List Int := match okA L, tickB now, tickB age with | true, true, true => dueL L (now - age) | _, _, _ => []
def oldX (L : List Du) : Int × Bool := match okA L, L with | true, d :: _ => (d.1, true) | _, _ => (0, false)
theorem dueL_take {L : List Du} {k : Nat} (h : k < L.length) (t : Int) : dueL (L.take (k + 1)) t = if (L.getD k zD).2 ≤ t then dueL (L.take k) t ++ [(L.getD k zD).1] else dueL (L.take k) t := by
  rw [takeD h]
  unfold dueL
  rw [List.filter_append, List.map_append]
  generalize L.getD k zD = d
  split <;> rename_i h1 <;> simp [h1]
theorem dueL_len (L : List Du) (t : Int) : (dueL L t).length ≤ L.length := by
  unfold dueL
  rw [List.length_map]
  exact List.length_filter_le _ _
theorem outA_take {L : List Du} {k : Nat} (h : k < L.length) (f : Int) : outA (L.take (k + 1)) f = if (L.getD k zD).1 = f then outA (L.take k) f else outA (L.take k) f ++ [L.getD k zD] := by
  rw [takeD h]
  unfold outA
  rw [List.filter_append]
  generalize L.getD k zD = d
  split <;> rename_i h1 <;> simp [h1]
theorem outA_len (L : List Du) (f : Int) : (outA L f).length ≤ L.length := List.length_filter_le _ _
theorem outA_none {L : List Du} {f : Int} (h : hasA L f = false) : outA L f = L := by
  unfold outA
  rw [List.filter_eq_self]
  intro d hd
  obtain ⟨k, hk, rfl⟩ := List.getElem_of_mem hd
  have := hasA_iff'.1 h k hk
  rw [dD hk] at this
  simpa using this
theorem outA_cut {L : List Du} {f : Int} (h : okA L = true) {i : Nat} (hi : i < L.length) (he : (L.getD i zD).1 = f) : outA L f = L.take i ++ L.drop (i + 1) := by
  have e : L = L.take i ++ (L.getD i zD :: L.drop (i + 1)) := by
    rw [dD hi, List.getElem_cons_drop, List.take_append_drop]
  have h1 : hasA (L.take i) f = false := hasA_iff'.2 fun k hk e9 => by
    rw [List.length_take] at hk
    rw [take_getD2 (show k < i by omega)] at e9
    exact okA_ne h (show k < i by omega) hi (e9.trans he.symm)
  have h2 : hasA (L.drop (i + 1)) f = false := hasA_iff'.2 fun k hk e9 => by
    rw [List.length_drop] at hk
    rw [drop_getD2] at e9
    exact okA_ne h (show i < i + 1 + k by omega) (by omega) (he.trans e9.symm)
  conv => lhs; rw [e]
  unfold outA at *
  rw [List.filter_append, List.filter_cons_of_neg (by rw [he]; simp)]
  have k1 := outA_none h1
  have k2 := outA_none h2
  unfold outA at k1 k2
  rw [k1, k2]
/-- What stands ahead is no later than what stands behind. -/
def AheadA (L M : List Du) : Prop := ∀ x ∈ L, ∀ y ∈ M, x.2 ≤ y.2
theorem ahead_cut {L : List Du} (h : okA L = true) (i : Nat) : AheadA (L.take i) (L.drop (i + 1)) := by
  intro x hx y hy
  obtain ⟨k, hk, rfl⟩ := List.getElem_of_mem hx
  obtain ⟨m, hm, rfl⟩ := List.getElem_of_mem hy
  rw [List.length_take] at hk
  rw [List.length_drop] at hm
  rw [List.getElem_take, List.getElem_drop, ← dD (by omega), ← dD (by omega)]
  exact okA_mono h (by omega) (by omega)
theorem ahead_one {L : List Du} (h : okA L = true) {d : Du} (hd : lstA L ≤ d.2) : AheadA L [d] := by
  intro x hx y hy
  obtain rfl := List.mem_singleton.1 hy
  obtain ⟨k, hk, rfl⟩ := List.getElem_of_mem hx
  rw [lstA_eq (by omega)] at hd
  have := okA_mono h (show k ≤ L.length - 1 by omega) (by omega)
  rw [← dD hk]
  omega
theorem outA_mem {L : List Du} {f : Int} {d : Du} (h : d ∈ outA L f) : d ∈ L := (List.mem_filter.1 h).1
theorem AheadA.sub {L L' M : List Du} (h : AheadA L M) (hs : ∀ d, d ∈ L' → d ∈ L) : AheadA L' M := fun x hx y hy => h x (hs x hx) y hy
theorem okA_out {L : List Du} (h : okA L = true) (f : Int) : okA (outA L f) = true ∧ lstA (outA L f) ≤ lstA L := by
  have key : ∀ k, k ≤ L.length → okA (outA (L.take k) f) = true ∧ lstA (outA (L.take k) f) ≤ lstA (L.take k) := by
    intro k
    induction k with
    | zero => intro _; exact ⟨rfl, Int.le_refl _⟩
    | succ k ih =>
      intro hk
      have h0 := ih (by omega)
      have h1 := oneA_iff.1 (okA_iff.1 h k (by omega))
      rw [outA_take (by omega), lstA_take (by omega)]
      split
      · exact ⟨h0.1, Int.le_trans h0.2 h1.2.2.1⟩
      · refine ⟨okA_snoc.2 ⟨h0.1, oneA_iff.2 ⟨h1.1, ?_, Int.le_trans h0.2 h1.2.2.1, h1.2.2.2⟩⟩, by rw [lstA_snoc]; exact Int.le_refl _⟩
        refine hasA_iff'.2 fun j hj e => ?_
        rw [dD hj] at e
        have hm := outA_mem (List.getElem_mem hj)
        obtain ⟨m, hm1, hm2⟩ := List.getElem_of_mem hm
        have h4 := hasA_iff'.1 h1.2.1 m hm1
        rw [dD hm1, hm2] at h4
        exact h4 e
  have := key L.length (Nat.le_refl _)
  rwa [List.take_length] at this
end Go.Mine
