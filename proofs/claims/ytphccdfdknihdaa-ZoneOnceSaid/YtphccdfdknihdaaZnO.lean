/- Zones (layer 10): what follows when frames are taken and given in turn: plain mathematics. -/
import Derived.Test.YtphccdfdknihdaaZnM
namespace Go.Mine
open Go Go.RowKit

theorem erase_perm {α : Type} : ∀ {T : List α} {k : Nat} (hk : k < T.length), T.Perm (T[k] :: T.eraseIdx k)
  | x :: T, 0, _ => List.Perm.refl _
  | x :: T, k + 1, hk => by
    have ih := erase_perm (T := T) (k := k) (by simpa using hk)
    show (x :: T).Perm (T[k]'(by simpa using hk) :: x :: T.eraseIdx k)
    exact (List.Perm.cons x ih).trans (List.Perm.swap _ _ _)
/-- The zone of an index that the zones have. -/
theorem zone_of {f : Int} : ∀ {L : List Zo} {nx : Int}, RtZ nx L → nx ≤ f → f < nx + sizeZ L → ∃ i z, i < L.length ∧ L[i]? = some z ∧ z.f ≤ f ∧ f < z.f + z.s
  | [], nx, _, h1, h2 => by
    have : f < nx + 0 := h2
    omega
  | y :: L, nx, h, h1, h2 => by
    have hy : y.f = nx := h.1.1
    have h2' : f < nx + (y.s + sizeZ L) := h2
    by_cases hf : f < nx + y.s
    · exact ⟨0, y, by simp, rfl, by omega, by omega⟩
    · obtain ⟨i, z, h3, h4, h5, h6⟩ := zone_of h.2 (by omega) (show f < nx + y.s + sizeZ L by omega)
      exact ⟨i + 1, z, by simpa using h3, by simpa using h4, h5, h6⟩
/-- There is one only. -/
theorem zone_at {L : List Zo} : ∀ {nx : Int} {i : Nat} {z : Zo}, RtZ nx L → L[i]? = some z → nx ≤ z.f ∧ z.f + z.s ≤ nx + sizeZ L ∧ 1 ≤ z.s := by
  induction L with
  | nil => intro nx i z _ h; exact absurd h (by simp)
  | cons y L ih =>
    intro nx i z h hz
    have hs := RtZ.size h.2
    have hy : y.f = nx := h.1.1
    have hys : 1 ≤ y.s := h.1.2.1
    show _ ∧ _ ≤ nx + (y.s + sizeZ L) ∧ _
    cases i with
    | zero =>
      have : y = z := by simpa using hz
      subst this
      omega
    | succ i =>
      have := ih h.2 (show L[i]? = some z by simpa using hz)
      omega
theorem zone_one {f : Int} : ∀ {L : List Zo} {nx : Int} {i j : Nat} {y z : Zo}, RtZ nx L → L[i]? = some y → L[j]? = some z → y.f ≤ f → f < y.f + y.s → z.f ≤ f → f < z.f + z.s → i = j
  | x :: L, nx, 0, 0, _, _, _, _, _, _, _, _, _ => rfl
  | x :: L, nx, 0, j + 1, y, z, h, hy, hz, h1, h2, h3, h4 => by
    have e : x = y := by simpa using hy
    subst e
    have := zone_at h.2 (show L[j]? = some z by simpa using hz)
    have hx : x.f = nx := h.1.1
    omega
  | x :: L, nx, i + 1, 0, y, z, h, hy, hz, h1, h2, h3, h4 => by
    have e : x = z := by simpa using hz
    subst e
    have := zone_at h.2 (show L[i]? = some y by simpa using hy)
    have hx : x.f = nx := h.1.1
    omega
  | x :: L, nx, i + 1, j + 1, y, z, h, hy, hz, h1, h2, h3, h4 => by
    rw [zone_one h.2 (show L[i]? = some y by simpa using hy) (show L[j]? = some z by simpa using hz) h1 h2 h3 h4]
/-- If it is urgent, only zones without a free frame give none. -/
theorem urgent_none {nx : Int} : ∀ {L : List Zo} {k : Nat}, RtZ nx L → L.length ≤ k → fromZ true L k = none → frees L = [] := by
  intro L k h hk hn
  have h0 := fromZ_none hn
  have all : ∀ z ∈ L, z.fr = [] := fun z hz => by
    obtain ⟨i, hi, e⟩ := List.getElem_of_mem hz
    have := h0 i (by omega) z (by rw [List.getElem?_eq_getElem hi, e])
    unfold hasZ at this
    rw [Bool.or_eq_false_iff, Bool.true_and] at this
    have h2 := of_decide_eq_false this.2
    exact List.length_eq_zero_iff.1 (by omega)
  have go : ∀ M : List Zo, (∀ z ∈ M, z.fr = []) → frees M = [] := fun M => by
    induction M with
    | nil => intro _; rfl
    | cons z M ih =>
      intro h
      show z.fr ++ frees M = []
      rw [h z List.mem_cons_self, ih fun y hy => h y (List.mem_cons_of_mem _ hy)]
      rfl
  exact go L all
theorem free_in {L : List Zo} {f : Int} : f ∈ frees L → ∃ z ∈ L, f ∈ z.fr := by
  induction L with
  | nil => intro h; exact absurd h (by simp [frees])
  | cons y L ih =>
    intro h
    rcases List.mem_append.1 h with h | h
    · exact ⟨y, List.mem_cons_self, h⟩
    · obtain ⟨z, hz, h2⟩ := ih h
      exact ⟨z, List.mem_cons_of_mem _ hz, h2⟩
theorem in_free {L : List Zo} {i : Nat} {z : Zo} (hz : L[i]? = some z) {f : Int} (hf : f ∈ z.fr) : f ∈ frees L := by
  induction L generalizing i with
  | nil => exact absurd hz (by simp)
  | cons y L ih =>
    cases i with
    | zero =>
      have : y = z := by simpa using hz
      subst this
      exact List.mem_append_left _ hf
    | succ i => exact List.mem_append_right _ (ih (show L[i]? = some z by simpa using hz))
/-- The frames that are free and those that are taken are all frames. -/
def OnceZ (P : List Int) (L : List Zo) (T : List Int) : Prop := RtZ 1 L ∧ P.Nodup ∧ (P.length : Int) = sizeZ L ∧ (∀ f ∈ P, 1 ≤ f ∧ f < 1 + sizeZ L) ∧ (frees L ++ T).Perm P
theorem OnceZ.len {P : List Int} {L : List Zo} {T : List Int} (h : OnceZ P L T) : ((frees L).length : Int) + T.length = sizeZ L := by
  have := h.2.2.2.2.length_eq
  rw [List.length_append] at this
  have h2 := h.2.2.1
  omega
theorem OnceZ.take {P : List Int} {L : List Zo} {T : List Int} {i : Nat} {z : Zo} {f : Int} {r : List Int} (h : OnceZ P L T) (hz : L[i]? = some z) (hr : z.fr = f :: r) : OnceZ P (L.set i { z with fr := r }) (T ++ [f]) ∧ ¬f ∈ T := by
  obtain ⟨h1, h2, h3, h4, h5⟩ := h
  have hzok : (∀ x ∈ z.fr, z.f ≤ x ∧ x < z.f + z.s) ∧ ascI z.fr := by
    have go : ∀ (M : List Zo) (nx : Int) (i : Nat), RtZ nx M → M[i]? = some z → (∀ x ∈ z.fr, z.f ≤ x ∧ x < z.f + z.s) ∧ ascI z.fr := fun M => by
      induction M with
      | nil => intro nx i _ h; exact absurd h (by simp)
      | cons y M ih =>
        intro nx i hh hz
        cases i with
        | zero =>
          have : y = z := by simpa using hz
          subst this
          exact ⟨hh.1.2.2.2.2.2.2.2.1, hh.1.2.2.2.2.2.2.2.2⟩
        | succ i => exact ih _ i hh.2 (by simpa using hz)
    exact go L 1 i h1 hz
  rw [hr] at hzok
  obtain ⟨h6, h7⟩ := RtZ.set (fr := r) h1 hz (fun x hx => hzok.1 x (List.mem_cons_of_mem _ hx)) (List.pairwise_cons.1 hzok.2).2
  have h8 := frees_drop hz hr
  have h9 : (frees (L.set i { z with fr := r }) ++ (T ++ [f])).Perm P := by
    refine List.Perm.trans ?_ h5
    refine List.Perm.trans ?_ (List.Perm.append_right T h8).symm
    rw [← List.append_assoc]
    exact (List.perm_append_singleton f _)
  refine ⟨⟨h6, h2, by rw [h7]; exact h3, by rw [h7]; exact h4, h9⟩, fun hf => ?_⟩
  have hn : (frees L ++ T).Nodup := h5.nodup_iff.2 h2
  have hm : f ∈ frees L := in_free hz (by rw [hr]; exact List.mem_cons_self)
  exact (List.nodup_append.1 hn).2.2 f hm f hf rfl
theorem OnceZ.give {P : List Int} {L : List Zo} {T : List Int} {k : Nat} (h : OnceZ P L T) (hk : k < T.length) : ∃ i z, i < L.length ∧ L[i]? = some z ∧ z.f ≤ T[k] ∧ T[k] < z.f + z.s ∧ ¬T[k] ∈ z.fr ∧ OnceZ P (L.set i { z with fr := insI T[k] z.fr }) (T.eraseIdx k) := by
  obtain ⟨h1, h2, h3, h4, h5⟩ := h
  have hmT : T[k] ∈ T := List.getElem_mem hk
  have hP : T[k] ∈ P := h5.mem_iff.1 (List.mem_append_right _ hmT)
  obtain ⟨b1, b2⟩ := h4 _ hP
  obtain ⟨i, z, hi, hz, b3, b4⟩ := zone_of h1 b1 b2
  have hn : (frees L ++ T).Nodup := h5.nodup_iff.2 h2
  have hnf : ¬T[k] ∈ z.fr := fun hf => (List.nodup_append.1 hn).2.2 _ (in_free hz hf) _ hmT rfl
  have hzok : (∀ x ∈ z.fr, z.f ≤ x ∧ x < z.f + z.s) ∧ ascI z.fr := by
    have go : ∀ (M : List Zo) (nx : Int) (i : Nat), RtZ nx M → M[i]? = some z → (∀ x ∈ z.fr, z.f ≤ x ∧ x < z.f + z.s) ∧ ascI z.fr := fun M => by
      induction M with
      | nil => intro nx i _ h; exact absurd h (by simp)
      | cons y M ih =>
        intro nx i hh hz
        cases i with
        | zero =>
          have : y = z := by simpa using hz
          subst this
          exact ⟨hh.1.2.2.2.2.2.2.2.1, hh.1.2.2.2.2.2.2.2.2⟩
        | succ i => exact ih _ i hh.2 (by simpa using hz)
    exact go L 1 i h1 hz
  obtain ⟨h6, h7⟩ := RtZ.set (fr := insI T[k] z.fr) h1 hz (fun x hx => by
    rcases List.mem_cons.1 ((insI_perm _ _).mem_iff.1 hx) with rfl | hx
    · exact ⟨b3, b4⟩
    · exact hzok.1 x hx) (insI_asc hzok.2 hnf)
  have h8 := frees_put hz (insI_perm T[k] z.fr)
  refine ⟨i, z, hi, hz, b3, b4, hnf, h6, h2, by rw [h7]; exact h3, by rw [h7]; exact h4, ?_⟩
  refine List.Perm.trans ?_ h5
  refine (List.Perm.append_right _ h8).trans ?_
  have h9 : T.Perm (T[k] :: T.eraseIdx k) := erase_perm hk
  exact (List.perm_middle.symm).trans (List.Perm.append_left _ h9.symm)
/-! Reserves. -/
def SpZ (L : List Zo) : Prop := ∀ z ∈ L, z.mn ≤ (z.fr.length : Int)
def abvZ : List Zo → Int
  | [] => 0
  | z :: L => (z.fr.length : Int) - z.mn + abvZ L
theorem abv_drop : ∀ {L : List Zo} {i : Nat} {z : Zo} {f : Int} {r : List Int}, L[i]? = some z → z.fr = f :: r → abvZ (L.set i { z with fr := r }) = abvZ L - 1
  | y :: L, 0, z, f, r, hz, hr => by
    have : y = z := by simpa using hz
    subst this
    show (r.length : Int) - y.mn + abvZ L = (y.fr.length : Int) - y.mn + abvZ L - 1
    rw [hr, List.length_cons]
    omega
  | y :: L, i + 1, z, f, r, hz, hr => by
    have ih := abv_drop (L := L) (i := i) (by simpa using hz) hr
    show (y.fr.length : Int) - y.mn + abvZ (L.set i { z with fr := r }) = (y.fr.length : Int) - y.mn + abvZ L - 1
    omega
theorem SpZ.drop {L : List Zo} {i : Nat} {z : Zo} {f : Int} {r : List Int} (h : SpZ L) (hr : z.fr = f :: r) (hm : z.mn < (z.fr.length : Int)) : SpZ (L.set i { z with fr := r }) := fun y hy => by
  rcases List.mem_or_eq_of_mem_set hy with hy | rfl
  · exact h y hy
  · show z.mn ≤ (r.length : Int)
    rw [hr, List.length_cons] at hm
    omega
theorem calm_none {L : List Zo} {k : Nat} (h : SpZ L) (hk : L.length ≤ k) (hn : fromZ false L k = none) : (∀ z ∈ L, (z.fr.length : Int) = z.mn) ∧ abvZ L = 0 := by
  have h0 := fromZ_none hn
  have all : ∀ z ∈ L, (z.fr.length : Int) = z.mn := fun z hz => by
    obtain ⟨i, hi, e⟩ := List.getElem_of_mem hz
    have := h0 i (by omega) z (by rw [List.getElem?_eq_getElem hi, e])
    unfold hasZ at this
    rw [Bool.false_and, Bool.or_false] at this
    have h2 := of_decide_eq_false this
    have h3 := h z hz
    omega
  refine ⟨all, ?_⟩
  have go : ∀ M : List Zo, (∀ z ∈ M, (z.fr.length : Int) = z.mn) → abvZ M = 0 := fun M => by
    induction M with
    | nil => intro _; rfl
    | cons z M ih =>
      intro h
      have h1 := h z List.mem_cons_self
      have h2 := ih fun y hy => h y (List.mem_cons_of_mem _ hy)
      show (z.fr.length : Int) - z.mn + abvZ M = 0
      omega
  exact go L all
end Go.Mine
