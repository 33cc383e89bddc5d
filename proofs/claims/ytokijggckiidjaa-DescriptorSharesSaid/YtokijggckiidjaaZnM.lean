/- Zones (layer 10): what they are, and what taking and giving a frame makes of them: plain mathematics, no program is named here. -/
import Derived.Test.YtokijggckiidjaaRows2
namespace Go.Mine
open Go Go.RowKit

structure Zo where
  f : Int
  s : Int
  mn : Int
  lo : Int
  hi : Int
  fr : List Int
def ascI (L : List Int) : Prop := L.Pairwise (· < ·)
def ZoOK (z : Zo) (nx : Int) : Prop := z.f = nx ∧ 1 ≤ z.s ∧ z.s ≤ 65 - nx ∧ 0 ≤ z.mn ∧ z.mn ≤ z.lo ∧ z.lo ≤ z.hi ∧ z.hi ≤ z.s ∧ (∀ x ∈ z.fr, z.f ≤ x ∧ x < z.f + z.s) ∧ ascI z.fr
def RtZ : Int → List Zo → Prop
  | _, [] => True
  | nx, z :: L => ZoOK z nx ∧ RtZ (nx + z.s) L
def sizeZ : List Zo → Int
  | [] => 0
  | z :: L => z.s + sizeZ L
/-- All free frames, in order. -/
def frees : List Zo → List Int
  | [] => []
  | z :: L => z.fr ++ frees L
theorem RtZ.size {nx : Int} : ∀ {L : List Zo}, RtZ nx L → 0 ≤ sizeZ L
  | [], _ => Int.le_refl _
  | z :: L, h => by
    have h1 := h.1.2.1
    have h2 := RtZ.size h.2
    show 0 ≤ z.s + sizeZ L
    omega
theorem RtZ.free {nx : Int} : ∀ {L : List Zo}, RtZ nx L → (∀ x ∈ frees L, nx ≤ x ∧ x < nx + sizeZ L) ∧ ascI (frees L)
  | [], _ => ⟨fun x hx => absurd hx (by simp [frees]), List.Pairwise.nil⟩
  | z :: L, h => by
    obtain ⟨⟨hf, hs, -, -, -, -, -, hr, ha⟩, h2⟩ := h
    obtain ⟨h3, h4⟩ := RtZ.free h2
    have h5 := RtZ.size h2
    refine ⟨fun x hx => ?_, ?_⟩
    · rcases List.mem_append.1 hx with hx | hx
      · have := hr x hx
        show nx ≤ x ∧ x < nx + (z.s + sizeZ L)
        omega
      · have := h3 x hx
        show nx ≤ x ∧ x < nx + (z.s + sizeZ L)
        omega
    · refine List.pairwise_append.2 ⟨ha, h4, fun a ha2 b hb => ?_⟩
      have h6 := hr a ha2
      have h7 := h3 b hb
      omega
/-- A zone of the list with other free frames. -/
theorem RtZ.set {nx : Int} : ∀ {L : List Zo} {i : Nat} {z : Zo} {fr : List Int}, RtZ nx L → L[i]? = some z → (∀ x ∈ fr, z.f ≤ x ∧ x < z.f + z.s) → ascI fr → RtZ nx (L.set i { z with fr := fr }) ∧ sizeZ (L.set i { z with fr := fr }) = sizeZ L
  | y :: L, 0, z, fr, h, hz, h1, h2 => by
    have : y = z := by simpa using hz
    subst this
    obtain ⟨⟨a1, a2, a3, a4, a5, a6, a7, -, -⟩, h3⟩ := h
    exact ⟨⟨⟨a1, a2, a3, a4, a5, a6, a7, h1, h2⟩, h3⟩, rfl⟩
  | y :: L, i + 1, z, fr, h, hz, h1, h2 => by
    obtain ⟨h3, h4⟩ := RtZ.set (L := L) (i := i) h.2 (by simpa using hz) h1 h2
    exact ⟨⟨h.1, h3⟩, by show y.s + _ = y.s + _; rw [h4]⟩
/-- What becomes of all free frames when a zone's first one is taken. -/
theorem frees_drop : ∀ {L : List Zo} {i : Nat} {z : Zo} {f : Int} {r : List Int}, L[i]? = some z → z.fr = f :: r → (frees L).Perm (f :: frees (L.set i { z with fr := r }))
  | y :: L, 0, z, f, r, hz, hr => by
    have : y = z := by simpa using hz
    subst this
    show (y.fr ++ frees L).Perm (f :: (r ++ frees L))
    rw [hr]
    exact List.Perm.refl _
  | y :: L, i + 1, z, f, r, hz, hr => by
    have ih := frees_drop (L := L) (i := i) (by simpa using hz) hr
    show (y.fr ++ frees L).Perm (f :: (y.fr ++ frees (L.set i { z with fr := r })))
    exact (List.Perm.append_left _ ih).trans List.perm_middle
/-- A frame comes back. -/
theorem frees_put {f : Int} : ∀ {L : List Zo} {i : Nat} {z : Zo} {r : List Int}, L[i]? = some z → r.Perm (f :: z.fr) → (frees (L.set i { z with fr := r })).Perm (f :: frees L)
  | y :: L, 0, z, r, hz, hr => by
    have : y = z := by simpa using hz
    subst this
    show (r ++ frees L).Perm (f :: (y.fr ++ frees L))
    exact List.Perm.append_right _ hr
  | y :: L, i + 1, z, r, hz, hr => by
    have ih := frees_put (f := f) (L := L) (i := i) (by simpa using hz) hr
    show (y.fr ++ frees (L.set i { z with fr := r })).Perm (f :: (y.fr ++ frees L))
    exact (List.Perm.append_left _ ih).trans List.perm_middle
/-- In ascending order, with f in its place. -/
def insI (f : Int) : List Int → List Int
  | [] => [f]
  | x :: L => if f < x then f :: x :: L else x :: insI f L
theorem insI_perm (f : Int) : ∀ L, (insI f L).Perm (f :: L)
  | [] => List.Perm.refl _
  | x :: L => by
    unfold insI
    split
    · exact List.Perm.refl _
    · exact (List.Perm.cons x (insI_perm f L)).trans (List.Perm.swap f x L)
theorem insI_asc {f : Int} : ∀ {L : List Int}, ascI L → ¬f ∈ L → ascI (insI f L)
  | [], _, _ => List.pairwise_singleton _ _
  | x :: L, h, hn => by
    obtain ⟨h1, h2⟩ := List.pairwise_cons.1 h
    have hx : ¬f = x := fun e => hn (by rw [e]; exact List.mem_cons_self)
    unfold insI
    split
    · rename_i hlt
      exact List.pairwise_cons.2 ⟨fun b hb => by
        rcases List.mem_cons.1 hb with rfl | hb
        · exact hlt
        · exact Int.lt_trans hlt (h1 b hb), h⟩
    · refine List.pairwise_cons.2 ⟨fun b hb => ?_, insI_asc h2 (fun hm => hn (List.mem_cons_of_mem _ hm))⟩
      rcases List.mem_cons.1 ((insI_perm f L).mem_iff.1 hb) with rfl | hb
      · omega
      · exact h1 b hb
/-- Which zone gives a frame: the first one from k - 1 on downwards that may. -/
def hasZ (u : Bool) (z : Zo) : Bool := decide (z.mn < (z.fr.length : Int)) || (u && decide (0 < z.fr.length))
def fromZ (u : Bool) (L : List Zo) : Nat → Option Nat
  | 0 => none
  | k + 1 => match L[k]? with
    | none => fromZ u L k
    | some z => if hasZ u z = true then some k else fromZ u L k
theorem fromZ_some {u : Bool} {L : List Zo} {i : Nat} : ∀ {k : Nat}, fromZ u L k = some i → i < k ∧ ∃ z, L[i]? = some z ∧ hasZ u z = true ∧ ∀ j, i < j → j < k → ∀ y, L[j]? = some y → hasZ u y = false
  | k + 1, h => by
    unfold fromZ at h
    cases hz : L[k]? with
    | none =>
      rw [hz] at h
      obtain ⟨h1, z, h2, h3, h4⟩ := fromZ_some h
      refine ⟨by omega, z, h2, h3, fun j h5 h6 y hy => ?_⟩
      by_cases e : j = k
      · rw [e, hz] at hy; cases hy
      · exact h4 j h5 (by omega) y hy
    | some z =>
      rw [hz] at h
      by_cases hh : hasZ u z = true
      · simp only [hh, if_true] at h
        injection h with h
        subst h
        exact ⟨by omega, z, hz, hh, fun j h5 h6 => by omega⟩
      · simp only [hh] at h
        obtain ⟨h1, z', h2, h3, h4⟩ := fromZ_some h
        refine ⟨by omega, z', h2, h3, fun j h5 h6 y hy => ?_⟩
        by_cases e : j = k
        · rw [e, hz] at hy
          injection hy with hy
          subst hy
          simpa using hh
        · exact h4 j h5 (by omega) y hy
theorem fromZ_none {u : Bool} {L : List Zo} : ∀ {k : Nat}, fromZ u L k = none → ∀ j, j < k → ∀ y, L[j]? = some y → hasZ u y = false
  | k + 1, h, j, hj, y, hy => by
    unfold fromZ at h
    by_cases e : j = k
    · subst e
      rw [hy] at h
      by_cases hh : hasZ u y = true
      · simp only [hh, if_true] at h; cases h
      · simpa using hh
    · cases hz : L[k]? with
      | none => rw [hz] at h; exact fromZ_none h j (by omega) y hy
      | some z =>
        rw [hz] at h
        by_cases hh : hasZ u z = true
        · simp only [hh, if_true] at h; cases h
        · simp only [hh] at h; exact fromZ_none h j (by omega) y hy
end Go.Mine
