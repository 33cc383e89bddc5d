/- Undoing (layer 18), as plain mathematics: words of my own, no program is named here. -/
import Derived.Test.YtokijggckiidjaaDsL
namespace Go.Mine
open Go Go.RowKit
theorem setT_back {T : List (List Int)} {p i : Nat} {v : Int} (hp : p < T.length) (hi : i < (T.getD p []).length) : setT (setT T p i v) p i ((T.getD p []).getD i 0) = T := by
  unfold setT
  have e1 : (T.set p ((T.getD p []).set i v)).getD p [] = (T.getD p []).set i v := by simp [List.getD, hp]
  rw [e1, List.set_set, List.set_set, set_same hi]
  refine List.ext_getElem (by simp) fun k h1 h2 => ?_
  rw [List.getElem_set]
  by_cases e : p = k
  · subst e; rw [if_pos rfl]; exact getD_get hp
  · rw [if_neg e]
theorem set_sameO {L : List Ds} {i : Nat} {x : Ds} (hi : i < L.length) (hx : L.getD i zDs = x) : L.set i x = L := by
  refine List.ext_getElem (by simp) fun k h1 h2 => ?_
  rw [List.getElem_set]
  by_cases e : i = k
  · subst e; rw [if_pos rfl, ← hx]; exact getD_get hi
  · rw [if_neg e]
theorem lsD_congr {o o' : List Ds} : ∀ n, (∀ j, j < n → o.getD j zDs = o'.getD j zDs) → lsD o n = lsD o' n
  | 0, _ => rfl
  | n + 1, h => by
    have h1 := h n (Nat.lt_succ_self n)
    have h2 := lsD_congr n (fun j hj => h j (by omega))
    by_cases e : (o.getD n zDs).r = 0
    · rw [lsD_z e, lsD_z (by rw [← h1]; exact e), h2]
    · rw [lsD_n e, lsD_n (by rw [← h1]; exact e)]
theorem lsD_ok {d : Dd} (h : OkDd d) : lsD d.o d.o.length = d.o.length := by
  rcases h.last with h0 | h0
  · rw [h0]; rfl
  · by_cases hz : d.o.length = 0
    · rw [hz]; rfl
    · obtain ⟨n, hn⟩ : ∃ n, d.o.length = n + 1 := ⟨d.o.length - 1, by omega⟩
      rw [hn] at h0 ⊢
      have := (h.r n (by omega)).1
      exact lsD_n (by rw [Nat.add_sub_cancel] at h0; omega)
theorem trD_ok {d : Dd} (h : OkDd d) : trD d.o = d.o := by unfold trD; rw [lsD_ok h, List.take_length]
theorem trD_snoc {d : Dd} (h : OkDd d) : trD (d.o ++ [zDs]) = d.o := by
  unfold trD
  have e1 : (d.o ++ [zDs]).length = d.o.length + 1 := by simp
  have e2 : ((d.o ++ [zDs]).getD d.o.length zDs).r = 0 := by simp [List.getD]
  rw [e1, lsD_z e2, lsD_congr (o' := d.o) d.o.length (fun j hj => by simp only [List.getD]; rw [List.getElem?_append_left hj]), lsD_ok h]
  simp
/-- Opening and closing. -/
theorem und1 {d : Dd} (h : OkDd d) {p : Int} {x : Ds} (hx : x.r = 1) (he : (opnD d p x).2.2 = 0) : clsD (opnD d p x).1 p (opnD d p x).2.1 = (d, true, 0) := by
  obtain ⟨-, hr, pn, rfl, hp, hf, e⟩ := opnD_get he
  rw [e]
  have ok := opD_ok h hp hf (rtD_iff.1 hr) hx
  obtain ⟨hfl, hf0⟩ := frD_row h hp hf
  have hle := atD_le d.o
  have htl : (opD d pn x).t.length = d.t.length := setT_len _ _ _ _
  have hent : ((opD d pn x).t.getD pn []).getD (frD (d.t.getD pn [])) 0 = (atD d.o : Int) + 1 := by
    show ((setT d.t pn _ _).getD pn []).getD _ 0 = _
    rw [setT_eq hp, setD_eq hfl]
  have hl : lkD (opD d pn x) pn (frD (d.t.getD pn []) : Int) = ((atD d.o : Int), x, 0) := by
    have h1 : entD (opD d pn x) pn (frD (d.t.getD pn []) : Int) = (atD d.o : Int) + 1 := hent
    rw [lkD_0 (okD_iff.2 ok) (by rw [htl]; omega) (by omega) (by rw [h1]; omega), h1, show (atD d.o : Int) + 1 - 1 = (atD d.o : Int) by omega, Int.toNat_natCast]
    show (_, (putD d.o (atD d.o) x).getD _ zDs, _) = _
    rw [putD_eq x hle]
  show clsD (opD d pn x) pn (frD (d.t.getD pn []) : Int) = _
  have hrx : ((opD d pn x).o.getD (atD d.o) zDs).r = 1 := by
    show ((putD d.o (atD d.o) x).getD _ zDs).r = _
    rw [putD_eq x hle, hx]
  rw [clsD_0 (p := pn) (q := frD (d.t.getD pn [])) (k := atD d.o) (by rw [hl]) (by rw [hl]), clD_f (by rw [hrx]; decide)]
  have e1 : setT (opD d pn x).t pn (frD (d.t.getD pn [])) 0 = d.t := by
    have := setT_back (T := d.t) (v := (atD d.o : Int) + 1) hp hfl
    rw [hf0] at this
    exact this
  have e2 : trD ((opD d pn x).o.set (atD d.o) zDs) = d.o := by
    show trD ((putD d.o (atD d.o) x).set (atD d.o) zDs) = d.o
    by_cases hlt : atD d.o < d.o.length
    · have hz : d.o.getD (atD d.o) zDs = zDs := (h.r _ hlt).2.1 (by have := (h.r _ hlt).1; rw [atD_get hlt] at this; omega)
      rw [putD_lt x hlt, List.set_set, set_sameO hlt hz, trD_ok h]
    · have hE : atD d.o = d.o.length := by omega
      rw [putD_ge x hlt, hE, List.set_append_right _ _ (Nat.le_refl _), Nat.sub_self, List.set_cons_zero, trD_snoc h]
  rw [e1, e2]
/-- Duplicating and closing. -/
theorem und2 {d : Dd} (h : OkDd d) {p q : Int} (he : (dupD d p q).2.2 = 0) : clsD (dupD d p q).1 p (dupD d p q).2.1 = (d, false, 0) := by
  obtain ⟨-, pn, qn, k, rfl, rfl, hp, hq, hen, hk, hf, e⟩ := dupD_get he
  rw [e]
  have ok := duD_ok h hp hf hq hk hen
  obtain ⟨hfl, hf0⟩ := frD_row h hp hf
  have htl : (duD d pn k).t.length = d.t.length := setT_len _ _ _ _
  have hpos : 0 < cntD d.t.flatten k := cntD_mem hp (by rw [h.t pn hp]; exact hq) hen
  have hrk := (h.r k hk).1
  have hent : ((duD d pn k).t.getD pn []).getD (frD (d.t.getD pn [])) 0 = (k : Int) + 1 := by
    show ((setT d.t pn _ _).getD pn []).getD _ 0 = _
    rw [setT_eq hp, setD_eq hfl]
  have hgo : (duD d pn k).o.getD k zDs = { d.o.getD k zDs with r := (d.o.getD k zDs).r + 1 } := setO_eq hk
  have hl : lkD (duD d pn k) pn (frD (d.t.getD pn []) : Int) = ((k : Int), (duD d pn k).o.getD k zDs, 0) := by
    have h1 : entD (duD d pn k) pn (frD (d.t.getD pn []) : Int) = (k : Int) + 1 := hent
    rw [lkD_0 (okD_iff.2 ok) (by rw [htl]; omega) (by omega) (by rw [h1]; omega), h1, show (k : Int) + 1 - 1 = (k : Int) by omega, Int.toNat_natCast]
  show clsD (duD d pn k) pn (frD (d.t.getD pn []) : Int) = _
  have hr1 : ((duD d pn k).o.getD k zDs).r - 1 = (d.o.getD k zDs).r := by rw [hgo]; show (d.o.getD k zDs).r + 1 - 1 = _; omega
  rw [clsD_0 (p := pn) (q := frD (d.t.getD pn [])) (k := k) (by rw [hl]) (by rw [hl]), clD_t (by rw [hr1]; omega)]
  have e1 : setT (duD d pn k).t pn (frD (d.t.getD pn [])) 0 = d.t := by
    have := setT_back (T := d.t) (v := (k : Int) + 1) hp hfl
    rw [hf0] at this
    exact this
  have e2 : (duD d pn k).o.set k { (duD d pn k).o.getD k zDs with r := ((duD d pn k).o.getD k zDs).r - 1 } = d.o := by
    rw [hr1, hgo]
    show (d.o.set k _).set k _ = d.o
    rw [List.set_set]
    exact set_sameO hk rfl
  rw [e1, e2]
end Go.Mine
