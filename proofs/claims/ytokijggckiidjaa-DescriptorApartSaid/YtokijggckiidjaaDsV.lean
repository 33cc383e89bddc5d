/- What one process does changes nothing of another (layer 18), as plain mathematics: words of my own, no program is named here. -/
import Derived.Test.YtokijggckiidjaaDsL
namespace Go.Mine
open Go Go.RowKit
/-- Table 1 is as in d, and its descriptions but for how many have them. -/
structure AprD (d x : Dd) : Prop where
  ok : OkDd x
  tl : x.t.length = d.t.length
  t : x.t.getD 1 [] = d.t.getD 1 []
  o : ∀ i k : Nat, i < 16 → (d.t.getD 1 []).getD i 0 = (k : Int) + 1 → (x.o.getD k zDs).f = (d.o.getD k zDs).f ∧ (x.o.getD k zDs).g = (d.o.getD k zDs).g ∧ (x.o.getD k zDs).o = (d.o.getD k zDs).o ∧ (x.o.getD k zDs).c = (d.o.getD k zDs).c
theorem AprD.refl {d : Dd} (h : OkDd d) : AprD d d := ⟨h, rfl, rfl, fun _ _ _ _ => ⟨rfl, rfl, rfl, rfl⟩⟩
theorem AprD.pos {d x : Dd} (h : AprD d x) (h2 : 2 ≤ d.t.length) {i k : Nat} (hi : i < 16) (he : (d.t.getD 1 []).getD i 0 = (k : Int) + 1) : 0 < cntD x.t.flatten k := by
  have h1 : 1 < x.t.length := by rw [h.tl]; omega
  exact cntD_mem h1 (by rw [h.ok.t 1 h1]; exact hi) (by rw [h.t]; exact he)
theorem AprD.opn {d x : Dd} (h : AprD d x) (h2 : 2 ≤ d.t.length) {y : Ds} (hy : y.r = 1) : AprD d (opnD x 0 y).1 := by
  have hk := opnD_ok h.ok 0 hy
  by_cases e : (opnD x 0 y).2.2 = 0
  · obtain ⟨-, hr, pn, hpn, hp, hf, e2⟩ := opnD_get e
    obtain rfl : pn = 0 := by omega
    rw [e2] at hk ⊢
    refine ⟨hk.1, hk.2.trans h.tl, ?_, fun i k hi he => ?_⟩
    · show (setT x.t 0 _ _).getD 1 [] = _
      rw [setT_ne (by decide)]; exact h.t
    · have hpos := h.pos h2 hi he
      have hne : k ≠ atD x.o := fun q => by rw [q, atD_cnt h.ok] at hpos; omega
      show ((putD x.o (atD x.o) y).getD k zDs).f = _ ∧ ((putD x.o (atD x.o) y).getD k zDs).g = _ ∧ ((putD x.o (atD x.o) y).getD k zDs).o = _ ∧ ((putD x.o (atD x.o) y).getD k zDs).c = _
      rw [putD_ne y (atD_le x.o) hne]
      exact h.o i k hi he
  · have : (opnD x 0 y).1 = x := by
      have hk := okD_iff.2 h.ok
      unfold opnD at e ⊢
      rw [hk] at e ⊢
      cases h2 : inD 0 0 ((x.t.length : Int) - 1) && rtD y
      · rfl
      · rw [h2] at e
        cases h3 : decide (frD (x.t.getD (0 : Int).toNat []) < 16)
        · rfl
        · rw [h3] at e; exact absurd rfl e
    rw [this]; exact h
theorem AprD.dup {d x : Dd} (h : AprD d x) (q : Int) : AprD d (dupD x 0 q).1 := by
  have hk := dupD_ok h.ok 0 q
  by_cases e : (dupD x 0 q).2.2 = 0
  · obtain ⟨-, pn, qn, n, hpn, -, hp, hq, hen, hn, hf, e2⟩ := dupD_get e
    obtain rfl : pn = 0 := by omega
    rw [e2] at hk ⊢
    refine ⟨hk.1, hk.2.trans h.tl, ?_, fun i k hi he => ?_⟩
    · show (setT x.t 0 _ _).getD 1 [] = _
      rw [setT_ne (by decide)]; exact h.t
    · have h1 := h.o i k hi he
      show ((x.o.set n _).getD k zDs).f = _ ∧ ((x.o.set n _).getD k zDs).g = _ ∧ ((x.o.set n _).getD k zDs).o = _ ∧ ((x.o.set n _).getD k zDs).c = _
      by_cases e3 : k = n
      · subst e3; rw [setO_eq hn]; exact h1
      · rw [setO_ne e3]; exact h1
  · have : (dupD x 0 q).1 = x := by
      unfold dupD at e ⊢
      cases h2 : decide ((lkD x 0 q).2.2 = 0)
      · rfl
      · rw [h2] at e
        cases h3 : decide (frD (x.t.getD (0 : Int).toNat []) < 16)
        · rfl
        · rw [h3] at e; exact absurd rfl e
    rw [this]; exact h
theorem AprD.cls {d x : Dd} (h : AprD d x) (h2 : 2 ≤ d.t.length) (q : Int) : AprD d (clsD x 0 q).1 := by
  have hk := clsD_ok h.ok 0 q
  by_cases e : (clsD x 0 q).2.2 = 0
  · obtain ⟨-, pn, qn, n, hpn, -, hp, hq, hen, hn, e2⟩ := clsD_get e
    obtain rfl : pn = 0 := by omega
    rw [e2] at hk ⊢
    have ht1 : (clD x 0 qn n).1.t.getD 1 [] = d.t.getD 1 [] := by rw [clD_tab, setT_ne (by decide)]; exact h.t
    refine ⟨hk.1, hk.2.trans h.tl, ht1, fun i k hi he => ?_⟩
    have h1 := h.o i k hi he
    have htl : 1 < (clD x 0 qn n).1.t.length := by
      have e5 : (clD x 0 qn n).1.t.length = x.t.length := hk.2
      rw [e5, h.tl]; omega
    have hpos : 0 < cntD (clD x 0 qn n).1.t.flatten k := cntD_mem htl (by have := hk.1.t 1 htl; show i < ((clD x 0 qn n).1.t.getD 1 []).length; rw [this]; exact hi) (by rw [ht1]; exact he)
    rw [clD_tab] at hpos
    have hc := clD_cnt h.ok hp hq hen k
    have hrn := (h.ok.r n hn).1
    show ((clD x 0 qn n).1.o.getD k zDs).f = _ ∧ ((clD x 0 qn n).1.o.getD k zDs).g = _ ∧ ((clD x 0 qn n).1.o.getD k zDs).o = _ ∧ ((clD x 0 qn n).1.o.getD k zDs).c = _
    by_cases hg : 0 < (x.o.getD n zDs).r - 1
    · rw [clD_t hg]
      show ((x.o.set n _).getD k zDs).f = _ ∧ ((x.o.set n _).getD k zDs).g = _ ∧ ((x.o.set n _).getD k zDs).o = _ ∧ ((x.o.set n _).getD k zDs).c = _
      by_cases e3 : k = n
      · subst e3; rw [setO_eq hn]; exact h1
      · rw [setO_ne e3]; exact h1
    · have hne : k ≠ n := fun e3 => by
        subst e3
        rw [if_pos rfl] at hc
        omega
      have hkl : k < (clD x 0 qn n).1.o.length := by
        have h3 : (clD x 0 qn n).1.t.getD 1 [] = _ := ht1
        have h4 := (hk.1.n 1 htl i hi).2
        have h5 : ((clD x 0 qn n).1.t.getD 1 []).getD i 0 = (k : Int) + 1 := by rw [ht1]; exact he
        have h6 : ((clD x 0 qn n).1.t.getD 1 []).getD i 0 ≤ ((clD x 0 qn n).1.o.length : Int) := h4
        rw [h5] at h6
        omega
      rw [clD_f hg] at hkl ⊢
      have hkl2 : k < lsD (x.o.set n zDs) (x.o.set n zDs).length := by
        have : k < (trD (x.o.set n zDs)).length := hkl
        rwa [trD_len] at this
      show ((trD (x.o.set n zDs)).getD k zDs).f = _ ∧ ((trD (x.o.set n zDs)).getD k zDs).g = _ ∧ ((trD (x.o.set n zDs)).getD k zDs).o = _ ∧ ((trD (x.o.set n zDs)).getD k zDs).c = _
      rw [trD_at hkl2, setO_ne hne]
      exact h1
  · have : (clsD x 0 q).1 = x := by
      unfold clsD at e ⊢
      cases h2 : decide ((lkD x 0 q).2.2 = 0)
      · rfl
      · rw [h2] at e; exact absurd rfl e
    rw [this]; exact h
/-- What looking up in table 1 answers. -/
theorem AprD.lk {d x : Dd} (h : AprD d x) (hd : OkDd d) (h2 : 2 ≤ d.t.length) {i : Nat} (hi : i < 16) : (lkD x 1 i).1 = (lkD d 1 i).1 ∧ (lkD x 1 i).2.2 = (lkD d 1 i).2.2 ∧
    (lkD x 1 i).2.1.f = (lkD d 1 i).2.1.f ∧ (lkD x 1 i).2.1.g = (lkD d 1 i).2.1.g ∧ (lkD x 1 i).2.1.o = (lkD d 1 i).2.1.o ∧ (lkD x 1 i).2.1.c = (lkD d 1 i).2.1.c := by
  have ex : entD x 1 i = entD d 1 i := by
    show (x.t.getD 1 []).getD i 0 = (d.t.getD 1 []).getD i 0
    rw [h.t]
  have p1 : (0 : Int) ≤ 1 ∧ (1 : Int) ≤ (d.t.length : Int) - 1 := by omega
  have p2 : (0 : Int) ≤ 1 ∧ (1 : Int) ≤ (x.t.length : Int) - 1 := by rw [h.tl]; omega
  have q1 : (0 : Int) ≤ (i : Int) ∧ (i : Int) ≤ 15 := by omega
  by_cases he : entD d 1 i = 0
  · rw [lkD_4 (okD_iff.2 h.ok) p2 (fun hh => hh.2 (by rw [ex]; exact he)), lkD_4 (okD_iff.2 hd) p1 (fun hh => hh.2 he)]
    exact ⟨rfl, rfl, rfl, rfl, rfl, rfl⟩
  · rw [lkD_0 (okD_iff.2 h.ok) p2 q1 (by rw [ex]; exact he), lkD_0 (okD_iff.2 hd) p1 q1 he, ex]
    have hr := hd.n 1 (by omega) i hi
    have he' : entD d 1 i = (d.t.getD 1 []).getD i 0 := rfl
    obtain ⟨k, hk⟩ : ∃ k : Nat, entD d 1 i = (k : Int) + 1 := ⟨(entD d 1 i - 1).toNat, by omega⟩
    rw [hk, show (k : Int) + 1 - 1 = (k : Int) by omega, Int.toNat_natCast]
    obtain ⟨a, b, c, e⟩ := h.o i k hi (by rw [← he']; exact hk)
    exact ⟨rfl, rfl, a, b, c, e⟩
end Go.Mine
