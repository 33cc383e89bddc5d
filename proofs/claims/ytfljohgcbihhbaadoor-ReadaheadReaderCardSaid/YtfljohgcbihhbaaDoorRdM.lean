/- A sequential reader and its windows (layer 7): what is kept from access tt access. -/
import Derived.Test.YtfljohgcbihhbaaDoorRa6
import Derived.Test.YtfljohgcbihhbaaDoorStU
namespace Go.Proofs.YtfljohgcbihhbaaDoor
open Go.RowKit Go.Mine

def addF (f : Int → Bool) (S : Int) (m : Nat) : Int → Bool := fun y => f y || decide (S ≤ y ∧ y < S + (m : Int))
theorem addF_zero (f : Int → Bool) (S : Int) : addF f S 0 = f := by
  funext y
  unfold addF
  rw [decide_eq_false (by omega), Bool.or_false]
theorem addF_succ (f : Int → Bool) (S : Int) (m : Nat) (y : Int) : (addF f S m y || decide (y = S + (m : Int))) = addF f S (m + 1) y := by
  unfold addF
  rw [Bool.or_assoc]
  congr 1
  rw [← Bool.decide_or]
  exact decide_eq_decide.2 (by omega)
/-- The window of a reader that is sure, and what has been read ahead. -/
def RdW (en cn p : Int) (x : Wn) (f : Int → Bool) : Prop :=
  cn + 1 ≤ x.n ∧ x.n ≤ 8 ∧ 0 ≤ x.s ∧ x.y = x.n ∧ x.s - x.n < p ∧ (p ≤ x.s ∨ en ≤ x.s + x.n) ∧ (p + cn ≤ x.s + x.n ∨ en ≤ x.s + x.n) ∧ ∃ h0, h0 ≤ p ∧ ∀ y, f y = decide (h0 ≤ y ∧ y < x.s + x.n ∧ y < en)
def RdS (en cn p : Int) (z : Str) (x : Wn) (sb : Bool) (f : Int → Bool) : Prop :=
  RgtP z ∧ (z.k = 1 ∨ z.k = 2) ∧ z.b = p ∧ z.t ≤ p ∧ z.h ≤ p ∧ sb = sureB z ∧ (sb = false → x = zW ∧ ∀ y, f y = false) ∧ (sb = true → p < en → RdW en cn p x f)
def RdSt (en cn p : Int) (L : List Str) (x : Wn) (sb : Bool) (f : Int → Bool) : Prop :=
  0 ≤ p ∧ WokP x ∧ ((L = [] ∧ sb = false ∧ x = zW ∧ ∀ y, f y = false) ∨ ∃ z, L = [z] ∧ RdS en cn p z x sb f)
theorem sure_is {z : Str} (h : RgtP z) : sureB z = decide (2 ≤ z.h) := by
  unfold sureB
  rw [show rgtB z = true from decide_eq_true h, Bool.true_and]
theorem feed_none {a b : Int} (ha : AccP a b) : errF (ofL []) 0 a b = 0 ∧ fdI (ofL []) 0 a b = 0 ∧ fdL (ofL []) 0 a b = [⟨1, a, b, 0, 0, 1⟩] := by
  have h1 : accB a b = true := decide_eq_true ha
  have he : errF (ofL []) 0 a b = 0 := by
    unfold errF
    rw [show chkB (ofL []) 0 = true from rfl, h1]
    rfl
  refine ⟨he, ?_, ?_⟩
  · rw [fdI, if_pos he]; rfl
  · rw [fdL, if_pos he]; rfl
theorem feed_one {z : Str} {b : Int} (hz : RgtP z) (hk : z.k = 1 ∨ z.k = 2) (ht : z.t < 1000000) (hb : AccP z.b b) :
    errF (ofL [z]) 1 z.b b = 0 ∧ fdI (ofL [z]) 1 z.b b = 0 ∧ fdL (ofL [z]) 1 z.b b = [⟨2, z.b, b, 0, minH z.h, z.t + 1⟩] := by
  have h0 : rgtB z = true := decide_eq_true hz
  have h1 : accB z.b b = true := decide_eq_true hb
  have h2 : fwdB z z.b b = true := decide_eq_true ⟨hk, .inl rfl, hb.2.1⟩
  have hm : mtcB z z.b b = true := by unfold mtcB; rw [h0, h1, h2]; rfl
  have hbec : becF z z.b b = grwF z 2 0 z.b b := by unfold becF; rw [h0, h1, h2]; rfl
  have hl : lastN (ofL [z]) 1 = z.t := by
    show (if (0 : Int) < z.t then z.t else 0) = z.t
    have := hz.2.2.2.1
    split <;> omega
  have hc : chkB (ofL [z]) 1 = true := (chk_one z).trans h0
  have he : errF (ofL [z]) 1 z.b b = 0 := by
    unfold errF
    rw [hc, h1, hl, if_neg (by omega)]
  have hbo : bestO (ofL [z]) z.b b 1 = some 0 := by
    show (match mtcB z z.b b with | false => bestO (ofL [z]) z.b b 0 | true => match bestO (ofL [z]) z.b b 0 with | none => some 0 | some j => if 0 < clmI (ofL [z] 0) (ofL [z] j) then some 0 else some j) = some 0
    rw [hm]
    rfl
  have hs : slotO (ofL [z]) 1 z.b b = some 0 := by unfold slotO; rw [hbo]
  refine ⟨he, ?_, ?_⟩
  · rw [fdI, if_pos he, hs]; rfl
  · rw [fdL, if_pos he, hs]
    show (lsF (ofL [z]) 1).set 0 (newS (ofL [z]) 1 z.b b) = _
    have hn : newS (ofL [z]) 1 z.b b = ⟨2, z.b, b, 0, minH z.h, z.t + 1⟩ := by
      have hp : preS (ofL [z]) 1 z.b b = becF z z.b b := by unfold preS; rw [hbo]; rfl
      unfold newS
      rw [hp, hl, hbec]
      rfl
    rw [hn]
    rfl
/-- The stream behind an access of the reader. -/
theorem rd_feed {en cn p tt : Int} {L : List Str} {x : Wn} {sb : Bool} {f : Int → Bool} (h : RdSt en cn p L x sb f) (h1 : p < tt) (h2 : tt ≤ 63) :
    errF (ofL L) L.length p tt = 0 ∧ fdI (ofL L) L.length p tt = 0 ∧ ∃ z, fdL (ofL L) L.length p tt = [z] ∧ RgtP z ∧ (z.k = 1 ∨ z.k = 2) ∧ z.b = tt ∧ z.t ≤ tt ∧ z.h ≤ tt ∧ (sb = true → sureB z = true) := by
  obtain ⟨p0, -, h⟩ := h
  have ha : AccP p tt := ⟨p0, h1, by omega⟩
  rcases h with ⟨rfl, hs, -⟩ | ⟨z, rfl, hz, hk, hb, ht, hh, hs, -⟩
  · obtain ⟨e1, e2, e3⟩ := feed_none ha
    refine ⟨e1, e2, _, e3, ⟨ha, by simp, by simp, by simp, by simp, by simp, .inl ⟨.inl rfl, rfl⟩⟩, .inl rfl, rfl, by show 1 ≤ tt; omega, by show 0 ≤ tt; omega, fun k => ?_⟩
    rw [hs] at k; exact absurd k (by simp)
  · subst hb
    obtain ⟨e1, e2, e3⟩ := feed_one hz hk (by omega) ha
    have m := min_h hz.2.1
    have mm : minH z.h ≤ z.h + 1 := by unfold minH; omega
    have hz' : RgtP ⟨2, z.b, tt, 0, minH z.h, z.t + 1⟩ := grw_rgt hz ha (.inl ⟨rfl, rfl⟩) _ (by have := hz.2.2.2.1; omega) (by omega)
    refine ⟨e1, e2, _, e3, hz', .inr rfl, rfl, by show z.t + 1 ≤ tt; omega, by show minH z.h ≤ tt; omega, fun k => ?_⟩
    rw [hs, sure_is hz] at k
    rw [sure_is hz']
    have := of_decide_eq_true k
    exact decide_eq_true (by show 2 ≤ minH z.h; unfold minH; omega)
theorem ask_zW {a b : Int} (h : AccP a b) : askB zW a b = false := decide_eq_false (by
  unfold AccP at h
  rintro (⟨h1, -⟩ | ⟨h1, -⟩)
  · exact h1 rfl
  · have : a ≤ 0 + 0 - 1 := h1
    omega)
theorem near_zW {a b : Int} : nearB zW a b = false := decide_eq_false (by rintro ⟨h1, -⟩; have : (0 : Int) < 0 := h1; omega)
theorem frm_run (e s n : Int) : kpL e (pgsL (frmW s n)) = runL s (min n.toNat (e - s).toNat) := kpL_run e s n.toNat
theorem fir_ge {n : Int} (h : n ≤ 3) : n + 1 ≤ firF n := by unfold firF; split <;> (try split) <;> omega
theorem gro_ge {n : Int} (h : n ≤ 8) : n ≤ groF n := by unfold groF; split <;> (try split) <;> omega
/-- The window behind an access of the reader, and the pages that are read ahead. -/
theorem rd_plan {en cn p tt : Int} {L : List Str} {x : Wn} {sb : Bool} {f : Int → Bool} {z : Str} (h : RdSt en cn p L x sb f) (hp : p < en) (c0 : 1 ≤ cn) (c1 : cn ≤ 3) (e1 : en ≤ 63) (hto : tt = min (p + cn) en)
    (hz : RgtP z) (hk : z.k = 1 ∨ z.k = 2) (hb : z.b = tt) (ht : z.t ≤ tt) (hh : z.h ≤ tt) (hs : sb = true → sureB z = true) :
    plE x z p tt en = 0 ∧ (sb = true → ∀ y, p ≤ y → y < tt → f y = true) ∧ ∃ (S : Int) (m : Nat), plL x z p tt en = runL S m ∧ m ≤ 8 ∧ tt ≤ S ∧ (0 < m → S + (m : Int) ≤ en) ∧ (∀ j : Nat, j < m → f (S + (j : Int)) = false) ∧
      RdSt en cn tt [z] (plW x z p tt en) (sureB z) (addF f S m) := by
  obtain ⟨p0, hw, h⟩ := h
  have hac : AccP p tt := ⟨p0, by omega, by omega⟩
  have hE : plE x z p tt en = 0 := plE_3 (decide_eq_true hw) (decide_eq_true hz) ⟨hac, by omega, by omega⟩
  refine ⟨hE, ?_, ?_⟩
  · intro hsb y y0 y1
    rcases h with ⟨-, h, -⟩ | ⟨z0, -, -, -, -, -, -, -, -, h⟩
    · rw [h] at hsb; exact absurd hsb (by simp)
    · obtain ⟨w1, w2, w3, w4, w5, w6, w7, h0, w8, w9⟩ := h hsb hp
      rw [w9]
      exact decide_eq_true (by omega)
  · cases hsz : sureB z
    · have hsb : sb = false := by
        cases hsb : sb
        · rfl
        · rw [hs hsb] at hsz; exact absurd hsz (by simp)
      have hx : x = zW ∧ ∀ y, f y = false := by
        rcases h with ⟨-, -, h1, h2⟩ | ⟨z0, -, -, -, -, -, -, -, h, -⟩
        · exact ⟨h1, h2⟩
        · exact h hsb
      have hL : plL x z p tt en = [] := by rw [plL, if_neg (by rw [hsz]; simp)]
      have hW : plW x z p tt en = zW := by rw [plW, if_neg (by rw [hsz]; simp)]
      refine ⟨tt, 0, hL, by omega, by omega, fun k => absurd k (by omega), fun j k => absurd k (by omega), by omega, ?_, .inr ⟨z, rfl, hz, hk, hb, ht, hh, hsz.symm, fun _ => ⟨hW, ?_⟩, fun k => absurd k (by simp)⟩⟩
      · rw [hW]; exact .inl ⟨rfl, rfl, rfl⟩
      · rw [addF_zero]; exact hx.2
    · have hk2 : z.k = 2 := by
        have h1 := hz.2.2.2.2.2.1
        rw [sure_is hz] at hsz
        have := of_decide_eq_true hsz
        omega
      have hL : plL x z p tt en = pl2L x p tt en := by rw [plL, if_pos ⟨hE, hsz⟩, if_pos hk2]
      have hW : plW x z p tt en = pl2W x p tt en := by rw [plW, if_pos ⟨hE, hsz, hk2⟩]
      rw [hL, hW]
      have fin : ∀ (x' : Wn) (g : Int → Bool), WokP x' → (tt < en → RdW en cn tt x' g) → RdSt en cn tt [z] x' true g := fun x' g k1 k2 =>
        ⟨by omega, k1, .inr ⟨z, rfl, hz, hk, hb, ht, hh, hsz.symm, fun k => absurd k (by simp), fun _ k => k2 k⟩⟩
      cases hsb : sb
      · have hx : x = zW ∧ ∀ y, f y = false := by
          rcases h with ⟨-, -, h1, h2⟩ | ⟨z0, -, -, -, -, -, -, -, h, -⟩
          · exact ⟨h1, h2⟩
          · exact h hsb
        obtain ⟨rfl, hf⟩ := hx
        have hN : nxW zW p tt = frmW tt (firF (tt - p)) := by unfold nxW; rw [ask_zW hac, near_zW]
        have hNB : nxB zW p tt = true := by unfold nxB; rw [ask_zW hac, near_zW]; rfl
        have hB : newB zW p tt en = decide (tt < en) := by unfold newB; rw [hNB, hN, Bool.true_and]; rfl
        by_cases hte : tt < en
        · have hc : tt - p = cn := by omega
          rw [decide_eq_true hte] at hB
          rw [hc] at hN
          have hL2 : pl2L zW p tt en = runL tt (min (firF cn).toNat (en - tt).toNat) := by unfold pl2L; rw [hB, hN]; exact frm_run ..
          have hW2 : pl2W zW p tt en = frmW tt (firF cn) := by unfold pl2W; rw [hB, hN]
          have f0 := fir_pos cn
          have f1 := fir_ge c1
          rw [hL2, hW2]
          refine ⟨tt, _, rfl, by omega, by omega, fun _ => by omega, fun j _ => hf _, fin _ _ (.inr ⟨by show 0 ≤ tt; omega, by show tt ≤ 255; omega, by show 1 ≤ firF cn; omega, f0.2, by show 0 ≤ firF cn; omega, Int.le_refl _⟩) fun _ => ?_⟩
          refine ⟨f1, f0.2, by show 0 ≤ tt; omega, rfl, by show tt - firF cn < tt; omega, .inl (Int.le_refl _), .inl (by show tt + cn ≤ tt + firF cn; omega), tt, Int.le_refl _, fun y => ?_⟩
          unfold addF
          rw [hf, Bool.false_or]
          exact decide_eq_decide.2 (by show _ ↔ tt ≤ y ∧ y < tt + firF cn ∧ y < en; omega)
        · rw [decide_eq_false hte] at hB
          have hL2 : pl2L zW p tt en = [] := by unfold pl2L; rw [hB]
          have hW2 : pl2W zW p tt en = zW := by unfold pl2W; rw [hB]
          rw [hL2, hW2]
          exact ⟨tt, 0, rfl, by omega, by omega, fun k => absurd k (by omega), fun j k => absurd k (by omega), fin _ _ hw fun k => absurd k hte⟩
      · obtain ⟨w1, w2, w3, w4, w5, w6, w7, h0, w8, w9⟩ : RdW en cn p x f := by
          rcases h with ⟨-, h, -⟩ | ⟨z0, -, -, -, -, -, -, -, -, h⟩
          · rw [h] at hsb; exact absurd hsb (by simp)
          · exact h hsb hp
        cases ha : askB x p tt
        · have hnp : ¬AskP x p tt := of_decide_eq_false ha
          unfold AskP at hnp
          have hne : nearB x p tt = true := decide_eq_true (by unfold NearP; omega)
          have hB : newB x p tt en = false := by unfold newB nxB; rw [ha, hne]; rfl
          have hL2 : pl2L x p tt en = [] := by unfold pl2L; rw [hB]
          have hW2 : pl2W x p tt en = x := by unfold pl2W; rw [hB]
          rw [hL2, hW2]
          refine ⟨tt, 0, rfl, by omega, by omega, fun k => absurd k (by omega), fun j k => absurd k (by omega), fin _ _ hw fun k => ?_⟩
          rw [addF_zero]
          exact ⟨w1, w2, w3, w4, by omega, by omega, by omega, h0, by omega, w9⟩
        · have hap : AskP x p tt := of_decide_eq_true ha
          unfold AskP at hap
          have hN : nxW x p tt = frmW (x.s + x.n) (groF x.n) := by
            unfold nxW
            rw [ha]
            show frmW (max (x.s + x.n) tt) (groF x.n) = _
            rw [show max (x.s + x.n) tt = x.s + x.n from by omega]
          have hNB : nxB x p tt = true := by unfold nxB; rw [ha]; rfl
          have hB : newB x p tt en = decide (x.s + x.n < en) := by unfold newB; rw [hNB, hN, Bool.true_and]; rfl
          by_cases hte : x.s + x.n < en
          · rw [decide_eq_true hte] at hB
            have hL2 : pl2L x p tt en = runL (x.s + x.n) (min (groF x.n).toNat (en - (x.s + x.n)).toNat) := by unfold pl2L; rw [hB, hN]; exact frm_run ..
            have hW2 : pl2W x p tt en = frmW (x.s + x.n) (groF x.n) := by unfold pl2W; rw [hB, hN]
            have f0 := gro_pos x.n
            have f1 := gro_ge w2
            rw [hL2, hW2]
            generalize groF x.n = G at *
            refine ⟨x.s + x.n, _, rfl, by omega, by omega, fun _ => by omega, fun j _ => by rw [w9]; exact decide_eq_false (by omega), fin _ _ (.inr ⟨by show 0 ≤ x.s + x.n; omega, by show x.s + x.n ≤ 255; omega, by show 1 ≤ G; omega, f0.2, by show 0 ≤ G; omega, Int.le_refl _⟩) fun _ => ?_⟩
            refine ⟨by show cn + 1 ≤ G; omega, f0.2, by show 0 ≤ x.s + x.n; omega, rfl, by show x.s + x.n - G < tt; omega, .inl (by show tt ≤ x.s + x.n; omega), .inl (by show tt + cn ≤ x.s + x.n + G; omega), h0, by omega, fun y => ?_⟩
            unfold addF
            rw [w9, ← Bool.decide_or]
            exact decide_eq_decide.2 (by show _ ↔ h0 ≤ y ∧ y < x.s + x.n + G ∧ y < en; omega)
          · rw [decide_eq_false hte] at hB
            have hL2 : pl2L x p tt en = [] := by unfold pl2L; rw [hB]
            have hW2 : pl2W x p tt en = x := by unfold pl2W; rw [hB]
            rw [hL2, hW2]
            refine ⟨tt, 0, rfl, by omega, by omega, fun k => absurd k (by omega), fun j k => absurd k (by omega), fin _ _ hw fun k => ?_⟩
            rw [addF_zero]
            exact ⟨w1, w2, w3, w4, by omega, by omega, by omega, h0, by omega, w9⟩
theorem rd_milds {en cn p : Int} {L : List Str} {x : Wn} {sb : Bool} {f : Int → Bool} (h : RdSt en cn p L x sb f) : Milds L ∧ L.length ≤ 1000000 := by
  obtain ⟨-, -, ⟨rfl, -⟩ | ⟨z, rfl, hz, -⟩⟩ := h
  · exact ⟨milds0, by simp⟩
  · exact ⟨milds1 (rgt_mild hz), by simp⟩
end Go.Proofs.YtfljohgcbihhbaaDoor
