/- Readers that take turns (layer 6): what becomes of the list. -/
import Derived.Test.YthdcmknenjallaaStT
import Derived.Test.YthdcmknenjallaaStW
namespace Go.Proofs.Ythdcmknenjallaa
open Go.RowKit Go.Mine

/-- A reader's kind, how far it goes, its stream's step. -/
def DlP (k d s : Int) : Prop := (k = 0 ∧ d = 1 ∧ s = 0) ∨ (k = 1 ∧ d = -1 ∧ s = 0) ∨ (k = 2 ∧ d = 3 ∧ s = 3)
def dlF (k : Int) : Int := if k = 0 then 1 else if k = 1 then -1 else 3
def spF (k : Int) : Int := if k = 2 then 3 else 0
theorem dl_ok {k : Int} (h0 : 0 ≤ k) (h1 : k ≤ 2) : DlP k (dlF k) (spF k) := by
  unfold DlP dlF spF
  have hc : k = 0 ∨ k = 1 ∨ k = 2 := by omega
  rcases hc with rfl | rfl | rfl <;> simp
/-- The stream of a reader of kind k that has made c accesses, and is at p now. -/
def RdS (x : Str) (k p c : Int) : Prop := x.a = p - dlF k ∧ x.b = p - dlF k + 1 ∧ ((c = 1 ∧ x.k = 1 ∧ x.d = 0 ∧ x.h = 0) ∨ (2 ≤ c ∧ x.k = k + 2 ∧ x.d = spF k ∧ x.h = c - 1))
theorem mt_far {x : Str} {q : Int} (h : x.b = x.a + 1) (hf : q + 12 < x.a ∨ x.a + 12 < q) : mtcB x q (q + 1) = false := by
  have f1 : fwdB x q (q + 1) = false := decide_eq_false (by omega)
  have f2 : bwdB x q (q + 1) = false := decide_eq_false (by omega)
  have f3 : sdB x q (q + 1) = false := decide_eq_false (by unfold StpP; omega)
  have f4 : agnB x q (q + 1) = false := decide_eq_false (by omega)
  simp [mtcB, f1, f2, f3, f4]
theorem mt_own {x : Str} {k p c : Int} (hr : RgtP x) (h : RdS x k p c) (k0 : 0 ≤ k) (k1 : k ≤ 2) (c0 : 1 ≤ c) (c1 : c ≤ 6) (p0 : 0 ≤ p) (p1 : p ≤ 250) :
    mtcB x p (p + 1) = true ∧ becF x p (p + 1) = ⟨k + 2, p, p + 1, spF k, c, x.t⟩ := by
  obtain ⟨ha, hb, h⟩ := h
  have hd := dl_ok k0 k1
  have r : rgtB x = true := decide_eq_true hr
  have hA : accB p (p + 1) = true := decide_eq_true ⟨by omega, by omega, by omega⟩
  have hh : minH x.h = c := by unfold minH; omega
  generalize dlF k = d at *
  generalize spF k = s at *
  rcases hd with ⟨rfl, rfl, rfl⟩ | ⟨rfl, rfl, rfl⟩ | ⟨rfl, rfl, rfl⟩
  · have f1 : fwdB x p (p + 1) = true := decide_eq_true (by omega)
    refine ⟨by simp [mtcB, r, hA, f1], ?_⟩
    rw [show becF x p (p + 1) = grwF x 2 0 p (p + 1) from by simp [becF, r, hA, f1], grwF, hh]; rfl
  · have f1 : fwdB x p (p + 1) = false := decide_eq_false (by omega)
    have f2 : bwdB x p (p + 1) = true := decide_eq_true (by omega)
    refine ⟨by simp [mtcB, r, hA, f1, f2], ?_⟩
    rw [show becF x p (p + 1) = grwF x 3 0 p (p + 1) from by simp [becF, r, hA, f1, f2], grwF, hh]; rfl
  · have f1 : fwdB x p (p + 1) = false := decide_eq_false (by omega)
    have f2 : bwdB x p (p + 1) = false := decide_eq_false (by omega)
    have f3 : sdB x p (p + 1) = true := decide_eq_true (by unfold StpP; omega)
    refine ⟨by simp [mtcB, r, hA, f1, f2, f3], ?_⟩
    rw [show becF x p (p + 1) = grwF x 4 (p - x.a) p (p + 1) from by simp [becF, r, hA, f1, f2, f3], grwF, hh, show p - x.a = 3 from by omega]; rfl
theorem best_one {f : Nat → Str} {a b : Int} {j n : Nat} (hj : j < n) (hm : mtcB (f j) a b = true) (ho : ∀ i, i < n → ¬i = j → mtcB (f i) a b = false) : bestO f a b n = some j := by
  induction n with
  | zero => exact absurd hj (Nat.not_lt_zero j)
  | succ n ih =>
    by_cases e : j = n
    · subst e
      have h0 : ∀ m, m ≤ j → bestO f a b m = none := by
        intro m
        induction m with
        | zero => intro _; rfl
        | succ m ihm => intro hmj; rw [bestO, ho m (by omega) (by omega)]; exact ihm (by omega)
      rw [bestO, hm, h0 j (Nat.le_refl _)]
    · rw [bestO, ho n (by omega) (fun h => e h.symm)]
      exact ih (by omega) (fun i hi hij => ho i (by omega) hij)
theorem best_no {f : Nat → Str} {a b : Int} : ∀ n, (∀ i, i < n → mtcB (f i) a b = false) → bestO f a b n = none
  | 0, _ => rfl
  | n + 1, h => by rw [bestO, h n (by omega)]; exact best_no n (fun i hi => h i (by omega))
theorem last_at_most {f : Nat → Str} {m : Int} : ∀ n, 0 ≤ m → (∀ i, i < n → (f i).t ≤ m) → lastN f n ≤ m
  | 0, h, _ => h
  | n + 1, h, hi => by have h1 := last_at_most n h (fun i hi2 => hi i (by omega)); have h2 := hi n (by omega); rw [lastN]; split <;> omega
def upd {α : Type} (f : Nat → α) (i : Nat) (v : α) : Nat → α := fun j => if j = i then v else f j
theorem upd_eq {α : Type} (f : Nat → α) (i : Nat) (v : α) : upd f i v i = v := by simp [upd]
theorem upd_ne {α : Type} (f : Nat → α) {i j : Nat} (v : α) (h : ¬j = i) : upd f i v j = f j := by simp [upd, h]
/-- Where reader i of kind k is when it has made c accesses. -/
def PlP (i : Nat) (k p c : Int) : Prop := (k = 0 ∧ p = 20 + 60 * (i : Int) + c) ∨ (k = 1 ∧ p = 20 + 60 * (i : Int) - c) ∨ (k = 2 ∧ p = 20 + 60 * (i : Int) + 3 * c)
structure Rdr (n : Nat) (ps ks cs ws : Nat → Int) (L : List Str) (T : Nat) : Prop where
  n4 : n ≤ 4
  sound : Sound L
  last : lastN (ofL L) L.length ≤ T
  cnt : ∀ i, i < n → 0 ≤ cs i ∧ cs i ≤ 6
  plc : ∀ i, i < n → PlP i (ks i) (ps i) (cs i)
  own : ∀ i, i < n → 0 < cs i → ∃ j : Nat, ws i = j ∧ j < L.length ∧ RdS (L.getD j zS) (ks i) (ps i) (cs i)
  has : ∀ j, j < L.length → ∃ i, i < n ∧ 0 < cs i ∧ ws i = j
theorem PlP.k {i : Nat} {k p c : Int} (h : PlP i k p c) : 0 ≤ k ∧ k ≤ 2 := by unfold PlP at h; omega
theorem PlP.next {i : Nat} {k p c : Int} (h : PlP i k p c) : PlP i k (p + dlF k) (c + 1) := by
  have hd := dl_ok h.k.1 h.k.2
  unfold PlP at *
  unfold DlP at hd
  omega
theorem PlP.range {i : Nat} {k p c : Int} (h : PlP i k p c) (hi : i < 4) (c0 : 0 ≤ c) (c1 : c ≤ 6) : 14 ≤ p ∧ p ≤ 218 := by unfold PlP at h; omega
theorem Rdr.far {n : Nat} {ps ks cs ws : Nat → Int} {L : List Str} {T : Nat} (h : Rdr n ps ks cs ws L T) {i j : Nat} (hi : i < n) (hj : j < L.length) (hw : 0 < cs i → ¬ws i = j) :
    mtcB (L.getD j zS) (ps i) (ps i + 1) = false := by
  obtain ⟨m, hm, c0, e⟩ := h.has j hj
  obtain ⟨j', e', -, ha, hb, -⟩ := h.own m hm c0
  obtain rfl : j = j' := by omega
  have hmi : ¬m = i := fun e2 => by subst e2; exact hw c0 e
  have p1 := h.plc i hi
  have p2 := h.plc m hm
  have q1 := h.cnt i hi
  have q2 := h.cnt m hm
  have hd := dl_ok p2.k.1 p2.k.2
  refine mt_far (by omega) ?_
  rw [ha]
  unfold DlP at hd
  unfold PlP at p1 p2
  omega
/-- Where a reader has had an access already, its stream is the one; else it is a new one at the end. -/
theorem Rdr.step {n : Nat} {ps ks cs ws : Nat → Int} {L : List Str} {T : Nat} (h : Rdr n ps ks cs ws L T) {i : Nat} (hi : i < n) (hc : cs i < 6) (hT : T < 100) :
    errF (ofL L) L.length (ps i) (ps i + 1) = 0 ∧ ∃ (j : Nat) (L' : List Str), fdI (ofL L) L.length (ps i) (ps i + 1) = j ∧ fdL (ofL L) L.length (ps i) (ps i + 1) = L' ∧ j < L'.length ∧ (0 < cs i → ws i = j) ∧
      (0 < cs i → (L'.getD j zS).k = ks i + 2) ∧ Rdr n (upd ps i (ps i + dlF (ks i))) ks (upd cs i (cs i + 1)) (upd ws i (j : Int)) L' (T + 1) := by
  have hn4 := h.n4
  have hpl := h.plc i hi
  have hk := hpl.k
  have hci := h.cnt i hi
  have hra := hpl.range (by omega) hci.1 hci.2
  have hA : accB (ps i) (ps i + 1) = true := decide_eq_true ⟨by omega, by omega, by omega⟩
  have hlast := h.last
  have he : errF (ofL L) L.length (ps i) (ps i + 1) = 0 := by
    unfold errF
    rw [show chkB (ofL L) L.length = true from h.sound, hA]
    simp; omega
  have hs := fd_sound (x := ps i) (y := ps i + 1) h.sound
  have eL : lsF (ofL L) L.length = L := lsF_of L
  have hle := h.sound.le
  have hall := h.sound.all
  have hcn : ∀ m, m < n → 0 ≤ upd cs i (cs i + 1) m ∧ upd cs i (cs i + 1) m ≤ 6 := fun m hm => by
    by_cases e : m = i
    · subst e; rw [upd_eq]; omega
    · rw [upd_ne _ _ e]; exact h.cnt m hm
  have hpn : ∀ m, m < n → PlP m (ks m) (upd ps i (ps i + dlF (ks i)) m) (upd cs i (cs i + 1) m) := fun m hm => by
    by_cases e : m = i
    · subst e; rw [upd_eq, upd_eq]; exact hpl.next
    · rw [upd_ne _ _ e, upd_ne _ _ e]; exact h.plc m hm
  by_cases c0 : 0 < cs i
  · obtain ⟨j, hw, hj, hx⟩ := h.own i hi c0
    have hmt := mt_own (hall j hj).1 hx hk.1 hk.2 (by omega) (by omega) (by omega) (by omega)
    have hb : bestO (ofL L) (ps i) (ps i + 1) L.length = some j := best_one hj hmt.1 (fun m hm hmj => h.far hi hm (fun _ e => hmj (by omega)))
    have hsl : slotO (ofL L) L.length (ps i) (ps i + 1) = some j := by unfold slotO; rw [hb]
    have hN : newS (ofL L) L.length (ps i) (ps i + 1) = ⟨ks i + 2, ps i, ps i + 1, spF (ks i), cs i, lastN (ofL L) L.length + 1⟩ := by
      unfold newS preS; rw [hb]; show (⟨(becF (L.getD j zS) _ _).k, (becF (L.getD j zS) _ _).a, (becF (L.getD j zS) _ _).b, (becF (L.getD j zS) _ _).d, (becF (L.getD j zS) _ _).h, _⟩ : Str) = _; rw [hmt.2]
    have hL : fdL (ofL L) L.length (ps i) (ps i + 1) = L.set j ⟨ks i + 2, ps i, ps i + 1, spF (ks i), cs i, lastN (ofL L) L.length + 1⟩ := by rw [fdL, if_pos he, hsl, hN, eL]
    have hI : fdI (ofL L) L.length (ps i) (ps i + 1) = j := by rw [fdI, if_pos he, hsl]
    have hz : RdS ⟨ks i + 2, ps i, ps i + 1, spF (ks i), cs i, lastN (ofL L) L.length + 1⟩ (ks i) (ps i + dlF (ks i)) (cs i + 1) := by
      refine ⟨?_, ?_, .inr ⟨?_, rfl, rfl, ?_⟩⟩ <;> (try simp only) <;> omega
    have hzk : (⟨ks i + 2, ps i, ps i + 1, spF (ks i), cs i, lastN (ofL L) L.length + 1⟩ : Str).k = ks i + 2 := rfl
    have hzt : (⟨ks i + 2, ps i, ps i + 1, spF (ks i), cs i, lastN (ofL L) L.length + 1⟩ : Str).t = lastN (ofL L) L.length + 1 := rfl
    generalize (⟨ks i + 2, ps i, ps i + 1, spF (ks i), cs i, lastN (ofL L) L.length + 1⟩ : Str) = z at *
    refine ⟨he, j, _, hI, rfl, by rw [hL, List.length_set]; exact hj, fun _ => hw, fun _ => by rw [hL, getD_set z hj, if_pos rfl]; exact hzk, ?_⟩
    refine ⟨hn4, hs, ?_, hcn, hpn, fun m hm cm => ?_, fun m hm => ?_⟩
    · rw [hL, List.length_set]
      refine last_at_most _ (by omega) fun m hm => ?_
      show (List.getD _ m zS).t ≤ _
      rw [getD_set z hm]
      split
      · rw [hzt]; omega
      · have : (L.getD m zS).t ≤ lastN (ofL L) L.length := le_last (f := ofL L) hm
        omega
    · rw [hL, List.length_set]
      by_cases e : m = i
      · subst e
        rw [upd_eq, upd_eq, upd_eq]
        exact ⟨j, rfl, hj, by rw [getD_set z hj, if_pos rfl]; exact hz⟩
      · rw [upd_ne _ _ e] at cm
        rw [upd_ne _ _ e, upd_ne _ _ e, upd_ne _ _ e]
        obtain ⟨j', w', hj', x'⟩ := h.own m hm cm
        refine ⟨j', w', hj', ?_⟩
        rw [getD_set z hj', if_neg]
        · exact x'
        · rintro rfl
          have p2 := h.plc m hm
          have q2 := h.cnt m hm
          have hd := dl_ok p2.k.1 p2.k.2
          have hd1 := dl_ok hk.1 hk.2
          have a1 := hx.1
          have a2 := x'.1
          unfold DlP at hd hd1
          unfold PlP at hpl p2
          omega
    · rw [hL, List.length_set] at hm
      obtain ⟨o, ho, co, wo⟩ := h.has m hm
      refine ⟨o, ho, ?_, ?_⟩
      · by_cases e : o = i
        · subst e; rw [upd_eq]; omega
        · rw [upd_ne _ _ e]; exact co
      · by_cases e : o = i
        · subst e; rw [upd_eq]; omega
        · rw [upd_ne _ _ e]; exact wo
  · have hb : bestO (ofL L) (ps i) (ps i + 1) L.length = none := best_no _ (fun m hm => h.far hi hm (fun e => absurd e c0))
    have h4 : L.length < 4 := by
      by_cases e4 : L.length = 4
      · exfalso
        obtain ⟨o0, a0, b0, d0⟩ := h.has 0 (by omega)
        obtain ⟨o1, a1, b1, d1⟩ := h.has 1 (by omega)
        obtain ⟨o2, a2, b2, d2⟩ := h.has 2 (by omega)
        obtain ⟨o3, a3, b3, d3⟩ := h.has 3 (by omega)
        have n01 : ¬o0 = o1 := fun e => by subst e; omega
        have n02 : ¬o0 = o2 := fun e => by subst e; omega
        have n03 : ¬o0 = o3 := fun e => by subst e; omega
        have n12 : ¬o1 = o2 := fun e => by subst e; omega
        have n13 : ¬o1 = o3 := fun e => by subst e; omega
        have n23 : ¬o2 = o3 := fun e => by subst e; omega
        have m0 : ¬o0 = i := fun e => by subst e; exact c0 b0
        have m1 : ¬o1 = i := fun e => by subst e; exact c0 b1
        have m2 : ¬o2 = i := fun e => by subst e; exact c0 b2
        have m3 : ¬o3 = i := fun e => by subst e; exact c0 b3
        clear d0 d1 d2 d3 b0 b1 b2 b3 hpl hk hra hci hA he hs hcn hpn hlast hle hall
        omega
      · omega
    have hsl : slotO (ofL L) L.length (ps i) (ps i + 1) = none := by unfold slotO; rw [hb]; simp; omega
    have hN : newS (ofL L) L.length (ps i) (ps i + 1) = ⟨1, ps i, ps i + 1, 0, 0, lastN (ofL L) L.length + 1⟩ := by unfold newS preS; rw [hb]
    have hL : fdL (ofL L) L.length (ps i) (ps i + 1) = L ++ [⟨1, ps i, ps i + 1, 0, 0, lastN (ofL L) L.length + 1⟩] := by rw [fdL, if_pos he, hsl, hN, eL]
    have hI : fdI (ofL L) L.length (ps i) (ps i + 1) = L.length := by rw [fdI, if_pos he, hsl]
    have hz : RdS ⟨1, ps i, ps i + 1, 0, 0, lastN (ofL L) L.length + 1⟩ (ks i) (ps i + dlF (ks i)) (cs i + 1) := by
      refine ⟨?_, ?_, .inl ⟨?_, rfl, rfl, rfl⟩⟩ <;> (try simp only) <;> omega
    have hzt : (⟨1, ps i, ps i + 1, 0, 0, lastN (ofL L) L.length + 1⟩ : Str).t = lastN (ofL L) L.length + 1 := rfl
    generalize (⟨1, ps i, ps i + 1, 0, 0, lastN (ofL L) L.length + 1⟩ : Str) = z at *
    refine ⟨he, L.length, _, hI, rfl, by rw [hL]; simp, fun c => absurd c c0, fun c => absurd c c0, ?_⟩
    refine ⟨hn4, hs, ?_, hcn, hpn, fun m hm cm => ?_, fun m hm => ?_⟩
    · rw [hL, List.length_append, List.length_singleton]
      refine last_at_most _ (by omega) fun m hm => ?_
      show (List.getD _ m zS).t ≤ _
      rw [getD_snoc z hm]
      split
      · rw [hzt]; omega
      · have : (L.getD m zS).t ≤ lastN (ofL L) L.length := le_last (f := ofL L) (by omega)
        omega
    · rw [hL, List.length_append, List.length_singleton]
      by_cases e : m = i
      · subst e
        rw [upd_eq, upd_eq, upd_eq]
        exact ⟨L.length, rfl, by omega, by rw [getD_snoc z (by omega), if_pos rfl]; exact hz⟩
      · rw [upd_ne _ _ e] at cm
        rw [upd_ne _ _ e, upd_ne _ _ e, upd_ne _ _ e]
        obtain ⟨j', w', hj', x'⟩ := h.own m hm cm
        exact ⟨j', w', by omega, by rw [getD_snoc z (by omega), if_neg (by omega)]; exact x'⟩
    · rw [hL, List.length_append, List.length_singleton] at hm
      by_cases e : m = L.length
      · exact ⟨i, hi, by rw [upd_eq]; omega, by rw [upd_eq]; omega⟩
      · obtain ⟨o, ho, co, wo⟩ := h.has m (by omega)
        have eo : ¬o = i := fun e => by subst e; exact c0 co
        exact ⟨o, ho, by rw [upd_ne _ _ eo]; exact co, by rw [upd_ne _ _ eo]; exact wo⟩
/-- From the third access on its stream is sure, and tells where it goes next. -/
theorem rd_sure {x : Str} {k p c : Int} (hr : RgtP x) (h : RdS x k p c) (k0 : 0 ≤ k) (k1 : k ≤ 2) (c0 : 3 ≤ c) (p0 : 0 ≤ p) (p1 : p ≤ 250) : sureB x = true ∧ prF x 1 = [p] := by
  obtain ⟨ha, hb, h⟩ := h
  have hd := dl_ok k0 k1
  have r : rgtB x = true := decide_eq_true hr
  obtain ⟨-, hk, hs, hh⟩ : 2 ≤ c ∧ x.k = k + 2 ∧ x.d = spF k ∧ x.h = c - 1 := by omega
  refine ⟨by rw [sureB, r]; simp; omega, ?_⟩
  rw [prF, if_pos ⟨hr, by omega⟩]
  have hg : pgF x 0 = p := by
    unfold pgF
    generalize dlF k = d at *
    generalize spF k = s at *
    rcases hd with ⟨rfl, rfl, rfl⟩ | ⟨rfl, rfl, rfl⟩ | ⟨rfl, rfl, rfl⟩
    · rw [if_pos (by omega)]; omega
    · rw [if_neg (by omega), if_pos (by omega)]; omega
    · rw [if_neg (by omega), if_neg (by omega), hb, ha, hs]; simp
  have hi : inB (pgF x 0) = true := by rw [hg]; exact decide_eq_true (by omega)
  rw [show ((1 : Int)).toNat = 0 + 1 from rfl, (prL_next (m := 0) rfl hi).1, hg]; rfl
end Go.Proofs.Ythdcmknenjallaa
