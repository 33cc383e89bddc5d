/- The made streams (layer 6): some right list, whatever the tape. -/
import Derived.Test.YtfljohgcbihhbaaDoorSr6
import Derived.Test.YtfljohgcbihhbaaDoorOdd
namespace Go.Mine
open Go Go.RowKit
theorem RowN.past {T : TypeId} {w w' : World} {B b : Nat} {v : Value} {L : List Str} (h : RowN T w B v L) (g : w.grownBy w' (some b)) (hb : b < B) : RowN T w' B v L := ⟨h.1.past g hb, h.2⟩
theorem RowN.alloc {T : TypeId} {w : World} {B : Nat} {v : Value} {L : List Str} (h : RowN T w B v L) (o : Obj) : RowN T (w.alloc o) B v L := ⟨h.1.alloc o, h.2⟩
theorem RowN.drew {T : TypeId} {w : World} {B : Nat} {v : Value} {L : List Str} (h : RowN T w B v L) : RowN T w.drew B v L := h
end Go.Mine
namespace Go.Proofs.YtfljohgcbihhbaaDoor
open Go.RowKit Go.Mine

def Sound (L : List Str) : Prop := chkB (ofL L) L.length = true
theorem Sound.le {L : List Str} (h : Sound L) : L.length ≤ 4 := by unfold Sound chkB at h; rw [Bool.and_eq_true] at h; exact of_decide_eq_true h.1
theorem Sound.all {L : List Str} (h : Sound L) : ∀ i, i < L.length → RgtP (L.getD i zS) ∧ ∀ j, j < i → ¬(L.getD j zS).t = (L.getD i zS).t := by
  unfold Sound chkB at h; rw [Bool.and_eq_true] at h; exact ck_all h.2
theorem rgt_mild {x : Str} (h : RgtP x) : Mild x := by
  obtain ⟨-, -, -, -, -, -, h⟩ := h
  unfold Mild
  unfold StpP at h
  rcases h with ⟨-, h⟩ | ⟨-, h⟩ <;> omega
theorem Sound.milds {L : List Str} (h : Sound L) : Milds L := fun k hk => rgt_mild (h.all k hk).1
theorem min_h {h : Int} (h0 : 0 ≤ h) : 1 ≤ minH h ∧ minH h ≤ 1000000 := by unfold minH; omega
theorem grw_rgt {x : Str} {k d a b : Int} (hx : RgtP x) (ha : AccP a b) (hk : (k = 2 ∧ d = 0) ∨ (k = 3 ∧ d = 0) ∨ (k = 4 ∧ StpP d (b - a))) (t : Int) (t0 : 0 ≤ t) (t1 : t ≤ 1000000) : RgtP ⟨k, a, b, d, minH x.h, t⟩ := by
  have hm := min_h hx.2.1
  refine ⟨ha, by show 0 ≤ minH x.h; omega, hm.2, t0, t1, ?_, ?_⟩
  · show minH x.h = 0 ↔ k = 1; omega
  · show ((k = 1 ∨ k = 2 ∨ k = 3) ∧ d = 0) ∨ (k = 4 ∧ StpP d (b - a))
    rcases hk with h | h | h
    · left; omega
    · left; omega
    · exact .inr h
/-- What a stream becomes is right again, at any stamp. -/
theorem bec_rgt {x : Str} {a b : Int} (hx : RgtP x) (ha : accB a b = true) (t : Int) (t0 : 0 ≤ t) (t1 : t ≤ 1000000) : RgtP ⟨(becF x a b).k, (becF x a b).a, (becF x a b).b, (becF x a b).d, (becF x a b).h, t⟩ := by
  have h0 : rgtB x = true := decide_eq_true hx
  have hA : AccP a b := of_decide_eq_true ha
  cases h1 : fwdB x a b
  · cases h2 : bwdB x a b
    · cases h3 : sdB x a b
      · have e : becF x a b = x := by simp [becF, h0, ha, h1, h2, h3]
        rw [e]
        exact ⟨hx.1, hx.2.1, hx.2.2.1, t0, t1, hx.2.2.2.2.2⟩
      · have e : becF x a b = grwF x 4 (a - x.a) a b := by simp [becF, h0, ha, h1, h2, h3]
        have hs : (x.k = 1 ∨ (x.k = 4 ∧ a - x.a = x.d)) ∧ StpP (a - x.a) (x.b - x.a) ∧ StpP (a - x.a) (b - a) := of_decide_eq_true h3
        rw [e]
        exact grw_rgt hx hA (.inr (.inr ⟨rfl, hs.2.2⟩)) t t0 t1
    · have e : becF x a b = grwF x 3 0 a b := by simp [becF, h0, ha, h1, h2]
      rw [e]
      exact grw_rgt hx hA (.inr (.inl ⟨rfl, rfl⟩)) t t0 t1
  · have e : becF x a b = grwF x 2 0 a b := by simp [becF, h0, ha, h1]
    rw [e]
    exact grw_rgt hx hA (.inl ⟨rfl, rfl⟩) t t0 t1
theorem le_last {f : Nat → Str} : ∀ {n i : Nat}, i < n → (f i).t ≤ lastN f n
  | n + 1, i, h => by
    by_cases e : i = n
    · subst e; rw [lastN]; split <;> omega
    · have := le_last (f := f) (show i < n by omega); rw [lastN]; split <;> omega
theorem new_rgt {f : Nat → Str} {n : Nat} {a b : Int} (hc : ∀ i, i < n → RgtP (f i) ∧ ∀ j, j < i → ¬(f j).t = (f i).t) (ha : accB a b = true) (hl : lastN f n < 1000000) : RgtP (newS f n a b) := by
  have h0 := last_nn f n
  unfold newS preS
  rcases best_mt f a b n with ⟨b1, -⟩ | ⟨j, b1, b2, -⟩
  · rw [b1]
    refine ⟨of_decide_eq_true ha, by show (0 : Int) ≤ 0; omega, by show (0 : Int) ≤ 1000000; omega, by show 0 ≤ lastN f n + 1; omega, by show lastN f n + 1 ≤ 1000000; omega, ?_, ?_⟩
    · exact ⟨fun _ => rfl, fun _ => rfl⟩
    · exact .inl ⟨.inl rfl, rfl⟩
  · rw [b1]
    exact bec_rgt (hc j b2).1 ha _ (by omega) (by omega)
theorem slot_lt {f : Nat → Str} {n : Nat} {a b : Int} (_hn : n ≤ 4) {j : Nat} (h : slotO f n a b = some j) : j < n := by
  unfold slotO at h
  rcases best_mt f a b n with ⟨b1, -⟩ | ⟨i, b1, b2, -⟩
  · rw [b1] at h
    simp only at h
    split at h
    · injection h with h; have := minIx_le f 3; omega
    · exact absurd h (by simp)
  · rw [b1] at h
    injection h with h
    omega
theorem slot_none {f : Nat → Str} {n : Nat} {a b : Int} (h : slotO f n a b = none) : ¬n = 4 := by
  unfold slotO at h
  intro h4
  rcases best_mt f a b n with ⟨b1, -⟩ | ⟨i, b1, -⟩
  · rw [b1] at h; simp [h4] at h
  · rw [b1] at h; exact absurd h (by simp)
theorem sound_of {L : List Str} (h4 : L.length ≤ 4) (h : ∀ i, i < L.length → RgtP (L.getD i zS) ∧ ∀ j, j < i → ¬(L.getD j zS).t = (L.getD i zS).t) : Sound L := by
  unfold Sound chkB
  rw [Bool.and_eq_true]
  exact ⟨decide_eq_true h4, ck_of h⟩
theorem getD_set {L : List Str} {j i : Nat} (x : Str) (hi : i < L.length) : (L.set j x).getD i zS = if i = j then x else L.getD i zS := by
  simp only [List.getD, List.getElem?_set]
  by_cases e : j = i
  · subst e; simp [hi]
  · rw [if_neg e, if_neg (fun h => e h.symm)]
theorem getD_snoc {L : List Str} {i : Nat} (x : Str) (hi : i < L.length + 1) : (L ++ [x]).getD i zS = if i = L.length then x else L.getD i zS := by
  simp only [List.getD]
  by_cases e : i = L.length
  · subst e; simp
  · rw [List.getElem?_append_left (by omega), if_neg e]
/-- A right list stays right. -/
theorem fd_sound {L : List Str} {x y : Int} (h : Sound L) : Sound (fdL (ofL L) L.length x y) := by
  by_cases he : errF (ofL L) L.length x y = 0
  · obtain ⟨-, k2, k3⟩ := err_ok he
    have hall := h.all
    have hl : lastN (ofL L) L.length ≤ 1000000 := last_le (ck_of hall)
    have hN : RgtP (newS (ofL L) L.length x y) := new_rgt hall k2 (by omega)
    have hT : ∀ i, i < L.length → (L.getD i zS).t < (newS (ofL L) L.length x y).t := fun i hi => by
      have : (L.getD i zS).t ≤ lastN (ofL L) L.length := le_last (f := ofL L) hi
      show _ < lastN (ofL L) L.length + 1
      omega
    rw [fdL, if_pos he]
    have e : lsF (ofL L) L.length = L := lsF_of L
    rw [e]
    generalize newS (ofL L) L.length x y = z at *
    cases hs : slotO (ofL L) L.length x y with
    | none =>
      have h4 := slot_none hs
      have := h.le
      refine sound_of (by simp; omega) fun i hi => ?_
      rw [List.length_append, List.length_singleton] at hi
      rw [getD_snoc z hi]
      by_cases ei : i = L.length
      · subst ei
        rw [if_pos rfl]
        refine ⟨hN, fun j hj => ?_⟩
        rw [getD_snoc z (by omega), if_neg (by omega)]
        have := hT j hj
        omega
      · rw [if_neg ei]
        refine ⟨(hall i (by omega)).1, fun j hj => ?_⟩
        rw [getD_snoc z (by omega), if_neg (by omega)]
        exact (hall i (by omega)).2 j hj
    | some j =>
      have hj := slot_lt h.le hs
      refine sound_of (by simp; exact h.le) fun i hi => ?_
      rw [List.length_set] at hi
      rw [getD_set z hi]
      by_cases ei : i = j
      · rw [if_pos ei]
        refine ⟨hN, fun m hm => ?_⟩
        rw [getD_set z (by omega), if_neg (by omega)]
        have := hT m (by omega)
        omega
      · rw [if_neg ei]
        refine ⟨(hall i hi).1, fun m hm => ?_⟩
        rw [getD_set z (by omega)]
        by_cases em : m = j
        · rw [if_pos em]
          have := hT i hi
          omega
        · rw [if_neg em]
          exact (hall i hi).2 m hm
  · rw [fdL, if_neg he]
    exact (lsF_of L).symm ▸ h
theorem rfeed_L {L : List Str} {B : Nat} (v : Value) (x y : Int) (w : World) (R : RowN 29 w B v L) (h : Sound L) :
    Calls Tryd.prog 24 #[v, .int .i64 x, .int .i64 y] w (RetRf (ofL L) L.length x y v w) := by
  obtain ⟨a, c, rfl, hr, hc, hz, hcm⟩ := R.rd
  exact rfeed_any a L.length c (ofL L) x y w (by have := h.le; omega) hr hz
end Go.Proofs.YtfljohgcbihhbaaDoor
