/- Areas (layer 16) as plain mathematics: removing pages, a room, the pages that show a page; no program is named here. -/
import Derived.Test.YtnlhdbengppnpaaArM
namespace Go.Mine
open Go Go.RowKit

def befR (a : Ar) (s : Int) : Ar := if s ≤ a.s then zR else ⟨a.s, min a.n (s - a.s), a.f, a.p, a.w⟩
def frmR (a : Ar) (e : Int) : Ar := if endA a ≤ e then zR else ⟨a.s + max 0 (e - a.s), a.n - max 0 (e - a.s), a.f, a.p + max 0 (e - a.s), a.w⟩
theorem befR_0 {a : Ar} {s : Int} (h : s ≤ a.s) : befR a s = zR := if_pos h
theorem befR_1 {a : Ar} {s : Int} (h : a.s < s) : befR a s = ⟨a.s, min a.n (s - a.s), a.f, a.p, a.w⟩ := if_neg (by omega)
theorem frmR_0 {a : Ar} {e : Int} (h : endA a ≤ e) : frmR a e = zR := if_pos h
theorem frmR_1 {a : Ar} {e : Int} (h : e < endA a) : frmR a e = ⟨a.s + max 0 (e - a.s), a.n - max 0 (e - a.s), a.f, a.p + max 0 (e - a.s), a.w⟩ := if_neg (by omega)
/-- What is left of an area. -/
def cutR (a : Ar) (s e : Int) : List Ar := (if a.s < s then [befR a s] else []) ++ (if e < endA a then [frmR a e] else [])
def woR (L : List Ar) (s e : Int) : List Ar := L.flatMap fun a => cutR a s e
theorem cutR_len (a : Ar) (s e : Int) : (cutR a s e).length ≤ 2 := by
  unfold cutR
  rw [List.length_append]
  split <;> split <;> simp
theorem woR_len (L : List Ar) (s e : Int) : (woR L s e).length ≤ 2 * L.length := by
  unfold woR
  induction L with
  | nil => simp
  | cons a l ih =>
    rw [List.flatMap_cons, List.length_append, List.length_cons]
    have := cutR_len a s e
    omega
theorem woR_nil (s e : Int) : woR [] s e = [] := rfl
theorem woR_cons (a : Ar) (l : List Ar) (s e : Int) : woR (a :: l) s e = cutR a s e ++ woR l s e := List.flatMap_cons
theorem woR_app (L M : List Ar) (s e : Int) : woR (L ++ M) s e = woR L s e ++ woR M s e := List.flatMap_append
theorem woR_snoc (L : List Ar) {i : Nat} (hi : i < L.length) (s e : Int) : woR (L.take (i + 1)) s e = woR (L.take i) s e ++ cutR (L.getD i zR) s e := by
  rw [take_getR L hi, woR_app, woR_cons, woR_nil, List.append_nil]
def eU (L : List Ar) (s n : Int) : Int := match okR L, inB s n 64 with
  | false, _ => 1
  | true, false => 2
  | true, true => 0
theorem eU_1 {L : List Ar} {s n : Int} (h : okR L = false) : eU L s n = 1 := by unfold eU; rw [h]
theorem eU_2 {L : List Ar} {s n : Int} (h : okR L = true) (h2 : inB s n 64 = false) : eU L s n = 2 := by unfold eU; rw [h, h2]
theorem eU_0 {L : List Ar} {s n : Int} (h : okR L = true) (h2 : inB s n 64 = true) : eU L s n = 0 := by unfold eU; rw [h, h2]
theorem eU_ok {L : List Ar} {s n : Int} (h : eU L s n = 0) : okR L = true ∧ inB s n 64 = true := by
  cases h1 : okR L
  · rw [eU_1 h1] at h; cases h
  · cases h2 : inB s n 64
    · rw [eU_2 h1 h2] at h; cases h
    · exact ⟨rfl, rfl⟩
def unmR (L : List Ar) (s n : Int) : List Ar × Int := if eU L s n = 0 then (if 8 < (woR L s (s + n)).length then (L, 3) else (woR L s (s + n), 0)) else (L, eU L s n)
theorem unmR_e {L : List Ar} {s n e : Int} (h : eU L s n = e) (h0 : e ≠ 0) : unmR L s n = (L, e) := by subst h; exact if_neg h0
theorem unmR_3 {L : List Ar} {s n : Int} (h : eU L s n = 0) (h8 : 8 < (woR L s (s + n)).length) : unmR L s n = (L, 3) := by unfold unmR; rw [if_pos h, if_pos h8]
theorem unmR_0 {L : List Ar} {s n : Int} (h : eU L s n = 0) (h8 : ¬8 < (woR L s (s + n)).length) : unmR L s n = (woR L s (s + n), 0) := by unfold unmR; rw [if_pos h, if_neg h8]
theorem unmR_len (L : List Ar) (s n : Int) : (unmR L s n).1.length ≤ 2 * L.length := by
  by_cases h : eU L s n = 0
  · by_cases h8 : 8 < (woR L s (s + n)).length
    · rw [unmR_3 h h8]; show L.length ≤ _; omega
    · rw [unmR_0 h h8]; exact woR_len _ _ _
  · rw [unmR_e rfl h]; show L.length ≤ _; omega
/-- The parts are right. -/
theorem cut_ch {a : Ar} {s e lo : Int} {M : List Ar} (ha : rtA a = true) (hlo : lo ≤ a.s) (hse : s < e) (hM : chR (endA a) M = true) : chR lo (cutR a s e ++ M) = true := by
  have r := rtA_iff.1 ha
  have hE : endA a = a.s + a.n := rfl
  unfold cutR
  by_cases h1 : a.s < s
  · rw [if_pos h1, befR_1 h1]
    have q1 : rtA ⟨a.s, min a.n (s - a.s), a.f, a.p, a.w⟩ = true := rtA_iff.2 (by simp only [Int.min_def]; split <;> omega)
    by_cases h2 : e < endA a
    · rw [if_pos h2, frmR_1 h2]
      have q2 : rtA ⟨a.s + max 0 (e - a.s), a.n - max 0 (e - a.s), a.f, a.p + max 0 (e - a.s), a.w⟩ = true := rtA_iff.2 (by simp only [Int.max_def]; split <;> omega)
      refine chR_cons.2 ⟨q1, hlo, chR_cons.2 ⟨q2, ?_, chR_low hM ?_⟩⟩
      · simp only [endA, Int.min_def, Int.max_def]; split <;> split <;> omega
      · simp only [endA, Int.max_def] at *; split <;> omega
    · rw [if_neg h2]
      refine chR_cons.2 ⟨q1, hlo, chR_low hM ?_⟩
      simp only [endA, Int.min_def] at *; split <;> omega
  · rw [if_neg h1]
    by_cases h2 : e < endA a
    · rw [if_pos h2, frmR_1 h2]
      have q2 : rtA ⟨a.s + max 0 (e - a.s), a.n - max 0 (e - a.s), a.f, a.p + max 0 (e - a.s), a.w⟩ = true := rtA_iff.2 (by simp only [Int.max_def]; split <;> omega)
      refine chR_cons.2 ⟨q2, ?_, chR_low hM ?_⟩
      · simp only [Int.max_def]; split <;> omega
      · simp only [endA, Int.max_def] at *; split <;> omega
    · rw [if_neg h2]
      exact chR_low hM (by omega)
theorem wo_ch : ∀ {L : List Ar} {s e lo : Int}, chR lo L = true → s < e → chR lo (woR L s e) = true
  | [], _, _, _, _, _ => rfl
  | a :: l, s, e, lo, h, hs => by
    obtain ⟨h1, h2, h3⟩ := chR_cons.1 h
    rw [woR_cons]
    exact cut_ch h1 h2 hs (wo_ch h3 hs)
theorem unmR_ok {L : List Ar} {s n : Int} (h : okR L = true) : okR (unmR L s n).1 = true := by
  by_cases h0 : eU L s n = 0
  · by_cases h8 : 8 < (woR L s (s + n)).length
    · rw [unmR_3 h0 h8]; exact h
    · rw [unmR_0 h0 h8]
      have := inB_iff.1 (eU_ok h0).2
      exact okR_iff.2 ⟨by show (woR L s (s + n)).length ≤ 8; omega, wo_ch (okR_iff.1 h).2 (by omega)⟩
  · rw [unmR_e rfl h0]; exact h
/-- What a page shows. -/
def shwA (x : Int) (a : Ar) : Int × Int × Bool := (a.f, a.p + x - a.s, a.w)
theorem cut_hit {a : Ar} {s e x : Int} (ha : rtA a = true) (hse : s < e) (M : List Ar) : (s ≤ x ∧ x < e → findR (cutR a s e ++ M) x = findR M x) ∧
    (¬(s ≤ x ∧ x < e) → hitR a x = false → findR (cutR a s e ++ M) x = findR M x) ∧
    (¬(s ≤ x ∧ x < e) → hitR a x = true → (findR (cutR a s e ++ M) x).map (shwA x) = some (shwA x a)) := by
  have r := rtA_iff.1 ha
  have hE : endA a = a.s + a.n := rfl
  have hb : a.s < s → hitR (befR a s) x = (hitR a x && decide (x < s)) := fun h1 => by
    rw [befR_1 h1, Bool.eq_iff_iff, Bool.and_eq_true, hitR_iff, hitR_iff, decide_eq_true_iff]
    simp only [endA, Int.min_def]
    split <;> omega
  have hf : e < endA a → hitR (frmR a e) x = (hitR a x && decide (e ≤ x)) := fun h1 => by
    rw [frmR_1 h1, Bool.eq_iff_iff, Bool.and_eq_true, hitR_iff, hitR_iff, decide_eq_true_iff]
    simp only [endA, Int.max_def] at *
    split <;> omega
  have wb : a.s < s → shwA x (befR a s) = shwA x a := fun h1 => by rw [befR_1 h1]; rfl
  have wf : e < endA a → shwA x (frmR a e) = shwA x a := fun h1 => by rw [frmR_1 h1]; show (a.f, _, a.w) = (a.f, _, a.w); congr 2; show a.p + _ + x - (a.s + _) = _; omega
  have key : findR (cutR a s e ++ M) x = if (hitR a x && decide (x < s)) = true ∧ a.s < s then some (befR a s) else if (hitR a x && decide (e ≤ x)) = true ∧ e < endA a then some (frmR a e) else findR M x := by
    unfold cutR
    by_cases h1 : a.s < s
    · rw [if_pos h1]
      have hb := hb h1
      by_cases h2 : e < endA a
      · rw [if_pos h2]
        have hf := hf h2
        show findR (befR a s :: frmR a e :: M) x = _
        cases q : (hitR a x && decide (x < s))
        · rw [q] at hb
          rw [findR_n hb, if_neg (by simp)]
          cases q2 : (hitR a x && decide (e ≤ x))
          · rw [q2] at hf
            rw [findR_n hf, if_neg (by simp)]
          · rw [q2] at hf
            rw [findR_y hf, if_pos ⟨rfl, h2⟩]
        · rw [q] at hb
          rw [findR_y hb, if_pos ⟨rfl, h1⟩]
      · rw [if_neg h2]
        show findR (befR a s :: M) x = _
        rw [if_neg (fun h : _ ∧ e < endA a => h2 h.2)]
        cases q : (hitR a x && decide (x < s))
        · rw [q] at hb
          rw [findR_n hb, if_neg (by simp)]
        · rw [q] at hb
          rw [findR_y hb, if_pos ⟨rfl, h1⟩]
    · rw [if_neg h1, if_neg (fun h : _ ∧ a.s < s => h1 h.2)]
      by_cases h2 : e < endA a
      · rw [if_pos h2]
        have hf := hf h2
        show findR (frmR a e :: M) x = _
        cases q2 : (hitR a x && decide (e ≤ x))
        · rw [q2] at hf
          rw [findR_n hf, if_neg (by simp)]
        · rw [q2] at hf
          rw [findR_y hf, if_pos ⟨rfl, h2⟩]
      · rw [if_neg h2, if_neg (fun h : _ ∧ e < endA a => h2 h.2)]
        rfl
  rw [key]
  refine ⟨fun hx => ?_, fun hx hh => ?_, fun hx hh => ?_⟩
  · rw [decide_eq_false (by omega : ¬x < s), decide_eq_false (by omega : ¬e ≤ x), Bool.and_false, if_neg (by simp), if_neg (by simp)]
  · rw [hh, Bool.false_and, if_neg (by simp), Bool.false_and, if_neg (by simp)]
  · have hq := hitR_iff.1 hh
    rw [hh, Bool.true_and, Bool.true_and]
    by_cases h1 : x < s
    · rw [if_pos ⟨decide_eq_true h1, by omega⟩, Option.map_some, wb (by omega)]
    · rw [if_neg (by simp [h1]), if_pos ⟨decide_eq_true (by omega), by omega⟩, Option.map_some, wf (by omega)]
theorem find_wo : ∀ {L : List Ar} {lo : Int} {s e x : Int}, chR lo L = true → s < e → (s ≤ x ∧ x < e → findR (woR L s e) x = none) ∧ (¬(s ≤ x ∧ x < e) → (findR (woR L s e) x).map (shwA x) = (findR L x).map (shwA x))
  | [], _, _, _, _, _, _ => ⟨fun _ => rfl, fun _ => rfl⟩
  | a :: l, lo, s, e, x, h, hse => by
    obtain ⟨h1, h2, h3⟩ := chR_cons.1 h
    obtain ⟨c1, c2, c3⟩ := cut_hit (x := x) h1 hse (woR l s e)
    obtain ⟨i1, i2⟩ := find_wo (x := x) h3 hse
    rw [woR_cons]
    refine ⟨fun hx => by rw [c1 hx, i1 hx], fun hx => ?_⟩
    cases hh : hitR a x
    · rw [c2 hx hh, findR_n hh, i2 hx]
    · rw [c3 hx hh, findR_y hh]; rfl
theorem fndR_unm {L : List Ar} {s n : Int} (h : (unmR L s n).2 = 0) (x : Int) : (s ≤ x ∧ x < s + n → fndR (unmR L s n).1 x = none) ∧ (¬(s ≤ x ∧ x < s + n) → (fndR (unmR L s n).1 x).map (shwA x) = (fndR L x).map (shwA x)) := by
  by_cases h0 : eU L s n = 0
  · by_cases h8 : 8 < (woR L s (s + n)).length
    · rw [unmR_3 h0 h8] at h; cases h
    · have hk := (eU_ok h0).1
      have hn := inB_iff.1 (eU_ok h0).2
      have ho := unmR_ok (s := s) (n := n) hk
      rw [fndR_1 ho, fndR_1 hk, unmR_0 h0 h8]
      exact find_wo (okR_iff.1 hk).2 (by omega)
  · rw [unmR_e rfl h0] at h; exact absurd h h0
/-! A room. -/
def rmF (n : Int) : Int → List Ar → Option Int
  | lo, [] => if n ≤ 64 - lo then some lo else none
  | lo, a :: l => if n ≤ a.s - lo then some lo else rmF n (endA a) l
def rmR (L : List Ar) (n : Int) : Int × Bool := match okR L with
  | true => if n < 1 then (0, false) else match rmF n 0 L with
    | some p => (p, true)
    | none => (0, false)
  | false => (0, false)
theorem rmR_0 {L : List Ar} {n : Int} (h : okR L = false) : rmR L n = (0, false) := by unfold rmR; rw [h]
theorem rmR_1 {L : List Ar} {n : Int} (h : n < 1) : rmR L n = (0, false) := by unfold rmR; rw [if_pos h]; cases okR L <;> rfl
theorem rmR_s {L : List Ar} {n p : Int} (h : okR L = true) (hn : ¬n < 1) (hp : rmF n 0 L = some p) : rmR L n = (p, true) := by unfold rmR; rw [h, hp]; exact if_neg hn
theorem rmR_n {L : List Ar} {n : Int} (h : okR L = true) (hn : ¬n < 1) (hp : rmF n 0 L = none) : rmR L n = (0, false) := by unfold rmR; rw [h, hp]; exact if_neg hn
/-- Where the scan stands at place i: it goes on as at the list behind it. -/
theorem rmF_drop (n : Int) (L : List Ar) : ∀ (i : Nat), (∀ j, j < i → ¬n ≤ (L.getD j zR).s - pE 0 L j) → i ≤ L.length → rmF n 0 L = rmF n (pE 0 L i) (L.drop i)
  | 0, _, _ => rfl
  | i + 1, h, hi => by
    rw [rmF_drop n L i (fun j hj => h j (by omega)) (by omega)]
    have e : L.drop i = L.getD i zR :: L.drop (i + 1) := by rw [rD (by omega)]; exact List.drop_eq_getElem_cons (by omega)
    rw [e]
    show (if n ≤ (L.getD i zR).s - pE 0 L i then _ else _) = _
    rw [if_neg (h i (by omega))]
    rfl
theorem rmF_here {n : Int} {L : List Ar} {i : Nat} (hi : i < L.length) (h : n ≤ (L.getD i zR).s - pE 0 L i) : rmF n (pE 0 L i) (L.drop i) = some (pE 0 L i) := by
  have e : L.drop i = L.getD i zR :: L.drop (i + 1) := by rw [rD (by omega)]; exact List.drop_eq_getElem_cons (by omega)
  rw [e]
  exact if_pos h
theorem rmF_end {n : Int} {L : List Ar} : rmF n (pE 0 L L.length) (L.drop L.length) = if n ≤ 64 - pE 0 L L.length then some (pE 0 L L.length) else none := by
  rw [List.drop_length]
  exact rfl
theorem rm_some : ∀ {L : List Ar} {n lo p : Int}, chR lo L = true → lo ≤ 64 → 1 ≤ n → rmF n lo L = some p → lo ≤ p ∧ p + n ≤ 64 ∧ (∀ k, p ≤ k → k < p + n → findR L k = none) ∧ (∀ q, lo ≤ q → q < p → ∃ k, q ≤ k ∧ k < q + n ∧ (findR L k).isSome = true)
  | [], n, lo, p, h, hl, hn, hp => by
    unfold rmF at hp
    by_cases h1 : n ≤ 64 - lo
    · rw [if_pos h1] at hp
      injection hp with hp
      subst hp
      exact ⟨by omega, by omega, fun _ _ _ => rfl, fun q h1 h2 => by omega⟩
    · rw [if_neg h1] at hp; cases hp
  | a :: l, n, lo, p, h, hl, hn, hp => by
    obtain ⟨h1, h2, h3⟩ := chR_cons.1 h
    have r := rtA_iff.1 h1
    have hE : endA a = a.s + a.n := rfl
    unfold rmF at hp
    by_cases h0 : n ≤ a.s - lo
    · rw [if_pos h0] at hp
      injection hp with hp
      subst hp
      exact ⟨by omega, by omega, fun k k1 k2 => findR_low (lo := a.s) (chR_cons.2 ⟨h1, Int.le_refl _, h3⟩) (by omega), fun q h1 h2 => by omega⟩
    · rw [if_neg h0] at hp
      obtain ⟨i1, i2, i3, i4⟩ := rm_some h3 (by omega) hn hp
      refine ⟨by omega, i2, fun k k1 k2 => by rw [findR_n (hitR_no (.inr (by omega)))]; exact i3 k k1 k2, fun q q1 q2 => ?_⟩
      by_cases hq : endA a ≤ q
      · obtain ⟨k, k1, k2, k3⟩ := i4 q hq q2
        exact ⟨k, k1, k2, by rw [findR_n (hitR_no (.inr (by omega)))]; exact k3⟩
      · by_cases hq2 : a.s ≤ q
        · exact ⟨q, by omega, by omega, by rw [findR_y (hitR_iff.2 (by omega))]; rfl⟩
        · exact ⟨a.s, by omega, by omega, by rw [findR_y (hitR_iff.2 (by omega))]; rfl⟩
theorem rm_none : ∀ {L : List Ar} {n lo : Int}, chR lo L = true → lo ≤ 64 → 1 ≤ n → rmF n lo L = none → ∀ q, lo ≤ q → q + n ≤ 64 → ∃ k, q ≤ k ∧ k < q + n ∧ (findR L k).isSome = true
  | [], n, lo, h, hl, hn, hp => by
    unfold rmF at hp
    by_cases h1 : n ≤ 64 - lo
    · rw [if_pos h1] at hp; cases hp
    · intro q q1 q2; omega
  | a :: l, n, lo, h, hl, hn, hp => by
    obtain ⟨h1, h2, h3⟩ := chR_cons.1 h
    have r := rtA_iff.1 h1
    have hE : endA a = a.s + a.n := rfl
    unfold rmF at hp
    by_cases h0 : n ≤ a.s - lo
    · rw [if_pos h0] at hp; cases hp
    · rw [if_neg h0] at hp
      intro q q1 q2
      by_cases hq : endA a ≤ q
      · obtain ⟨k, k1, k2, k3⟩ := rm_none h3 (by omega) hn hp q hq q2
        exact ⟨k, k1, k2, by rw [findR_n (hitR_no (.inr (by omega)))]; exact k3⟩
      · by_cases hq2 : a.s ≤ q
        · exact ⟨q, by omega, by omega, by rw [findR_y (hitR_iff.2 (by omega))]; rfl⟩
        · exact ⟨a.s, by omega, by omega, by rw [findR_y (hitR_iff.2 (by omega))]; rfl⟩
/-- Pages q to q + n - 1 are in no area. -/
def FreeR (L : List Ar) (n q : Int) : Prop := ∀ k, q ≤ k → k < q + n → fndR L k = none
theorem rmR_hit {L : List Ar} {n q : Int} (h : okR L = true) (hn : 1 ≤ n) (h0 : 0 ≤ q) (h1 : q + n ≤ 64) (hf : FreeR L n q) (hb : ∀ r, 0 ≤ r → r < q → ¬FreeR L n r) : rmR L n = (q, true) := by
  have hc := (okR_iff.1 h).2
  cases hp : rmF n 0 L with
  | none =>
    obtain ⟨k, k1, k2, k3⟩ := rm_none hc (by omega) hn hp q h0 h1
    rw [← fndR_1 h, hf k k1 k2] at k3; cases k3
  | some p =>
    obtain ⟨i1, i2, i3, i4⟩ := rm_some hc (by omega) hn hp
    have e : p = q := by
      by_cases hpq : p < q
      · exact absurd (fun k k1 k2 => by rw [fndR_1 h]; exact i3 k k1 k2) (hb p i1 hpq)
      · by_cases hqp : q < p
        · obtain ⟨k, k1, k2, k3⟩ := i4 q h0 hqp
          rw [← fndR_1 h, hf k k1 k2] at k3; cases k3
        · omega
    subst e
    exact rmR_s h (by omega) hp
theorem rmR_miss {L : List Ar} {n : Int} (h : okR L = true) (hb : ∀ r, 0 ≤ r → r + n ≤ 64 → ¬FreeR L n r) : rmR L n = (0, false) := by
  by_cases hn : n < 1
  · exact rmR_1 hn
  · cases hp : rmF n 0 L with
    | none => exact rmR_n h hn hp
    | some p =>
      obtain ⟨i1, i2, i3, i4⟩ := rm_some (okR_iff.1 h).2 (by omega) (by omega) hp
      exact absurd (fun k k1 k2 => by rw [fndR_1 h]; exact i3 k k1 k2) (hb p i1 i2)
/-- What a room is good for. -/
theorem rmR_room {L : List Ar} {n p : Int} (h : okR L = true) (hr : rmR L n = (p, true)) : 1 ≤ n ∧ 0 ≤ p ∧ p + n ≤ 64 ∧ ∀ a : Ar, a.s = p → a.n = n → ovR L a = false := by
  by_cases hn : n < 1
  · rw [rmR_1 hn] at hr; cases hr
  · cases hp : rmF n 0 L with
    | none => rw [rmR_n h hn hp] at hr; cases hr
    | some q =>
      rw [rmR_s h hn hp] at hr
      injection hr with hr
      subst hr
      obtain ⟨i1, i2, i3, i4⟩ := rm_some (okR_iff.1 h).2 (by omega) (by omega) hp
      refine ⟨by omega, i1, i2, fun a ha hna => ovR_no.2 fun j hj => ?_⟩
      cases ho : ovA (L.getD j zR) a
      · rfl
      · have k1 := ovA_iff.1 ho
        have r := rtD' h hj
        unfold endA at k1
        have k := findR_none.1 (i3 (max q (L.getD j zR).s) (by simp only [Int.max_def]; split <;> omega) (by simp only [Int.max_def]; split <;> omega)) j hj
        have : hitR (L.getD j zR) (max q (L.getD j zR).s) = true := hitR_iff.2 (by unfold endA; simp only [Int.max_def]; split <;> omega)
        rw [this] at k; cases k
/-! The pages that show a page of a file. -/
def shO (f p : Int) (a : Ar) : Option Int := if a.f = f ∧ a.p ≤ p ∧ p < a.p + a.n then some (a.s + p - a.p) else none
def shF (L : List Ar) (f p : Int) : List Int := L.filterMap (shO f p)
def shwR (L : List Ar) (f p : Int) : List Int := match okR L with
  | true => shF L f p
  | false => []
theorem shwR_0 {L : List Ar} {f p : Int} (h : okR L = false) : shwR L f p = [] := by unfold shwR; rw [h]
theorem shwR_1 {L : List Ar} {f p : Int} (h : okR L = true) : shwR L f p = shF L f p := by unfold shwR; rw [h]
theorem shF_len (L : List Ar) (f p : Int) : (shF L f p).length ≤ L.length := List.length_filterMap_le ..
theorem shwR_len (L : List Ar) (f p : Int) : (shwR L f p).length ≤ L.length := by
  cases h : okR L
  · rw [shwR_0 h]; simp
  · rw [shwR_1 h]; exact shF_len L f p
theorem shF_snoc (L : List Ar) {i : Nat} (hi : i < L.length) (f p : Int) : shF (L.take (i + 1)) f p = shF (L.take i) f p ++ (shO f p (L.getD i zR)).toList := by
  unfold shF
  rw [take_getR L hi, List.filterMap_append]
  congr 1
theorem shF_low {L : List Ar} {f p lo x : Int} (h : chR lo L = true) (hx : x ∈ shF L f p) : lo ≤ x ∧ x < 64 := by
  unfold shF at hx
  obtain ⟨a, h1, h2⟩ := List.mem_filterMap.1 hx
  obtain ⟨h3, h4⟩ := chR_mem h h1
  have r := rtA_iff.1 h3
  unfold shO at h2
  by_cases hc : a.f = f ∧ a.p ≤ p ∧ p < a.p + a.n
  · rw [if_pos hc] at h2
    injection h2 with h2
    omega
  · rw [if_neg hc] at h2; cases h2
/-- Page x shows it. -/
def isSh (L : List Ar) (f p x : Int) : Bool := match findR L x with
  | some a => decide (a.f = f ∧ a.p + x - a.s = p)
  | none => false
theorem shF_cut : ∀ {L : List Ar} {lo : Int} (f p x : Int), chR lo L = true → (shF L f p).filter (fun y => decide (y < x + 1)) = (shF L f p).filter (fun y => decide (y < x)) ++ (if isSh L f p x = true then [x] else [])
  | [], _, _, _, _, _ => rfl
  | a :: l, lo, f, p, x, h => by
    obtain ⟨h1, h2, h3⟩ := chR_cons.1 h
    have ih := shF_cut f p x h3
    have r := rtA_iff.1 h1
    have hE : endA a = a.s + a.n := rfl
    have none_of : ∀ z, z < endA a + 1 → (shF l f p).filter (fun y => decide (y < z)) = [] := fun z hz => by
      rw [List.filter_eq_nil_iff]
      intro y hy
      have := (shF_low h3 hy).1
      simp; omega
    have not_of : x < endA a → isSh l f p x = false := fun hx => by unfold isSh; rw [findR_low h3 hx]
    have isa : hitR a x = true → isSh (a :: l) f p x = decide (a.f = f ∧ a.p + x - a.s = p) := fun hh => by unfold isSh; rw [findR_y hh]
    have isn : hitR a x = false → isSh (a :: l) f p x = isSh l f p x := fun hh => by unfold isSh; rw [findR_n hh]
    by_cases hc : a.f = f ∧ a.p ≤ p ∧ p < a.p + a.n
    · have e : shF (a :: l) f p = (a.s + p - a.p) :: shF l f p := by
        unfold shF
        exact List.filterMap_cons_some (if_pos hc)
      rw [e]
      by_cases e1 : x = a.s + p - a.p
      · have hh : hitR a x = true := hitR_iff.2 (by omega)
        rw [isa hh, if_pos (decide_eq_true ⟨hc.1, by omega⟩), List.filter_cons_of_pos (by simp; omega), List.filter_cons_of_neg (by simp; omega), none_of _ (by omega), none_of _ (by omega), e1]
        rfl
      · by_cases e2 : a.s + p - a.p < x
        · rw [List.filter_cons_of_pos (by simp; omega), List.filter_cons_of_pos (by simp; omega), ih]
          cases hh : hitR a x
          · rw [isn hh]; rfl
          · have := hitR_iff.1 hh
            rw [isa hh, decide_eq_false (by omega), not_of (by omega)]; rfl
        · rw [List.filter_cons_of_neg (by simp; omega), List.filter_cons_of_neg (by simp; omega), none_of _ (by omega), none_of _ (by omega)]
          cases hh : hitR a x
          · rw [isn hh, not_of (by omega)]; rfl
          · rw [isa hh, decide_eq_false (by omega)]; rfl
    · have e : shF (a :: l) f p = shF l f p := by
        unfold shF
        exact List.filterMap_cons_none (if_neg hc)
      rw [e, ih]
      cases hh : hitR a x
      · rw [isn hh]
      · have := hitR_iff.1 hh
        rw [isa hh, decide_eq_false (by omega), not_of (by omega)]
def shI (L : List Ar) (f p x : Int) : List Int := (shwR L f p).filter fun y => decide (y < x)
theorem shI_0 (L : List Ar) (f p : Int) : shI L f p 0 = [] := by
  cases h : okR L
  · unfold shI; rw [shwR_0 h]; rfl
  · unfold shI
    rw [shwR_1 h, List.filter_eq_nil_iff]
    intro y hy
    have := (shF_low (okR_iff.1 h).2 hy).1
    simp; omega
theorem shI_end (L : List Ar) (f p : Int) : shI L f p 64 = shwR L f p := by
  cases h : okR L
  · unfold shI; rw [shwR_0 h]; rfl
  · unfold shI
    rw [shwR_1 h, List.filter_eq_self]
    intro y hy
    have := (shF_low (okR_iff.1 h).2 hy).2
    simpa using this
theorem shI_some {L : List Ar} {f p x : Int} {a : Ar} (h : fndR L x = some a) (h1 : a.f = f) (h2 : a.p + x - a.s = p) : shI L f p (x + 1) = shI L f p x ++ [x] := by
  have hk := (fndR_hit h).1
  unfold shI
  rw [shwR_1 hk, shF_cut f p x (okR_iff.1 hk).2, if_pos]
  unfold isSh
  rw [← fndR_1 hk, h]
  exact decide_eq_true ⟨h1, h2⟩
theorem shI_other {L : List Ar} {f p x : Int} {a : Ar} (h : fndR L x = some a) (h1 : ¬(a.f = f ∧ a.p + x - a.s = p)) : shI L f p (x + 1) = shI L f p x := by
  have hk := (fndR_hit h).1
  unfold shI
  rw [shwR_1 hk, shF_cut f p x (okR_iff.1 hk).2, if_neg, List.append_nil]
  unfold isSh
  rw [← fndR_1 hk, h]
  show ¬decide _ = true
  rw [decide_eq_false h1]
  decide
theorem shI_none {L : List Ar} {f p x : Int} (h : fndR L x = none) : shI L f p (x + 1) = shI L f p x := by
  cases hk : okR L
  · unfold shI; rw [shwR_0 hk]; rfl
  · unfold shI
    rw [shwR_1 hk, shF_cut f p x (okR_iff.1 hk).2, if_neg, List.append_nil]
    unfold isSh
    rw [← fndR_1 hk, h]
    exact Bool.false_ne_true
end Go.Mine
