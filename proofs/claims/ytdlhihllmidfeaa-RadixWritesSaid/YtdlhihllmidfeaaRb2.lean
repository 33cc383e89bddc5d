/- What is wrong with a list of entries; radix.checkEntry, radix.heightFor. -/
import Derived.Test.YtdlhihllmidfeaaRb1
import Derived.Test.YtdlhihllmidfeaaRm5
namespace Go.Proofs.Ytdlhihllmidfeaa
open Go.RowKit Go.Mine

/-- What is wrong with one entry. -/
def chkEn (e : En) : Int := match rangeI e.1 with | false => 2 | true => match leafB 0 e.2.1 e.2.2 with | true => 0 | false => 1
/-- The first error of a list. -/
def errL : List En → Int
  | [] => 0
  | e :: l => match decide (chkEn e = 0) with | true => errL l | false => chkEn e
def dupAt (L : List En) (k : Nat) : Bool := (L.take k).any fun e => decide (e.1 = (L.getD k (0, (0, 0))).1)
def dupL (L : List En) : Bool := (List.range L.length).any (dupAt L)
def bldE (L : List En) : Int := match decide (errL L = 0) with | true => (match dupL L with | true => 5 | false => 0) | false => errL L
theorem errL_ok : ∀ (L : List En), (∀ k, k < L.length → chkEn (L.getD k (0, (0, 0))) = 0) → errL L = 0
  | [], _ => rfl
  | e :: l, h => by
    have h0 : chkEn e = 0 := h 0 (by simp)
    unfold errL
    rw [h0]
    exact errL_ok l (fun k hk => h (k + 1) (by simpa using hk))
theorem errL_at : ∀ (L : List En) (k : Nat), k < L.length → (∀ j, j < k → chkEn (L.getD j (0, (0, 0))) = 0) → chkEn (L.getD k (0, (0, 0))) ≠ 0 → errL L = chkEn (L.getD k (0, (0, 0)))
  | [], k, hk, _, _ => by simp at hk
  | e :: l, 0, _, _, h => by
    have h : chkEn e ≠ 0 := h
    unfold errL
    rw [decide_eq_false h]
    rfl
  | e :: l, k + 1, hk, h, hn => by
    have h0 : chkEn e = 0 := h 0 (by omega)
    unfold errL
    rw [h0]
    exact errL_at l k (by simpa using hk) (fun j hj => h (j + 1) (by omega)) hn
theorem chk_ok {e : En} (h : chkEn e = 0) (hw : (Lit.int .i64 e.2.1).wf = true) : 0 ≤ e.1 ∧ e.1 < 256 ∧ LefOK e.2 ∧ e.2.1 ≠ 0 := by
  unfold chkEn at h
  cases hr : rangeI e.1
  · rw [hr] at h; exact absurd h (by show ¬((2 : Int) = 0); decide)
  · rw [hr] at h
    dsimp only at h
    cases hl : leafB 0 e.2.1 e.2.2
    · rw [hl] at h; exact absurd h (by show ¬((1 : Int) = 0); decide)
    · have h1 := of_decide_eq_true hr
      have h2 := of_decide_eq_true hl
      exact ⟨h1.1, by omega, ⟨hw, by omega, by omega, fun hx => by omega⟩, h2.2.1⟩
theorem bldE_err {L : List En} (h : errL L ≠ 0) : bldE L = errL L := by unfold bldE; rw [decide_eq_false h]
theorem bldE_dup {L : List En} (h : errL L = 0) (d : dupL L = true) : bldE L = 5 := by unfold bldE; rw [h, d]; rfl
theorem bldE_ok {L : List En} (h : errL L = 0) (d : dupL L = false) : bldE L = 0 := by unfold bldE; rw [h, d]; rfl
theorem dupL_at {L : List En} {k : Nat} (hk : k < L.length) (h : dupAt L k = true) : dupL L = true := List.any_eq_true.2 ⟨k, List.mem_range.2 hk, h⟩
theorem dupL_no {L : List En} (h : ∀ k, k < L.length → dupAt L k = false) : dupL L = false := by
  unfold dupL
  rw [List.any_eq_false]
  intro k hk
  rw [h k (List.mem_range.1 hk)]
  simp
theorem dupAt_ex {L : List En} {k j : Nat} (hj : j < k) (hk : k < L.length) (h : (L.getD j (0, (0, 0))).1 = (L.getD k (0, (0, 0))).1) : dupAt L k = true := by
  unfold dupAt
  rw [List.any_eq_true]
  refine ⟨L.getD j (0, (0, 0)), ?_, decide_eq_true h⟩
  have hl : j < L.length := by omega
  rw [List.getD_eq_getElem?_getD, List.getElem?_eq_getElem hl, Option.getD_some]
  exact List.mem_take_iff_getElem.2 ⟨j, by omega, rfl⟩
theorem dupAt_no {L : List En} {k : Nat} (h : ∀ j, j < k → (L.getD j (0, (0, 0))).1 ≠ (L.getD k (0, (0, 0))).1) : dupAt L k = false := by
  unfold dupAt
  rw [List.any_eq_false]
  intro e he
  obtain ⟨j, hj, rfl⟩ := List.mem_take_iff_getElem.1 he
  have hl : j < L.length := by omega
  have h1 := h j (by omega)
  rw [List.getD_eq_getElem?_getD, List.getElem?_eq_getElem hl, Option.getD_some] at h1
  simpa using h1
/-- The function of the first entries, and one more. -/
theorem fnOf_snoc {L : List En} {e : En} (h0 : 0 ≤ e.1) (hn : (L.any fun y => decide (y.1 = e.1)) = false) : fnOf (L ++ [e]) = updG (fnOf L) e.1.toNat e.2 := by
  funext i
  unfold fnOf updG
  rw [List.find?_append]
  by_cases hi : i = e.1.toNat
  · rw [if_pos hi]
    have e1 : (L.find? fun y => y.1 == (i : Int)) = none := by
      rw [List.find?_eq_none]
      intro y hy
      have := List.any_eq_false.1 hn y hy
      have hie : (i : Int) = e.1 := by omega
      rw [hie]
      simpa using this
    rw [e1]
    have e2 : (e.1 == (i : Int)) = true := by simp; omega
    simp [e2]
  · rw [if_neg hi]
    have e2 : (e.1 == (i : Int)) = false := by simp; omega
    cases hL : L.find? (fun y => y.1 == (i : Int)) <;> simp [e2, hL]
theorem fnOf_hit {L : List En} (ok : EntOK L) {i : Nat} : (fnOf L i).1 = 0 ↔ (L.any fun y => decide (y.1 = (i : Int))) = false := by
  unfold fnOf
  cases hL : L.find? fun y => y.1 == (i : Int) with
  | none =>
    simp only [true_iff]
    rw [List.any_eq_false]
    intro y hy
    have := List.find?_eq_none.1 hL y hy
    simpa using this
  | some y =>
    have hy := List.mem_of_find?_eq_some hL
    have hp := List.find?_some hL
    have := (ok y hy).2.2.2
    constructor
    · intro h; exact absurd h this
    · intro h
      have h2 := List.any_eq_false.1 h y hy
      simp at h2 hp
      exact absurd hp h2
theorem EntOK.take {L : List En} (h : EntOK L) (k : Nat) : EntOK (L.take k) := fun e he => h e (List.mem_of_mem_take he)
theorem ok_of_chk {L : List En} (h : ∀ k, k < L.length → chkEn (L.getD k (0, (0, 0))) = 0) (hw : ∀ e ∈ L, (Lit.int .i64 e.2.1).wf = true) : EntOK L := fun e he => by
  obtain ⟨k, hk, rfl⟩ := List.mem_iff_getElem.1 he
  have := h k hk
  rw [List.getD_eq_getElem?_getD, List.getElem?_eq_getElem hk, Option.getD_some] at this
  exact chk_ok this (hw _ he)
theorem hF_mono {a b : Nat} (h : a ≤ b) : hF a ≤ hF b := by
  unfold hF
  repeat' split
  all_goals omega
theorem hF_max (a b : Nat) : hF (if a < b then b else a) = if hF a < hF b then hF b else hF a := by
  by_cases h : a < b
  · rw [if_pos h]
    have := hF_mono (Nat.le_of_lt h)
    by_cases h2 : hF a < hF b
    · rw [if_pos h2]
    · rw [if_neg h2]; omega
  · rw [if_neg h]
    have := hF_mono (Nat.le_of_not_lt h)
    rw [if_neg (by omega)]
abbrev entV (i v m : Int) : Value := .agg #[.int .i64 i, .int .i64 v, .int .i64 m]
set_option maxHeartbeats 2000000 in
theorem checkEntry_f (i v m : Int) (w : World) : Calls Try.prog 60 #[entV i v m] w (RetG (.int .i64 (chkEn (i, (v, m)))) w) := by
  have X := Own.new w 51 #[.int .i64 i, .int .i64 v, .int .i64 m]
  obtain ⟨x0, x1, x2, x3, x4, x5⟩ := X.three
  have lX := X.lt
  have G := (Grew.refl w).alloc (.cells #[.int .i64 i, .int .i64 v, .int .i64 m] 51)
  by_cases h0 : i < 0
  · have hE : chkEn (i, (v, m)) = 2 := by unfold chkEn rangeI; rw [decide_eq_false (by show ¬(0 ≤ i ∧ i ≤ 255); omega)]
    rw [hE]
    clear hE
    go_enter Try.func60, Try.ntmps60
    go_wp2
    go_ret
    exact ⟨rfl, G⟩
  · by_cases h1 : 255 < i
    · have hE : chkEn (i, (v, m)) = 2 := by unfold chkEn rangeI; rw [decide_eq_false (by show ¬(0 ≤ i ∧ i ≤ 255); omega)]
      rw [hE]
      clear hE
      go_enter Try.func60, Try.ntmps60
      go_wp2
      go_ret
      exact ⟨rfl, G⟩
    · cases hl : leafB 0 v m
      · have hE : chkEn (i, (v, m)) = 1 := by
          unfold chkEn rangeI
          rw [decide_eq_true (by show (0 ≤ i ∧ i ≤ 255); omega)]
          show (match leafB 0 v m with | true => (0 : Int) | false => 1) = 1
          rw [hl]
        rw [hE]
        have HL := Lib.hid hl
        clear hE hl
        go_enter Try.func60, Try.ntmps60
        go_wp2_with fail
        generalize World.alloc w _ = w1 at *
        with_reducible refine (isLeaf_any _ _ _ _ _ _).mono ?_
        rintro e w2 ⟨rfl, g2⟩
        rw [HL.out]
        go_wp2
        go_ret
        exact ⟨rfl, G.trans g2⟩
      · have hE : chkEn (i, (v, m)) = 0 := by
          unfold chkEn rangeI
          rw [decide_eq_true (by show (0 ≤ i ∧ i ≤ 255); omega)]
          show (match leafB 0 v m with | true => (0 : Int) | false => 1) = 0
          rw [hl]
        rw [hE]
        have HL := Lib.hid hl
        clear hE hl
        go_enter Try.func60, Try.ntmps60
        go_wp2_with fail
        generalize World.alloc w _ = w1 at *
        with_reducible refine (isLeaf_any _ _ _ _ _ _).mono ?_
        rintro e w2 ⟨rfl, g2⟩
        rw [HL.out]
        go_wp2
        go_ret
        exact ⟨rfl, G.trans g2⟩
set_option maxHeartbeats 2000000 in
theorem heightFor_p (i : Nat) (w : World) (hi : i < 256) : Calls Try.prog 61 #[.int .i64 i] w (RetG (.int .i64 (hF i : Nat)) w) := by
  have H1 := Lib.hid (hF_lt hi)
  have H2 := Lib.hid (fun q hq => hF_ge (i := i) (q := q) hq)
  have h4 := hF_le i
  have HW := Lib.hid (fun (q : Nat) (w : World) (hq : q ≤ 4) => within_any q (i : Int) w hq (by omega) (by omega))
  generalize hF i = H at *
  go_enter Try.func61, Try.ntmps61
  go_wp2_with fail
  with_reducible refine (pathTo_any (i : Int) _ (by omega) (by omega)).mono ?_
  rintro e w1 ⟨rfl, g1⟩
  have O1 := Own.new w1 82 #[.int .i64 ((i : Int) / 64 % 4), .int .i64 ((i : Int) / 16 % 4), .int .i64 ((i : Int) / 4 % 4), .int .i64 ((i : Int) % 4)]
  have G1 := g1.alloc (.cells #[.int .i64 ((i : Int) / 64 % 4), .int .i64 ((i : Int) / 16 % 4), .int .i64 ((i : Int) / 4 % 4), .int .i64 ((i : Int) % 4)] 82)
  clear g1
  go_wp2_with fail
  generalize World.alloc w1 _ = w2 at *
  generalize w1.heap.size = P at *
  go_loopw [4] (fun t wr => ∃ q : Nat, t = .int .i64 q ∧ q ≤ H ∧ Own wr P 82 #[.int .i64 ((i : Int) / 64 % 4), .int .i64 ((i : Int) / 16 % 4), .int .i64 ((i : Int) / 4 % 4), .int .i64 ((i : Int) % 4)] ∧ Grew w wr) (fun t _ => 5 - (intOf t).toNat)
  case atStart => exact ⟨0, rfl, by omega, O1, G1⟩
  case round =>
    clear O1 G1
    obtain ⟨q, rfl, hq, O, G⟩ := hrel
    obtain ⟨o0, o1, o2, o3, -⟩ := O.four
    have lO := O.lt
    by_cases hlt : q < H
    · have hP := Lib.hid (show inB q (i : Int) = false from decide_eq_false (by have := H2.out q hlt; omega))
      go_wp2_with fail
      with_reducible refine (HW.out q _ (by omega)).mono ?_
      rintro e w3 ⟨rfl, g3⟩
      rw [hP.out]
      have O3 := O.grew g3
      have G3 := G.trans g3
      clear o0 o1 o2 o3 lO O G g3
      go_wp2_with fail
      go_roundw
      case rel => exact ⟨q + 1, by go_num, by omega, O3, G3⟩
      case measure => simp [intOf]; omega
    · have hk : q = H := by omega
      subst hk
      have hP := Lib.hid (show inB q (i : Int) = true from decide_eq_true (by have := H1.out; omega))
      go_wp2_with fail
      with_reducible refine (HW.out q _ (by omega)).mono ?_
      rintro e w3 ⟨rfl, g3⟩
      rw [hP.out]
      go_wp2_with fail
      go_ret
      exact ⟨rfl, G.trans g3⟩
end Go.Proofs.Ytdlhihllmidfeaa
