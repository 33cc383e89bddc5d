/- Lists of streams (layer 6): which one an access belongs to, and what becomes of the list. -/
import Derived.Test.YtfljohgcbihhbaaDoorStD
namespace Go.Proofs.YtfljohgcbihhbaaDoor
open Go.RowKit Go.Mine

theorem maxN_congr {f g : Nat → Str} : ∀ k, (∀ i, i ≤ k → f i = g i) → maxN f k = maxN g k
  | 0, h => h 0 (Nat.le_refl _)
  | k + 1, h => by rw [maxN, maxN, maxN_congr k (fun i hi => h i (by omega)), h (k + 1) (Nat.le_refl _)]
/-- The place of the stream that an access belongs to. -/
def bestO (f : Nat → Str) (a b : Int) : Nat → Option Nat
  | 0 => none
  | k + 1 => match mtcB (f k) a b with
    | false => bestO f a b k
    | true => match bestO f a b k with
      | none => some k
      | some j => if 0 < clmI (f k) (f j) then some k else some j
def maxL (L : List Str) : Str := maxN (fun i => L.getD i zS) (L.length - 1)
theorem maxL_one (x : Str) : maxL [x] = x := rfl
theorem maxL_snoc {L : List Str} (h : L ≠ []) (x : Str) : maxL (L ++ [x]) = if 0 < clmI x (maxL L) then x else maxL L := by
  have hl : L.length ≠ 0 := by simpa using h
  obtain ⟨m, hm⟩ : ∃ m, L.length = m + 1 := ⟨L.length - 1, by omega⟩
  unfold maxL
  rw [List.length_append, List.length_singleton, hm, Nat.add_sub_cancel, Nat.add_sub_cancel, maxN,
    maxN_congr (f := fun i => (L ++ [x]).getD i zS) (g := fun i => L.getD i zS) m (fun i hi => by simp only [List.getD]; rw [List.getElem?_append_left (by omega)])]
  have e : (L ++ [x]).getD (m + 1) zS = x := by simp only [List.getD]; rw [List.getElem?_append_right (by omega), hm]; simp
  rw [e]
theorem best_mt (f : Nat → Str) (a b : Int) : ∀ n, (bestO f a b n = none ∧ mtL f a b n = []) ∨ ∃ j, bestO f a b n = some j ∧ j < n ∧ mtcB (f j) a b = true ∧ mtL f a b n ≠ [] ∧ maxL (mtL f a b n) = f j
  | 0 => .inl ⟨rfl, rfl⟩
  | n + 1 => by
    cases hb : mtcB (f n) a b
    · have e1 : bestO f a b (n + 1) = bestO f a b n := by rw [bestO, hb]
      have e2 : mtL f a b (n + 1) = mtL f a b n := by rw [mtL, hb]
      rw [e1, e2]
      rcases best_mt f a b n with h | ⟨j, h1, h2, h3⟩
      · exact .inl h
      · exact .inr ⟨j, h1, by omega, h3⟩
    · have e2 : mtL f a b (n + 1) = mtL f a b n ++ [f n] := by rw [mtL, hb]
      rw [e2]
      right
      rcases best_mt f a b n with ⟨h1, h2⟩ | ⟨j, h1, h2, h3, h4, h5⟩
      · exact ⟨n, by rw [bestO, hb, h1], by omega, hb, by simp, by rw [h2]; rfl⟩
      · rw [maxL_snoc h4, h5]
        by_cases hc : 0 < clmI (f n) (f j)
        · exact ⟨n, by rw [bestO, hb, h1]; simp [hc], by omega, hb, by simp, by rw [if_pos hc]⟩
        · exact ⟨j, by rw [bestO, hb, h1]; simp [hc], by omega, h3, by simp, by rw [if_neg hc]⟩
def minIx (f : Nat → Str) : Nat → Nat
  | 0 => 0
  | k + 1 => if cmpI (f (k + 1)).t (f (minIx f k)).t < 0 then k + 1 else minIx f k
theorem minIx_le (f : Nat → Str) : ∀ k, minIx f k ≤ k
  | 0 => Nat.le_refl _
  | k + 1 => by have := minIx_le f k; rw [minIx]; split <;> omega
theorem minN_ix (f : Nat → Str) : ∀ k, minN f k = f (minIx f k)
  | 0 => rfl
  | k + 1 => by rw [minN, minIx, minN_ix f k]; split <;> rfl
theorem hasN_f {f : Nat → Str} {t : Int} : ∀ {k : Nat}, hasN f t k = false → ∀ i, i < k → ¬(f i).t = t
  | k + 1, h, i, hi => by
    rw [hasN, Bool.or_eq_false_iff] at h
    by_cases e : i = k
    · subst e; simpa using h.2
    · exact hasN_f h.1 i (by omega)
theorem hasN_t {f : Nat → Str} {t : Int} : ∀ {k : Nat}, (∀ i, i < k → ¬(f i).t = t) → hasN f t k = false
  | 0, _ => rfl
  | k + 1, h => by
    rw [hasN, hasN_t (fun i hi => h i (by omega)), Bool.false_or]
    simpa using h k (by omega)
theorem ck_all {f : Nat → Str} : ∀ {n : Nat}, ckN f n = true → ∀ i, i < n → RgtP (f i) ∧ ∀ j, j < i → ¬(f j).t = (f i).t
  | n + 1, h, i, hi => by
    rw [ckN, Bool.and_eq_true, Bool.and_eq_true, Bool.not_eq_true'] at h
    by_cases e : i = n
    · subst e; exact ⟨rgt_true h.2.1, hasN_f h.2.2⟩
    · exact ck_all h.1 i (by omega)
theorem ck_of {f : Nat → Str} : ∀ {n : Nat}, (∀ i, i < n → RgtP (f i) ∧ ∀ j, j < i → ¬(f j).t = (f i).t) → ckN f n = true
  | 0, _ => rfl
  | n + 1, h => by
    rw [ckN, ck_of (fun i hi => h i (by omega)), Bool.true_and, Bool.and_eq_true, Bool.not_eq_true']
    exact ⟨decide_eq_true (h n (by omega)).1, hasN_t (h n (by omega)).2⟩
theorem mtL_le (f : Nat → Str) (a b : Int) : ∀ n, (mtL f a b n).length ≤ n
  | 0 => by simp [mtL]
  | n + 1 => by
    have := mtL_le f a b n
    rw [mtL]
    split
    · rw [List.length_append]; simp; omega
    · omega
/-- What takes the access, and whose place it takes. -/
def oldS (f : Nat → Str) (n : Nat) (a b : Int) : Str := match bestO f a b n with
  | some j => f j
  | none => if n = 4 then f (minIx f 3) else zS
def preS (f : Nat → Str) (n : Nat) (a b : Int) : Str := match bestO f a b n with
  | some j => becF (f j) a b
  | none => ⟨1, a, b, 0, 0, 0⟩
theorem two6 {a w w' : World} {g0 g1 : Nat} {t : TypeId} {c0 c1 : Array Value} {u0 u1 u2 u3 u4 u5 v0 v1 v2 v3 v4 v5 : Value} (X : Own w g0 t c0) (R : Own w g1 t c1) (G : Grew a w) (h0 : c0.size = 6) (h1 : c1.size = 6) (hne : g0 ≠ g1)
    (a0 : a.heap.size ≤ g0) (a1 : a.heap.size ≤ g1)
    (hw : (((((((((((w.setCell ⟨g0, 0, none⟩ u0).setCell ⟨g0, 1, none⟩ u1).setCell ⟨g0, 2, none⟩ u2).setCell ⟨g0, 3, none⟩ u3).setCell ⟨g0, 4, none⟩ u4).setCell ⟨g0, 5, none⟩ u5).setCell ⟨g1, 0, none⟩ v0).setCell ⟨g1, 1, none⟩ v1).setCell ⟨g1, 2, none⟩ v2).setCell ⟨g1, 3, none⟩ v3).setCell ⟨g1, 4, none⟩ v4).setCell ⟨g1, 5, none⟩ v5 = w') :
    Own w' g0 t #[u0, u1, u2, u3, u4, u5] ∧ Own w' g1 t #[v0, v1, v2, v3, v4, v5] ∧ Grew a w' :=
  ⟨(X.store6 h0 rfl).far6 hw hne, (R.far6 rfl (Ne.symm hne)).store6 h1 hw, (G.far6 rfl a0).far6 hw a1⟩
set_option maxHeartbeats 1000000 in
theorem change_any (a : Option Addr) (n cp : Nat) (f : Nat → Str) (x y : Int) (w : World) (hn : n ≤ 4) (hr : Rd w a n f) (hm : ∀ k, k < n → Mild (f k)) :
    Calls Tryd.prog 40 #[.slice a n cp, .int .i64 x, .int .i64 y] w (RetG (.tuple #[strV (preS f n x y), strV (oldS f n x y)]) w) := by
  have HR := Lib.hid hr
  have HM := Lib.hid hm
  clear hr hm
  go_enter Tryd.func40, Tryd.ntmps40
  go_upto_region 1 with fail
  have gA : Grew w ((w.alloc (.cells z6 29)).alloc (.cells z6 29)) := ((Grew.refl w).alloc _).alloc _
  have X := (Own.new w 29 z6).alloc (.cells z6 29)
  have R := Own.new2 w (.cells z6 29) 29 z6
  generalize World.alloc (World.alloc w _) _ = w0 at *
  go_wp2_with fail
  with_reducible refine (matchingOf_any _ _ _ _ _ _ _ (by omega) (HR.out.grew gA) HM.out).mono ?_
  rintro e w1 ⟨v, rfl, M, g1⟩
  have HMT := Lib.hid (best_mt f x y n)
  replace X := X.grew g1
  replace R := R.grew g1
  replace gA := gA.trans g1
  clear g1
  obtain ⟨X0, X1, X2, X3, X4, X5, X6, X7, X8, X9, X10, X11⟩ := X.sixA
  obtain ⟨R0, R1, R2, R3, R4, R5, R6, R7, R8, R9, R10, R11⟩ := R.sixA
  have l_X := X.lt
  have l_R := R.lt
  rcases HMT.out with ⟨b1, b2⟩ | ⟨j, b1, b2, b3, b4, b5⟩
  · rw [b2] at M
    obtain ⟨aM, cM, rfl, rM⟩ := M.rd
    by_cases h4 : n = 4
    · subst h4
      have HP := Lib.hid (show preS f 4 x y = ⟨1, x, y, 0, 0, 0⟩ from by rw [preS, b1])
      have HO := Lib.hid (show oldS f 4 x y = f (minIx f 3) from by rw [oldS, b1]; rfl)
      clear b1 b2 M rM HMT
      go_wp2_with fail
      with_reducible refine (minFunc_any _ _ _ _ _ (by omega) (by omega) (HR.out.grew gA)).mono ?_
      rw [show 4 - 1 = 3 from rfl, minN_ix, ← HO.out, HP.out]
      generalize hz : oldS f 4 x y = z
      have HZ := Lib.hid hz
      clear hz
      rintro e w2 ⟨rfl, g2⟩
      replace X := X.grew g2
      replace R := R.grew g2
      replace gA := gA.trans g2
      clear g2 l_X l_R
      clear X0 X1 X2 X3 X4 X5 X6 X7 X8 X9 X10 X11 R0 R1 R2 R3 R4 R5 R6 R7 R8 R9 R10 R11
      obtain ⟨X0, X1, X2, X3, X4, X5, X6, X7, X8, X9, X10, X11⟩ := X.sixA
      obtain ⟨R0, R1, R2, R3, R4, R5, R6, R7, R8, R9, R10, R11⟩ := R.sixA
      have l_X := X.lt
      have l_R := R.lt
      go_upto_region 8 with fail
      generalize hw : World.setCell _ _ _ = w3
      replace R := R.store6 rfl hw
      replace X := X.far6 hw (by omega)
      replace gA := gA.far6 hw (by omega)
      clear hw l_X l_R
      clear X0 X1 X2 X3 X4 X5 X6 X7 X8 X9 X10 X11 R0 R1 R2 R3 R4 R5 R6 R7 R8 R9 R10 R11
      obtain ⟨X0, X1, X2, X3, X4, X5, X6, X7, X8, X9, X10, X11⟩ := X.sixA
      obtain ⟨R0, R1, R2, R3, R4, R5, R6, R7, R8, R9, R10, R11⟩ := R.sixA
      have l_X := X.lt
      have l_R := R.lt
      go_region
      all_goals go_wp2
      all_goals
        generalize hw : World.setCell _ _ _ = wz
        obtain ⟨X, R, gA⟩ := two6 X R gA rfl rfl (by omega) (by omega) (by omega) hw
        clear hw X0 X1 X2 X3 X4 X5 X6 X7 X8 X9 X10 X11 R0 R1 R2 R3 R4 R5 R6 R7 R8 R9 R10 R11
        obtain ⟨X0, X1, X2, X3, X4, X5, X6, X7, X8, X9, X10, X11⟩ := X.sixA
        obtain ⟨R0, R1, R2, R3, R4, R5, R6, R7, R8, R9, R10, R11⟩ := R.sixA
        refine bodyPost_ret (v := .tuple #[strV ⟨1, x, y, 0, 0, 0⟩, strV z]) (by simp [results, Tryd.results40, go_sem, X0, X1, X2, X3, X4, X5, R0, R1, R2, R3, R4, R5]) rfl ⟨ret_val (by rw [HP.out, HZ.out]), gA.drew⟩
    · have HP := Lib.hid (show preS f n x y = ⟨1, x, y, 0, 0, 0⟩ from by rw [preS, b1])
      have HO := Lib.hid (show oldS f n x y = zS from by rw [oldS, b1]; simp [h4])
      rw [HP.out, HO.out]
      clear b1 b2 M rM HMT
      have h4' : (n : Int) < 4 := by omega
      go_upto_region 8 with fail
      go_region
      all_goals go_wp2
      all_goals
        generalize hw : World.setCell _ _ _ = wz
        obtain ⟨X, R, gA⟩ := two6 X R gA rfl rfl (by omega) (by omega) (by omega) hw
        clear hw X0 X1 X2 X3 X4 X5 X6 X7 X8 X9 X10 X11 R0 R1 R2 R3 R4 R5 R6 R7 R8 R9 R10 R11
        obtain ⟨X0, X1, X2, X3, X4, X5, X6, X7, X8, X9, X10, X11⟩ := X.sixA
        obtain ⟨R0, R1, R2, R3, R4, R5, R6, R7, R8, R9, R10, R11⟩ := R.sixA
        refine bodyPost_ret (v := .tuple #[strV ⟨1, x, y, 0, 0, 0⟩, strV ⟨0, 0, 0, 0, 0, 0⟩]) (by simp [results, Tryd.results40, go_sem, X0, X1, X2, X3, X4, X5, R0, R1, R2, R3, R4, R5]) rfl ⟨ret_val (by rw [HP.out, HO.out]; rfl), gA.drew⟩
  · have HP := Lib.hid (show preS f n x y = becF (f j) x y from by rw [preS, b1])
    have HO := Lib.hid (show oldS f n x y = f j from by rw [oldS, b1])
    have hMj := Lib.hid (HM.out j b2)
    have M1 := Lib.hid b4
    have M5 := Lib.hid b5
    have M3 := Lib.hid b3
    rw [HP.out, HO.out]
    clear b1 b2 b3 b4 b5 HMT
    obtain ⟨aM, cM, rfl, rM⟩ := M.rd
    have hlen : 1 ≤ (mtL f x y n).length := by have := M1.out; cases h : mtL f x y n with | nil => exact absurd h this | cons => simp
    have hlen2 : (mtL f x y n).length ≤ 1000000 := by have := mtL_le f x y n; omega
    have HRM := Lib.hid rM
    clear rM M
    obtain ⟨q, hq⟩ : ∃ q, (mtL f x y n).length = q := ⟨_, rfl⟩
    have HQ := Lib.hid hq
    rw [hq] at hlen hlen2 HRM ⊢
    clear hq
    go_wp2_with fail
    with_reducible refine (maxFunc_any _ _ _ _ _ hlen2 hlen HRM.out).mono ?_
    rw [show maxN (fun k => (mtL f x y n).getD k zS) (q - 1) = f j from by rw [← M5.out, ← HQ.out]; rfl]
    generalize f j = z at *
    rintro e w2 ⟨rfl, g2⟩
    replace X := X.grew g2
    replace R := R.grew g2
    replace gA := gA.trans g2
    clear g2 l_X l_R
    clear X0 X1 X2 X3 X4 X5 X6 X7 X8 X9 X10 X11 R0 R1 R2 R3 R4 R5 R6 R7 R8 R9 R10 R11
    obtain ⟨X0, X1, X2, X3, X4, X5, X6, X7, X8, X9, X10, X11⟩ := X.sixA
    obtain ⟨R0, R1, R2, R3, R4, R5, R6, R7, R8, R9, R10, R11⟩ := R.sixA
    have l_X := X.lt
    have l_R := R.lt
    go_wp2_with fail
    generalize hw : World.setCell _ _ _ = w3
    replace R := R.store6 rfl hw
    replace X := X.far6 hw (by omega)
    replace gA := gA.far6 hw (by omega)
    clear hw l_X l_R
    clear X0 X1 X2 X3 X4 X5 X6 X7 X8 X9 X10 X11 R0 R1 R2 R3 R4 R5 R6 R7 R8 R9 R10 R11
    obtain ⟨X0, X1, X2, X3, X4, X5, X6, X7, X8, X9, X10, X11⟩ := X.sixA
    obtain ⟨R0, R1, R2, R3, R4, R5, R6, R7, R8, R9, R10, R11⟩ := R.sixA
    have l_X := X.lt
    have l_R := R.lt
    with_reducible refine (matches_any _ _ _ _ hMj.out).mono ?_
    rintro e w4 ⟨rfl, g2⟩
    replace X := X.grew g2
    replace R := R.grew g2
    replace gA := gA.trans g2
    clear g2 l_X l_R
    clear X0 X1 X2 X3 X4 X5 X6 X7 X8 X9 X10 X11 R0 R1 R2 R3 R4 R5 R6 R7 R8 R9 R10 R11
    obtain ⟨X0, X1, X2, X3, X4, X5, X6, X7, X8, X9, X10, X11⟩ := X.sixA
    obtain ⟨R0, R1, R2, R3, R4, R5, R6, R7, R8, R9, R10, R11⟩ := R.sixA
    have l_X := X.lt
    have l_R := R.lt
    have HP2 := Lib.hid HP.out
    generalize becF z x y = y2 at *
    generalize mtcB z x y = y3 at *
    go_upto_region 5 with fail
    generalize hw : World.setCell _ _ _ = w5
    replace X := X.store6 rfl hw
    replace R := R.far6 hw (by omega)
    replace gA := gA.far6 hw (by omega)
    clear hw l_X l_R
    clear X0 X1 X2 X3 X4 X5 X6 X7 X8 X9 X10 X11 R0 R1 R2 R3 R4 R5 R6 R7 R8 R9 R10 R11
    obtain ⟨X0, X1, X2, X3, X4, X5, X6, X7, X8, X9, X10, X11⟩ := X.sixA
    obtain ⟨R0, R1, R2, R3, R4, R5, R6, R7, R8, R9, R10, R11⟩ := R.sixA
    have l_X := X.lt
    have l_R := R.lt
    go_region
    all_goals go_wp2
    all_goals
      generalize hw : World.setCell _ _ _ = wz
      obtain ⟨X, R, gA⟩ := two6 X R gA rfl rfl (by omega) (by omega) (by omega) hw
      clear hw X0 X1 X2 X3 X4 X5 X6 X7 X8 X9 X10 X11 R0 R1 R2 R3 R4 R5 R6 R7 R8 R9 R10 R11
      obtain ⟨X0, X1, X2, X3, X4, X5, X6, X7, X8, X9, X10, X11⟩ := X.sixA
      obtain ⟨R0, R1, R2, R3, R4, R5, R6, R7, R8, R9, R10, R11⟩ := R.sixA
      refine bodyPost_ret (v := .tuple #[strV y2, strV z]) (by simp [results, Tryd.results40, go_sem, X0, X1, X2, X3, X4, X5, R0, R1, R2, R3, R4, R5]) rfl ⟨ret_val (by rw [HP.out, HO.out]), gA.drew⟩
end Go.Proofs.YtfljohgcbihhbaaDoor
