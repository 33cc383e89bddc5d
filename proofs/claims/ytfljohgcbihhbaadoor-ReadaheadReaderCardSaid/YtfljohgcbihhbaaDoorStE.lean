/- Package stream: Feed (layer 6): its contract. -/
import Derived.Test.YtfljohgcbihhbaaDoorStN
namespace Go.Proofs.YtfljohgcbihhbaaDoor
open Go.RowKit Go.Mine

section
variable {T : TypeId} {w w' : World} {B g c n : Nat}
theorem list_split {α : Type} : ∀ (L : List α) (j : Nat), j < L.length → ∃ A x C, L = A ++ x :: C ∧ A.length = j
  | x :: L, 0, _ => ⟨[], x, L, rfl, rfl⟩
  | x :: L, j + 1, h => by
    obtain ⟨A, y, C, e, h2⟩ := list_split L j (by simpa using h)
    exact ⟨x :: A, y, C, by rw [e]; rfl, by simp [h2]⟩
theorem fm6_set (L : List Str) (j : Nat) (y : Str) (h : j < L.length) : ((((((L.flatMap encS).set (j * 6) (.int .i64 y.k)).set (j * 6 + 1) (.int .i64 y.a)).set (j * 6 + 2) (.int .i64 y.b)).set (j * 6 + 3) (.int .i64 y.d)).set (j * 6 + 4) (.int .i64 y.h)).set (j * 6 + 5) (.int .i64 y.t) = (L.set j y).flatMap encS := by
  obtain ⟨A, x, C, rfl, rfl⟩ := list_split L j h
  have hA : (A.flatMap encS).length = A.length * 6 := fm_len encS_len A
  have e : (A ++ x :: C).flatMap encS = A.flatMap encS ++ (encS x ++ C.flatMap encS) := by rw [List.flatMap_append, List.flatMap_cons]
  have s : ∀ (M : List Value) (r : Nat) (u : Value), (A.flatMap encS ++ M).set (A.length * 6 + r) u = A.flatMap encS ++ M.set r u := fun M r u => by
    rw [List.set_append_right _ _ (by rw [hA]; omega), hA, Nat.add_sub_cancel_left]
  have s0 := s (encS x ++ C.flatMap encS) 0 (.int .i64 y.k)
  rw [Nat.add_zero] at s0
  rw [e, s0, s, s, s, s, s, List.set_append_right _ _ (Nat.le_refl _), Nat.sub_self]
  rw [show (x :: C).set 0 y = y :: C from rfl, List.flatMap_append, List.flatMap_cons]
  rfl
theorem RowE.storeS {L : List Str} (h : RowE T 6 encS w B (.slice (some ⟨g, 0, none⟩) n c) L) (j : Nat) (y : Str) (hj : j < L.length)
    (hw : (((((w.setCell ⟨g, j * 6, none⟩ (.int .i64 y.k)).setCell ⟨g, j * 6 + 1, none⟩ (.int .i64 y.a)).setCell ⟨g, j * 6 + 2, none⟩ (.int .i64 y.b)).setCell ⟨g, j * 6 + 3, none⟩ (.int .i64 y.d)).setCell ⟨g, j * 6 + 4, none⟩ (.int .i64 y.h)).setCell ⟨g, j * 6 + 5, none⟩ (.int .i64 y.t) = w') :
    RowE T 6 encS w' B (.slice (some ⟨g, 0, none⟩) n c) (L.set j y) := by
  obtain rfl : n = L.length := by obtain ⟨a, c, e⟩ := h.len; injection e
  have k := (World.ownsRow.stored (World.ownsRow.stored (World.ownsRow.stored (World.ownsRow.stored (World.ownsRow.stored (World.ownsRow.stored h (j * 6) (.int .i64 y.k)).1 (j * 6 + 1) (.int .i64 y.a)).1 (j * 6 + 2) (.int .i64 y.b)).1 (j * 6 + 3) (.int .i64 y.d)).1 (j * 6 + 4) (.int .i64 y.h)).1 (j * 6 + 5) (.int .i64 y.t)).1
  rw [fm6_set L j y hj, hw] at k
  unfold RowE
  rw [List.length_set]
  exact k
theorem Grew.far6j {a w w' : World} {b j : Nat} {u v x y z s : Value} (h : Grew a w)
    (hw : (((((w.setCell ⟨b, j * 6, none⟩ u).setCell ⟨b, j * 6 + 1, none⟩ v).setCell ⟨b, j * 6 + 2, none⟩ x).setCell ⟨b, j * 6 + 3, none⟩ y).setCell ⟨b, j * 6 + 4, none⟩ z).setCell ⟨b, j * 6 + 5, none⟩ s = w') (hb : a.heap.size ≤ b) : Grew a w' := by
  rw [← hw]
  exact (((((h.set (p := ⟨b, j * 6, none⟩) hb u).set (p := ⟨b, j * 6 + 1, none⟩) hb v).set (p := ⟨b, j * 6 + 2, none⟩) hb x).set (p := ⟨b, j * 6 + 3, none⟩) hb y).set (p := ⟨b, j * 6 + 4, none⟩) hb z).set (p := ⟨b, j * 6 + 5, none⟩) hb s
theorem RowE.free {L : List Str} (h : RowE T 6 encS w B (.slice (some ⟨g, 0, none⟩) n c) L) : ∀ j, w.frozen? ⟨g, j, none⟩ = false := by
  obtain rfl : n = L.length := by obtain ⟨a, c, e⟩ := h.len; injection e
  exact World.ownsRow.frozenAt h
end
/-- Where the access goes: the place, or none (at the end). -/
def slotO (f : Nat → Str) (n : Nat) (a b : Int) : Option Nat := match bestO f a b n with
  | some j => some j
  | none => if n = 4 then some (minIx f 3) else none
def newS (f : Nat → Str) (n : Nat) (a b : Int) : Str := ⟨(preS f n a b).k, (preS f n a b).a, (preS f n a b).b, (preS f n a b).d, (preS f n a b).h, lastN f n + 1⟩
def fdL (f : Nat → Str) (n : Nat) (a b : Int) : List Str := if errF f n a b = 0 then (match slotO f n a b with
  | some j => (lsF f n).set j (newS f n a b)
  | none => lsF f n ++ [newS f n a b]) else lsF f n
def fdI (f : Nat → Str) (n : Nat) (a b : Int) : Int := if errF f n a b = 0 then (match slotO f n a b with
  | some j => j
  | none => n) else 0
def RetFd (f : Nat → Str) (n : Nat) (a b : Int) (w : World) (e : Ending) (w' : World) : Prop :=
  ∃ v, e = .returned (.tuple #[v, .int .i64 (fdI f n a b), .int .i64 (errF f n a b)]) ∧ RowN 29 w' w.heap.size v (fdL f n a b) ∧ Grew w w'
theorem err_ok {f : Nat → Str} {n : Nat} {a b : Int} (h : errF f n a b = 0) : chkB f n = true ∧ accB a b = true ∧ ¬lastN f n = 1000000 := by
  unfold errF at h
  cases h1 : chkB f n <;> simp only [h1] at h
  · omega
  · cases h2 : accB a b <;> simp only [h2] at h
    · omega
    · split at h
      · omega
      · exact ⟨rfl, rfl, by assumption⟩
theorem last_nn (f : Nat → Str) : ∀ n, 0 ≤ lastN f n
  | 0 => Int.le_refl _
  | n + 1 => by have := last_nn f n; rw [lastN]; split <;> omega
theorem last_le {f : Nat → Str} : ∀ {n : Nat}, ckN f n = true → lastN f n ≤ 1000000
  | 0, _ => by show (0 : Int) ≤ 1000000; decide
  | n + 1, h => by
    have h1 := (ck_all h n (by omega)).1.2.2.2.2.1
    rw [ckN, Bool.and_eq_true] at h
    have := last_le h.1
    rw [lastN]; split <;> omega
theorem feed_err (a : Option Addr) (n cp : Nat) (f : Nat → Str) (x y : Int) (w : World) (hn : n ≤ 1000000) (hc : n ≤ cp) (hcp : cp ≤ maxLen) (hr : Rd w a n f) (hz : n = 0 → a = none ∧ cp = 0) (hm : ∀ k, k < n → Mild (f k)) (he : ¬errF f n x y = 0) :
    Calls Tryd.prog 21 #[.slice a n cp, .int .i64 x, .int .i64 y] w (RetFd f n x y w) := by
  have HR := Lib.hid hr
  have HM := Lib.hid hm
  have HZ := Lib.hid hz
  have HL := Lib.hid (show fdL f n x y = lsF f n from by rw [fdL, if_neg he])
  have HI := Lib.hid (show fdI f n x y = 0 from by rw [fdI, if_neg he])
  have e0 : (errF f n x y != 0) = true := by simpa [bne] using he
  have HE := Lib.hid he
  clear hr hm hz he
  go_enter Tryd.func21, Tryd.ntmps21
  go_wp2_with fail
  with_reducible refine (clone_any _ _ _ _ _ hn HR.out HZ.out).mono ?_
  rintro e w1 ⟨v, rfl, R, g1⟩
  have R1 := Lib.hid R
  clear R
  go_wp2_with fail
  with_reducible refine (checkFeed_any _ _ _ _ _ _ _ hn hc hcp (HR.out.grew g1) HM.out).mono ?_
  rintro e w2 ⟨rfl, g2⟩
  have R2 := R1.out.grew g2
  go_wp2
  refine bodyPost_ret (v := .tuple #[v, .int .i64 0, .int .i64 (errF f n x y)]) (by simp [results, Tryd.results21, go_sem]) rfl ⟨v, by rw [HI.out], by rw [HL.out]; exact R2, g1.trans g2⟩
theorem checkFeed_v (a : Option Addr) (n cp : Nat) (f : Nat → Str) (x y : Int) (w : World) (hn : n ≤ 1000000) (hc : n ≤ cp) (hcp : cp ≤ maxLen) (hr : Rd w a n f) (hm : ∀ k, k < n → Mild (f k)) (he : errF f n x y = 0) :
    Calls Tryd.prog 39 #[.slice a n cp, .int .i64 x, .int .i64 y] w (RetG (.int .i64 0) w) := he ▸ checkFeed_any a n cp f x y w hn hc hcp hr hm
theorem change_v (a : Option Addr) (n cp : Nat) (f : Nat → Str) (x y : Int) (w : World) (hn : n ≤ 4) (hr : Rd w a n f) (hm : ∀ k, k < n → Mild (f k)) (p o : Str) (hp : preS f n x y = p) (ho : oldS f n x y = o) :
    Calls Tryd.prog 40 #[.slice a n cp, .int .i64 x, .int .i64 y] w (RetG (.tuple #[strV p, strV o]) w) := hp ▸ ho ▸ change_any a n cp f x y w hn hr hm
theorem lastStamp_v (a : Option Addr) (n cp : Nat) (f : Nat → Str) (w : World) (hn : n ≤ 1000000) (hr : Rd w a n f) (t : Int) (h : lastN f n = t) :
    Calls Tryd.prog 41 #[.slice a n cp] w (RetG (.int .i64 t) w) := h ▸ lastStamp_any a n cp f w hn hr
set_option maxHeartbeats 1000000 in
theorem feed_ok (a : Option Addr) (n cp : Nat) (f : Nat → Str) (x y : Int) (w : World) (hc : n ≤ cp) (hcp : cp ≤ maxLen) (hr : Rd w a n f) (hz : n = 0 → a = none ∧ cp = 0) (hm : ∀ k, k < n → Mild (f k)) (he : errF f n x y = 0) :
    Calls Tryd.prog 21 #[.slice a n cp, .int .i64 x, .int .i64 y] w (RetFd f n x y w) := by
  have HR := Lib.hid hr
  have HM := Lib.hid hm
  have HZ := Lib.hid hz
  have HE := Lib.hid he
  obtain ⟨k1, k2, k3⟩ := err_ok he
  have hn : n ≤ 4 := by have := k1; unfold chkB at this; rw [Bool.and_eq_true] at this; exact of_decide_eq_true this.1
  have hck : ckN f n = true := by have := k1; unfold chkB at this; rw [Bool.and_eq_true] at this; exact this.2
  have HCK := Lib.hid (ck_all hck)
  have t0 := last_nn f n
  have t1 : lastN f n < 1000000 := by have := last_le hck; omega
  obtain ⟨p, hp⟩ : ∃ p, preS f n x y = p := ⟨_, rfl⟩
  obtain ⟨o, ho⟩ : ∃ o, oldS f n x y = o := ⟨_, rfl⟩
  obtain ⟨t, ht⟩ : ∃ t, lastN f n = t := ⟨_, rfl⟩
  have HNS := Lib.hid (show newS f n x y = ⟨p.k, p.a, p.b, p.d, p.h, t + 1⟩ from by rw [newS, hp, ht])
  have HS : Hid ((slotO f n x y = none ∧ o = zS) ∨ ∃ j, slotO f n x y = some j ∧ j < n ∧ f j = o) := Lib.hid (by
    rw [← ho]
    unfold slotO oldS
    rcases best_mt f x y n with ⟨b1, -⟩ | ⟨j, b1, b2, -⟩
    · rw [b1]
      by_cases h4 : n = 4
      · right; have := minIx_le f 3; exact ⟨minIx f 3, by simp [h4], by omega, by simp [h4]⟩
      · left; simp [h4]
    · right; exact ⟨j, by rw [b1], b2, by rw [b1]⟩)
  have HP := Lib.hid hp
  have HO := Lib.hid ho
  have HT := Lib.hid ht
  rw [ht] at t0 t1
  clear hr hm hz he k1 k2 k3 hck hp ho ht
  go_enter Tryd.func21, Tryd.ntmps21
  go_wp2_with fail
  with_reducible refine (clone_any _ _ _ _ _ (by omega) HR.out HZ.out).mono ?_
  rintro e w1 ⟨v, rfl, R, g1⟩
  have R1 := Lib.hid R
  clear R
  go_wp2_with fail
  with_reducible refine (checkFeed_v _ _ _ _ _ _ _ (by omega) hc hcp (HR.out.grew g1) HM.out HE.out).mono ?_
  rintro e w2 ⟨rfl, g2⟩
  have G2 := g1.trans g2
  go_wp2_with fail
  with_reducible refine (change_v _ _ _ _ _ _ _ hn (HR.out.grew G2) HM.out p o HP.out HO.out).mono ?_
  rintro e w3 ⟨rfl, g3⟩
  have R3 := Lib.hid ((R1.out.grew g2).grew g3)
  have G3 := G2.trans g3
  clear g1 g2 g3 R1 G2
  go_upto_region 6 with fail
  have X := (Own.new w3 29 (csS p)).alloc (.cells (csS o) 29)
  have Y := Own.new2 w3 (.cells (csS p) 29) 29 (csS o)
  have g4 : Grew w3 ((w3.alloc (.cells (csS p) 29)).alloc (.cells (csS o) 29)) := ((Grew.refl w3).alloc _).alloc _
  generalize World.alloc (World.alloc w3 _) _ = w4 at *
  have HB := Lib.hid (R3.out.1.lt)
  have R4 := Lib.hid (R3.out.grew g4)
  have G4 := G3.trans g4
  have s3 := G3.size
  clear R3
  go_wp2_with fail
  with_reducible refine (lastStamp_v _ _ _ _ _ (by omega) (HR.out.grew G4) t HT.out).mono ?_
  rintro e w5 ⟨rfl, g5⟩
  have R5 := Lib.hid (R4.out.grew g5)
  have G5 := G4.trans g5
  replace X := X.grew g5
  replace Y := Y.grew g5
  clear g4 g5 R4 w4 G4
  obtain ⟨X0, X1, X2, X3, X4, X5, X6, X7, X8, X9, X10, X11⟩ := X.sixA
  go_upto_region 7 with fail
  generalize hw : World.setCell _ _ _ = w6
  have hs5 := G5.size
  have l_X := X.lt
  have l_Y := Y.lt
  replace X : Own w6 w3.heap.size 29 (csS ⟨p.k, p.a, p.b, p.d, p.h, t + 1⟩) := hw ▸ X.set 5 (.int .i64 (t + 1))
  replace Y : Own w6 (w3.heap.size + 1) 29 (csS o) := hw ▸ Y.far (p := ⟨w3.heap.size, 5, none⟩) (by dsimp only; omega) (.int .i64 (t + 1))
  have R6 : RowN 29 w6 w.heap.size v (lsF f n) := ⟨hw ▸ R5.out.1.set (p := ⟨w3.heap.size, 5, none⟩) (fun e => by have := HB.out _ e; dsimp only at this; omega) (.int .i64 (t + 1)), R5.out.2⟩
  have G6 : Grew w w6 := hw ▸ G5.set (p := ⟨w3.heap.size, 5, none⟩) s3 (.int .i64 (t + 1))
  clear hw R5 G5 G3 X0 X1 X2 X3 X4 X5 X6 X7 X8 X9 X10 X11 l_X l_Y hs5
  have hs6 := G6.size
  have l_X := X.lt
  have l_Y := Y.lt
  obtain ⟨X0, X1, X2, X3, X4, X5⟩ := X.six
  rcases HS.out with ⟨hs1, hoz⟩ | ⟨j, hs1, hj, hfj⟩
  · have HI := Lib.hid (show fdI f n x y = n from by rw [fdI, if_pos HE.out, hs1])
    have HL := Lib.hid (show fdL f n x y = lsF f n ++ [⟨p.k, p.a, p.b, p.d, p.h, t + 1⟩] from by rw [fdL, if_pos HE.out, hs1, HNS.out])
    have Y' : Own w6 (w3.heap.size + 1) 29 z6 := by rw [hoz] at Y; exact Y
    have R7 := Lib.hid R6
    have HA := Lib.hid R6.1.above
    have hlen : (lsF f n).length < 1000000 := by rw [lsF_len]; omega
    have HLN := Lib.hid hlen
    clear R6 hs1 hoz HS Y hlen
    obtain ⟨Y0, Y1, Y2, Y3, Y4, Y5⟩ := Y'.six
    go_wp2_with (at_builtin; go_loud (refine wpList_append_row _ rfl (.tmp 38) (.tmp 40) 26 rfl w.heap.size info_S und_S (by decide) (by decide) encS_len v (lsF f n) rfl (R7.out.1.alloc _) _ _ ⟨p.k, p.a, p.b, p.d, p.h, t + 1⟩ rfl (Own.new _ _ _) encS_one HLN.out (by decide) (by simp; omega) ?_; intro g8 cap w8 R8 G8 o8))
    refine bodyPost_ret (v := .tuple #[.slice (some ⟨g8, 0, none⟩) ((lsF f n).length + 1) cap, .int .i64 n, .int .i64 0]) (by simp [results, Tryd.results21, go_sem]) rfl ⟨_, by rw [HI.out, HE.out], ⟨by rw [HL.out]; exact R8, fun e => by rw [HL.out] at e; simp at e⟩, ?_⟩
    exact Grew.keptA (G6.alloc _) G8 (fun y e => HA.out y e) (Nat.le_refl _)
  · have HI := Lib.hid (show fdI f n x y = j from by rw [fdI, if_pos HE.out, hs1])
    have HL := Lib.hid (show fdL f n x y = (lsF f n).set j ⟨p.k, p.a, p.b, p.d, p.h, t + 1⟩ from by rw [fdL, if_pos HE.out, hs1, HNS.out])
    have e0 : (o.k == 0) = false := by
      have := (HCK.out j hj).1.2.2.2.2.2.2
      rw [hfj] at this
      have : ¬o.k = 0 := by rcases this with h | h <;> omega
      simpa using this
    have hne := Lib.hid (show ∀ i, i < j → ¬o.t = (f i).t from fun i hi e => (HCK.out j hj).2 i hi (by rw [← e, hfj]))
    have HF := Lib.hid hfj
    obtain ⟨av, cv, rfl, rv, hlc, -, -⟩ := R6.rd
    rw [lsF_len] at rv hlc R6 ⊢
    obtain ⟨gv, rfl, hgv, hev⟩ := rv j hj
    replace hev : ElS w6 gv j o := by rw [← (lsF_get f n j hj).trans hfj]; exact hev
    have hgB : w.heap.size ≤ gv := R6.1.above gv rfl
    have R7 := Lib.hid R6
    clear hs1 hfj HS rv R6
    obtain ⟨Y0, Y1, Y2, Y3, Y4, Y5⟩ := Y.six
    go_wp2_with fail
    with_reducible refine (index_any _ _ _ _ _ j _ (by omega) (HR.out.grew G6) hj HF.out hne.out).mono ?_
    rintro e w7 ⟨rfl, g7⟩
    have R8 := Lib.hid (R7.out.grew g7)
    have G7 := G6.trans g7
    obtain ⟨p0, p1, p2, p3, p4, p5⟩ := hev.grew g7 hgv
    have HFr := RowE.free R8.out.1
    have f0 := HFr (j * 6)
    have f1 := HFr (j * 6 + 1)
    have f2 := HFr (j * 6 + 2)
    have f3 := HFr (j * 6 + 3)
    have f4 := HFr (j * 6 + 4)
    have f5 := HFr (j * 6 + 5)
    replace X := X.grew g7
    clear HFr hev g7 X0 X1 X2 X3 X4 X5 Y0 Y1 Y2 Y3 Y4 Y5 Y
    obtain ⟨X0, X1, X2, X3, X4, X5⟩ := X.six
    go_wp2
    generalize hw : World.setCell _ _ _ = w8
    have R9 := RowE.storeS R8.out.1 j ⟨p.k, p.a, p.b, p.d, p.h, t + 1⟩ (by rw [lsF_len]; exact hj) hw
    have G9 := Go.Proofs.YtfljohgcbihhbaaDoor.Grew.far6j G7 hw hgB
    refine bodyPost_ret (v := .tuple #[.slice (some ⟨gv, 0, none⟩) n cv, .int .i64 j, .int .i64 0]) (by simp [results, Tryd.results21, go_sem]) rfl ⟨_, by rw [HI.out, HE.out], ⟨by rw [HL.out]; exact R9, fun e => ?_⟩, G9⟩
    rw [HL.out] at e
    have := congrArg List.length e
    rw [List.length_set, lsF_len] at this
    simp at this
    omega
theorem feed_any (a : Option Addr) (n cp : Nat) (f : Nat → Str) (x y : Int) (w : World) (hn : n ≤ 1000000) (hc : n ≤ cp) (hcp : cp ≤ maxLen) (hr : Rd w a n f) (hz : n = 0 → a = none ∧ cp = 0) (hm : ∀ k, k < n → Mild (f k)) :
    Calls Tryd.prog 21 #[.slice a n cp, .int .i64 x, .int .i64 y] w (RetFd f n x y w) := by
  by_cases he : errF f n x y = 0
  · exact feed_ok a n cp f x y w hc hcp hr hz hm he
  · exact feed_err a n cp f x y w hn hc hcp hr hz hm he
end Go.Proofs.YtfljohgcbihhbaaDoor
