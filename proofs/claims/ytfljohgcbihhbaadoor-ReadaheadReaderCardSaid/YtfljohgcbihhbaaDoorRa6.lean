/- Package readahead: Plan (layer 7): its contract. -/
import Derived.Test.YtfljohgcbihhbaaDoorRa5
namespace Go.Proofs.YtfljohgcbihhbaaDoor
open Go.RowKit Go.Mine

/-- What Plan answers. -/
def plW (x : Wn) (s : Str) (a b e : Int) : Wn := if plE x s a b e = 0 ∧ sureB s = true ∧ s.k = 2 then pl2W x a b e else zW
def plL (x : Wn) (s : Str) (a b e : Int) : List Int := if plE x s a b e = 0 ∧ sureB s = true then (if s.k = 2 then pl2L x a b e else kpL e (prF s (firF (b - a)))) else []
def RetPl (z : Wn) (L : List Int) (er : Int) (w : World) (e' : Ending) (w' : World) : Prop := ∃ v, e' = .returned (.tuple #[wnV z, v, .int .i64 er]) ∧ RowE 3 1 enc1 w' w.heap.size v L ∧ Grew w w'
theorem sure_q {v : Bool} (x : Str) (w : World) (hm : Mild x) (h : sureB x = v) : Calls Tryd.prog 22 #[strV x] w (RetG (.bool v) w) := h ▸ sure_any x w hm
theorem predict_q {L : List Int} (x : Str) (n : Int) (w : World) (hm : Mild x) (h : prF x n = L) : Calls Tryd.prog 28 #[strV x, .int .i64 n] w (RetI1 L w) := h ▸ predict_any x n w hm
theorem pagesOf_q {L : List Int} (x : Wn) (w : World) (h0 : 0 ≤ x.s) (h1 : x.s ≤ 1000) (h2 : 0 ≤ x.n) (h3 : x.n ≤ 8) (h : pgsL x = L) : Calls Tryd.prog 30 #[wnV x] w (RetI1 L w) := h ▸ pagesOf_any x w h0 h1 h2 h3
theorem before_q {L K : List Int} {B : Nat} (e : Int) (v : Value) (w : World) (R : RowE 3 1 enc1 w B v L) (hl : L.length ≤ 100000) (h : kpL e L = K) :
    Calls Tryd.prog 27 #[.int .i64 e, v] w (fun e' w' => ∃ u, e' = .returned u ∧ RowE 3 1 enc1 w' B u K ∧ w.grownBy w' v.ownBlock) := h ▸ before_any e v w R hl
theorem prF_len (x : Str) (n : Int) (h : n ≤ 100) : (prF x n).length ≤ 100 := by
  unfold prF
  split
  · have hl := prL_le x n.toNat
    omega
  · simp
set_option maxHeartbeats 1000000 in
theorem plan_err (x : Wn) (s : Str) (a b e : Int) (w : World) (hm : Mild s) {er : Int} (h : plE x s a b e = er) (hn : ¬er = 0) : Calls Tryd.prog 9 #[wnV x, strV s, .int .i64 a, .int .i64 b, .int .i64 e] w (RetPl zW [] er w) := by
  have X : Own (((w.alloc (.cells (csW x) 32)).alloc (.cells (csS s) 29)).alloc (.cells z3 32)) w.heap.size 32 (csW x) := ((Own.new w _ _).alloc _).alloc _
  have S : Own (((w.alloc (.cells (csW x) 32)).alloc (.cells (csS s) 29)).alloc (.cells z3 32)) (w.heap.size + 1) 29 (csS s) := (Own.new2 w _ _ _).alloc _
  have R : Own (((w.alloc (.cells (csW x) 32)).alloc (.cells (csS s) 29)).alloc (.cells z3 32)) (w.heap.size + 1 + 1) 32 z3 := by
    have h := Own.new ((w.alloc (.cells (csW x) 32)).alloc (.cells (csS s) 29)) 32 z3
    rwa [World.size_alloc, World.size_alloc] at h
  have G0 : Grew w (((w.alloc (.cells (csW x) 32)).alloc (.cells (csS s) 29)).alloc (.cells z3 32)) := (((Grew.refl w).alloc _).alloc _).alloc _
  have HM := Lib.hid hm
  have H := Lib.hid h
  have d : (er != 0) = true := by simpa [bne] using hn
  clear h hn
  go_enter Tryd.func9, Tryd.ntmps9
  go_wp2_with fail
  with_reducible refine (checkPlan_v x s a b e _ HM.out H.out).mono ?_
  rintro e1 w1 ⟨rfl, g1⟩
  replace X := X.grew g1
  replace S := S.grew g1
  replace R := R.grew g1
  replace G0 := G0.trans g1
  clear g1
  have hsx : w.heap.size + 1 + 1 < w1.heap.size := R.lt
  obtain ⟨r0, r1, r2, r3, r4, r5⟩ := R.three
  go_wp2
  generalize hw : World.setCell _ _ _ = wz
  have RR := R.store3 hw
  have gB := G0.far3 hw (by omega)
  obtain ⟨u0, u1, u2, u3, u4, u5⟩ := RR.three
  refine bodyPost_ret (v := .tuple #[wnV zW, .slice none 0 0, .int .i64 er]) (by simp [results, Tryd.results9, go_sem, u0, u1, u2, zW]) rfl ⟨_, rfl, RowE.nil _ _, gB⟩
set_option maxHeartbeats 1000000 in
theorem plan_unsure (x : Wn) (s : Str) (a b e : Int) (w : World) (hm : Mild s) (h : plE x s a b e = 0) (hs : sureB s = false) : Calls Tryd.prog 9 #[wnV x, strV s, .int .i64 a, .int .i64 b, .int .i64 e] w (RetPl zW [] 0 w) := by
  have X : Own (((w.alloc (.cells (csW x) 32)).alloc (.cells (csS s) 29)).alloc (.cells z3 32)) w.heap.size 32 (csW x) := ((Own.new w _ _).alloc _).alloc _
  have S : Own (((w.alloc (.cells (csW x) 32)).alloc (.cells (csS s) 29)).alloc (.cells z3 32)) (w.heap.size + 1) 29 (csS s) := (Own.new2 w _ _ _).alloc _
  have R : Own (((w.alloc (.cells (csW x) 32)).alloc (.cells (csS s) 29)).alloc (.cells z3 32)) (w.heap.size + 1 + 1) 32 z3 := by
    have h := Own.new ((w.alloc (.cells (csW x) 32)).alloc (.cells (csS s) 29)) 32 z3
    rwa [World.size_alloc, World.size_alloc] at h
  have G0 : Grew w (((w.alloc (.cells (csW x) 32)).alloc (.cells (csS s) 29)).alloc (.cells z3 32)) := (((Grew.refl w).alloc _).alloc _).alloc _
  have HM := Lib.hid hm
  have H := Lib.hid h
  have HS := Lib.hid hs
  clear h hs
  go_enter Tryd.func9, Tryd.ntmps9
  go_wp2_with fail
  with_reducible refine (checkPlan_v x s a b e _ HM.out H.out).mono ?_
  rintro e1 w1 ⟨rfl, g1⟩
  replace X := X.grew g1
  replace S := S.grew g1
  replace R := R.grew g1
  replace G0 := G0.trans g1
  clear g1
  have hsx : w.heap.size + 1 + 1 < w1.heap.size := R.lt
  obtain ⟨p0, p1, p2, p3, p4, p5⟩ := S.six
  go_wp2_with fail
  with_reducible refine (sure_q s _ HM.out HS.out).mono ?_
  rintro e2 w2 ⟨rfl, g2⟩
  replace X := X.grew g2
  replace S := S.grew g2
  replace R := R.grew g2
  replace G0 := G0.trans g2
  clear g2 hsx p0 p1 p2 p3 p4 p5
  have hsx : w.heap.size + 1 + 1 < w2.heap.size := R.lt
  obtain ⟨r0, r1, r2, r3, r4, r5⟩ := R.three
  go_wp2
  generalize hw : World.setCell _ _ _ = wz
  have RR := R.store3 hw
  have gB := G0.far3 hw (by omega)
  obtain ⟨u0, u1, u2, u3, u4, u5⟩ := RR.three
  refine bodyPost_ret (v := .tuple #[wnV zW, .slice none 0 0, .int .i64 0]) (by simp [results, Tryd.results9, go_sem, u0, u1, u2, zW]) rfl ⟨_, rfl, RowE.nil _ _, gB⟩
set_option maxHeartbeats 1000000 in
theorem plan_keep (x : Wn) (s : Str) (a b e : Int) (w : World) (hm : Mild s) (hZ : Sz w) (h : plE x s a b e = 0) (hs : sureB s = true) (hk : s.k = 2) (hn : newB x a b e = false) : Calls Tryd.prog 9 #[wnV x, strV s, .int .i64 a, .int .i64 b, .int .i64 e] w (RetPl x [] 0 w) := by
  have X : Own (((w.alloc (.cells (csW x) 32)).alloc (.cells (csS s) 29)).alloc (.cells z3 32)) w.heap.size 32 (csW x) := ((Own.new w _ _).alloc _).alloc _
  have S : Own (((w.alloc (.cells (csW x) 32)).alloc (.cells (csS s) 29)).alloc (.cells z3 32)) (w.heap.size + 1) 29 (csS s) := (Own.new2 w _ _ _).alloc _
  have R : Own (((w.alloc (.cells (csW x) 32)).alloc (.cells (csS s) 29)).alloc (.cells z3 32)) (w.heap.size + 1 + 1) 32 z3 := by
    have h := Own.new ((w.alloc (.cells (csW x) 32)).alloc (.cells (csS s) 29)) 32 z3
    rwa [World.size_alloc, World.size_alloc] at h
  have G0 : Grew w (((w.alloc (.cells (csW x) 32)).alloc (.cells (csS s) 29)).alloc (.cells z3 32)) := (((Grew.refl w).alloc _).alloc _).alloc _
  have HM := Lib.hid hm
  have H := Lib.hid h
  have HS := Lib.hid hs
  have HK := beqT hk
  have HO := Lib.hid (plE_ok h)
  have HZ := Lib.hid hZ
  obtain ⟨z, hz⟩ : ∃ z, nxW x a b = z := ⟨_, rfl⟩
  obtain ⟨v, hv⟩ : ∃ v, nxB x a b = v := ⟨_, rfl⟩
  have HW := Lib.hid hz
  have HV := Lib.hid hv
  have hn2 : v = false ∨ (v = true ∧ ¬z.s < e) := by
    unfold newB at hn
    rw [hz, hv] at hn
    cases v
    · exact .inl rfl
    · exact .inr ⟨rfl, by simpa using hn⟩
  clear h hs hk hZ hz hv hn
  go_enter Tryd.func9, Tryd.ntmps9
  go_wp2_with fail
  with_reducible refine (checkPlan_v x s a b e _ HM.out H.out).mono ?_
  rintro e1 w1 ⟨rfl, g1⟩
  replace X := X.grew g1
  replace S := S.grew g1
  replace R := R.grew g1
  replace G0 := G0.trans g1
  clear g1
  have hsx : w.heap.size + 1 + 1 < w1.heap.size := R.lt
  obtain ⟨p0, p1, p2, p3, p4, p5⟩ := S.six
  go_wp2_with fail
  with_reducible refine (sure_q s _ HM.out HS.out).mono ?_
  rintro e2 w2 ⟨rfl, g2⟩
  replace X := X.grew g2
  replace S := S.grew g2
  replace R := R.grew g2
  replace G0 := G0.trans g2
  clear g2 hsx p0 p1 p2 p3 p4 p5
  have hsx : w.heap.size + 1 + 1 < w2.heap.size := R.lt
  obtain ⟨q0, q1, q2, q3, q4, q5⟩ := X.three
  obtain ⟨p0, p1, p2, p3, p4, p5⟩ := S.six
  go_wp2_with fail
  with_reducible refine (nextWindow_v x a b _ HO.out.1 HO.out.2.2.1 (HZ.out.grew G0) HW.out HV.out).mono ?_
  rintro e3 w3 ⟨rfl, g2⟩
  replace X := (X.grew g2).alloc (.cells (csW z) 32)
  replace R := (R.grew g2).alloc (.cells (csW z) 32)
  replace G0 := (G0.trans g2).alloc (.cells (csW z) 32)
  clear g2 hsx p0 p1 p2 p3 p4 p5 q0 q1 q2 q3 q4 q5 S
  have hsx : w.heap.size + 1 + 1 < (w3.alloc (.cells (csW z) 32)).heap.size := R.lt
  obtain ⟨q0, q1, q2, q3, q4, q5⟩ := X.three
  obtain ⟨r0, r1, r2, r3, r4, r5⟩ := R.three
  rcases hn2 with rfl | ⟨rfl, hze⟩
  all_goals go_wp2
  · generalize hw : World.setCell _ _ _ = wz
    have RR := R.store3 hw
    have gB := G0.far3 hw (by omega)
    obtain ⟨u0, u1, u2, u3, u4, u5⟩ := RR.three
    refine bodyPost_ret (v := .tuple #[wnV x, .slice none 0 0, .int .i64 0]) (by simp [results, Tryd.results9, go_sem, u0, u1, u2]) rfl ⟨_, rfl, RowE.nil _ _, gB⟩
  · generalize hw : World.setCell _ _ _ = wz
    have RR := R.store3 hw
    have gB := G0.far3 hw (by omega)
    obtain ⟨u0, u1, u2, u3, u4, u5⟩ := RR.three
    refine bodyPost_ret (v := .tuple #[wnV x, .slice none 0 0, .int .i64 0]) (by simp [results, Tryd.results9, go_sem, u0, u1, u2]) rfl ⟨_, rfl, RowE.nil _ _, gB⟩
set_option maxHeartbeats 2000000 in
theorem plan_others (x : Wn) (s : Str) (a b e : Int) (w : World) (hm : Mild s) (hZ : Sz w) (h : plE x s a b e = 0) (hs : sureB s = true) (hk : ¬s.k = 2) : Calls Tryd.prog 9 #[wnV x, strV s, .int .i64 a, .int .i64 b, .int .i64 e] w (RetPl zW (kpL e (prF s (firF (b - a)))) 0 w) := by
  have X : Own (((w.alloc (.cells (csW x) 32)).alloc (.cells (csS s) 29)).alloc (.cells z3 32)) w.heap.size 32 (csW x) := ((Own.new w _ _).alloc _).alloc _
  have S : Own (((w.alloc (.cells (csW x) 32)).alloc (.cells (csS s) 29)).alloc (.cells z3 32)) (w.heap.size + 1) 29 (csS s) := (Own.new2 w _ _ _).alloc _
  have R : Own (((w.alloc (.cells (csW x) 32)).alloc (.cells (csS s) 29)).alloc (.cells z3 32)) (w.heap.size + 1 + 1) 32 z3 := by
    have h := Own.new ((w.alloc (.cells (csW x) 32)).alloc (.cells (csS s) 29)) 32 z3
    rwa [World.size_alloc, World.size_alloc] at h
  have G0 : Grew w (((w.alloc (.cells (csW x) 32)).alloc (.cells (csS s) 29)).alloc (.cells z3 32)) := (((Grew.refl w).alloc _).alloc _).alloc _
  have HM := Lib.hid hm
  have H := Lib.hid h
  have HS := Lib.hid hs
  have HK := beqF hk
  have hac := (plE_ok h).2.2.1
  obtain ⟨a0, a1, a2⟩ := hac
  have hwr : IntKind.i64.wrap (b - a) = b - a := IntWalk.i64_in _ (by omega)
  have HZ := Lib.hid hZ
  obtain ⟨q, hq⟩ : ∃ q, firF (b - a) = q := ⟨_, rfl⟩
  obtain ⟨P, hP⟩ : ∃ P, prF s q = P := ⟨_, rfl⟩
  obtain ⟨K, hK⟩ : ∃ K, kpL e P = K := ⟨_, rfl⟩
  have hPl : P.length ≤ 100 := hP ▸ prF_len s q (by have := fir_pos (b - a); omega)
  have HQ := Lib.hid hq
  have HP := Lib.hid hP
  have HKK := Lib.hid hK
  have HL := Lib.hid hPl
  rw [hq, hP, hK]
  clear h hs hk hZ hq hP hK hPl
  go_enter Tryd.func9, Tryd.ntmps9
  go_wp2_with fail
  with_reducible refine (checkPlan_v x s a b e _ HM.out H.out).mono ?_
  rintro e1 w1 ⟨rfl, g1⟩
  replace X := X.grew g1
  replace S := S.grew g1
  replace R := R.grew g1
  replace G0 := G0.trans g1
  clear g1
  have hsx : w.heap.size + 1 + 1 < w1.heap.size := R.lt
  obtain ⟨p0, p1, p2, p3, p4, p5⟩ := S.six
  go_wp2_with fail
  with_reducible refine (sure_q s _ HM.out HS.out).mono ?_
  rintro e2 w2 ⟨rfl, g2⟩
  replace X := X.grew g2
  replace S := S.grew g2
  replace R := R.grew g2
  replace G0 := G0.trans g2
  clear g2 hsx p0 p1 p2 p3 p4 p5
  have hsx : w.heap.size + 1 + 1 < w2.heap.size := R.lt
  obtain ⟨p0, p1, p2, p3, p4, p5⟩ := S.six
  go_upto_region 7 with fail
  clear p0 p1 p2 p3 p4 p5 X
  replace S := S.drew
  replace R := R.drew
  replace G0 := G0.drew
  have HSX := Lib.hid hsx
  obtain ⟨sx, hsx2⟩ : ∃ sx, w.heap.size + 1 = sx := ⟨_, rfl⟩
  rw [hsx2] at S R hsx
  have HS2 := Lib.hid hsx2
  rw [hsx2]
  have lw : w.heap.size ≤ sx + 1 := by omega
  have lw2 : w.heap.size ≤ w2.drew.heap.size := by show w.heap.size ≤ w2.heap.size; omega
  clear hsx2
  obtain ⟨p0, p1, p2, p3, p4, p5⟩ := S.six
  obtain ⟨r0, r1, r2, r3, r4, r5⟩ := R.three
  have ne1 : sx + 1 ≠ sx := by omega
  have ne2 : sx ≠ sx + 1 := by omega
  have l_S := S.lt
  have l_R := R.lt
  go_region_held3 (fun w' => (w'.cell? ⟨sx, 0, none⟩ = some (.int .i64 s.k) ∧ w'.cell? ⟨sx, 1, none⟩ = some (.int .i64 s.a) ∧ w'.cell? ⟨sx, 2, none⟩ = some (.int .i64 s.b) ∧ w'.cell? ⟨sx, 3, none⟩ = some (.int .i64 s.d) ∧ w'.cell? ⟨sx, 4, none⟩ = some (.int .i64 s.h) ∧ w'.cell? ⟨sx, 5, none⟩ = some (.int .i64 s.t)))
    (refine ⟨?_, ?_, ?_, ?_, ?_, ?_⟩ <;> (repeat (first | with_reducible assumption | with_reducible refine far_drew ?_ | with_reducible refine far_cell ne1 ?_)))
    (first
      | (go_at_call 16; (with_reducible refine (first_v _ _ (HZ.out.grew (by first | (with_reducible exact G0) | (with_reducible exact G0.far3 rfl lw))) HQ.out).mono ?_); rintro e w3 ⟨rfl, rfl⟩)
      | (go_at_call 28; (with_reducible refine (predict_q s q _ HM.out HP.out).mono ?_); rintro e w4 ⟨vp, rfl, RP, g3⟩
         first
          | (with_reducible replace S := S.grew g3; with_reducible replace R := R.grew g3; with_reducible replace G0 := G0.trans g3)
          | (with_reducible replace S := (S.far3 rfl ne2).grew g3; with_reducible replace R := (R.store3 rfl).grew g3; with_reducible replace G0 := (G0.far3 rfl lw).trans g3)
         have RP1 := Lib.hid RP
         clear RP g3 p0 p1 p2 p3 p4 p5 r0 r1 r2 r3 r4 r5
         obtain ⟨p0, p1, p2, p3, p4, p5⟩ := S.six
         obtain ⟨r0, r1, r2, r3, r4, r5⟩ := R.three
         )
      | (go_at_call 27; (with_reducible refine (before_q e vp _ RP1.out (by have := HL.out; omega) HKK.out).mono ?_); rintro e w5 ⟨u, rfl, RU, g4⟩
         have HA := Lib.hid RP1.out.above
         replace S := Own.keptA (B := w2.drew.heap.size) S g4 (fun y e => HA.out y e) (by show sx < w2.heap.size; omega)
         replace R := Own.keptA (B := w2.drew.heap.size) R g4 (fun y e => HA.out y e) (by show sx + 1 < w2.heap.size; omega)
         replace G0 := Grew.keptA (B := w2.drew.heap.size) G0 g4 (fun y e => HA.out y e) lw2
         have RU1 := Lib.hid RU
         clear RU g4 HA RP1 p0 p1 p2 p3 p4 p5 r0 r1 r2 r3 r4 r5
         obtain ⟨p0, p1, p2, p3, p4, p5⟩ := S.six
         obtain ⟨r0, r1, r2, r3, r4, r5⟩ := R.three))
  go_wp2
  generalize hw : World.setCell _ _ _ = wz
  have RR := R.store3 hw
  have gB := G0.far3 hw (by omega)
  obtain ⟨u0, u1, u2, u3, u4, u5⟩ := RR.three
  refine bodyPost_ret (v := .tuple #[wnV zW, u, .int .i64 0]) (by simp [results, Tryd.results9, go_sem, u0, u1, u2, zW]) rfl ⟨_, rfl, (RU1.out.far3 hw (by show sx + 1 < w2.heap.size; omega)).wider lw2, gB⟩
set_option maxHeartbeats 2000000 in
theorem plan_new (x : Wn) (s : Str) (a b e : Int) (w : World) (hm : Mild s) (hZ : Sz w) (h : plE x s a b e = 0) (hs : sureB s = true) (hk : s.k = 2) (hn : newB x a b e = true) : Calls Tryd.prog 9 #[wnV x, strV s, .int .i64 a, .int .i64 b, .int .i64 e] w (RetPl (nxW x a b) (kpL e (pgsL (nxW x a b))) 0 w) := by
  have X : Own (((w.alloc (.cells (csW x) 32)).alloc (.cells (csS s) 29)).alloc (.cells z3 32)) w.heap.size 32 (csW x) := ((Own.new w _ _).alloc _).alloc _
  have S : Own (((w.alloc (.cells (csW x) 32)).alloc (.cells (csS s) 29)).alloc (.cells z3 32)) (w.heap.size + 1) 29 (csS s) := (Own.new2 w _ _ _).alloc _
  have R : Own (((w.alloc (.cells (csW x) 32)).alloc (.cells (csS s) 29)).alloc (.cells z3 32)) (w.heap.size + 1 + 1) 32 z3 := by
    have h := Own.new ((w.alloc (.cells (csW x) 32)).alloc (.cells (csS s) 29)) 32 z3
    rwa [World.size_alloc, World.size_alloc] at h
  have G0 : Grew w (((w.alloc (.cells (csW x) 32)).alloc (.cells (csS s) 29)).alloc (.cells z3 32)) := (((Grew.refl w).alloc _).alloc _).alloc _
  have HM := Lib.hid hm
  have H := Lib.hid h
  have HS := Lib.hid hs
  have HK := beqT hk
  have HO := Lib.hid (plE_ok h)
  have HZ := Lib.hid hZ
  have hv : nxB x a b = true := by
    unfold newB at hn
    rw [Bool.and_eq_true] at hn
    exact hn.1
  have hze : (nxW x a b).s < e := by
    unfold newB at hn
    rw [Bool.and_eq_true] at hn
    exact of_decide_eq_true hn.2
  have hb1 := nx_new hv
  have hb2 := nx_start (plE_ok h).1 (plE_ok h).2.2.1 hv
  obtain ⟨z, hz⟩ : ∃ z, nxW x a b = z := ⟨_, rfl⟩
  rw [hz] at hze hb1 hb2 ⊢
  obtain ⟨P, hP⟩ : ∃ P, pgsL z = P := ⟨_, rfl⟩
  obtain ⟨K, hK⟩ : ∃ K, kpL e P = K := ⟨_, rfl⟩
  have hPl : P.length ≤ 100 := by rw [← hP, pgsL, runL_len]; omega
  rw [hP, hK]
  obtain ⟨z1, z2, -⟩ := hb1
  obtain ⟨z3', z4⟩ := hb2
  have HW := Lib.hid hz
  have HV := Lib.hid hv
  have HP := Lib.hid hP
  have HKK := Lib.hid hK
  have HL := Lib.hid hPl
  clear h hs hk hZ hz hv hn hP hK hPl
  go_enter Tryd.func9, Tryd.ntmps9
  go_wp2_with fail
  with_reducible refine (checkPlan_v x s a b e _ HM.out H.out).mono ?_
  rintro e1 w1 ⟨rfl, g1⟩
  replace X := X.grew g1
  replace S := S.grew g1
  replace R := R.grew g1
  replace G0 := G0.trans g1
  clear g1
  have hsx : w.heap.size + 1 + 1 < w1.heap.size := R.lt
  obtain ⟨p0, p1, p2, p3, p4, p5⟩ := S.six
  go_wp2_with fail
  with_reducible refine (sure_q s _ HM.out HS.out).mono ?_
  rintro e2 w2 ⟨rfl, g2⟩
  replace X := X.grew g2
  replace S := S.grew g2
  replace R := R.grew g2
  replace G0 := G0.trans g2
  clear g2 hsx p0 p1 p2 p3 p4 p5
  have hsx : w.heap.size + 1 + 1 < w2.heap.size := R.lt
  obtain ⟨q0, q1, q2, q3, q4, q5⟩ := X.three
  obtain ⟨p0, p1, p2, p3, p4, p5⟩ := S.six
  go_wp2_with fail
  with_reducible refine (nextWindow_v x a b _ HO.out.1 HO.out.2.2.1 (HZ.out.grew G0) HW.out HV.out).mono ?_
  rintro e3 w3 ⟨rfl, g2⟩
  replace R := (R.grew g2).alloc (.cells (csW z) 32)
  replace G0 := (G0.trans g2).alloc (.cells (csW z) 32)
  have N := Own.new w3 32 (csW z)
  have hsz := g2.size
  have hn14 : w.heap.size + 1 + 1 < w3.heap.size := by omega
  clear g2 hsx p0 p1 p2 p3 p4 p5 q0 q1 q2 q3 q4 q5 S X hsz
  obtain ⟨q0, q1, q2, q3, q4, q5⟩ := N.three
  go_upto_region 11 with fail
  clear q0 q1 q2 q3 q4 q5
  obtain ⟨wn, hwn⟩ : ∃ wn, w3.alloc (.cells (csW z) 32) = wn := ⟨_, rfl⟩
  rw [show (w3.alloc (.cells #[.int .i64 z.s, .int .i64 z.n, .int .i64 z.y] 32)) = wn from hwn]
  rw [hwn] at R G0 N
  obtain ⟨sn, hsn⟩ : ∃ sn, w3.heap.size = sn := ⟨_, rfl⟩
  rw [hsn] at N hn14
  rw [hsn]
  clear hwn hsn
  have hszn : sn < wn.heap.size := N.lt
  obtain ⟨sx, hsx2⟩ : ∃ sx, w.heap.size + 1 + 1 = sx := ⟨_, rfl⟩
  rw [hsx2] at R hn14
  rw [hsx2]
  have lw : w.heap.size ≤ sx := by omega
  clear hsx2
  replace N := N.drew
  replace R := R.drew
  replace G0 := G0.drew
  have lw2 : w.heap.size ≤ wn.drew.heap.size := by show w.heap.size ≤ wn.heap.size; omega
  obtain ⟨q0, q1, q2, q3, q4, q5⟩ := N.three
  obtain ⟨r0, r1, r2, r3, r4, r5⟩ := R.three
  have ne1 : sx ≠ sn := by omega
  have ne2 : sn ≠ sx := by omega
  have l_N := N.lt
  have l_R := R.lt
  go_region_held3 (fun w' => (w'.cell? ⟨sn, 0, none⟩ = some (.int .i64 z.s) ∧ w'.cell? ⟨sn, 1, none⟩ = some (.int .i64 z.n) ∧ w'.cell? ⟨sn, 2, none⟩ = some (.int .i64 z.y)))
    (refine ⟨?_, ?_, ?_⟩ <;> (repeat (first | with_reducible assumption | with_reducible refine far_drew ?_ | with_reducible refine far_cell ne1 ?_)))
    (first
      | (go_at_call 30; (with_reducible refine (pagesOf_q z _ (by omega) (by omega) (by omega) (by omega) HP.out).mono ?_); rintro e w4 ⟨vp, rfl, RP, g3⟩
         replace N := N.grew g3
         replace R := R.grew g3
         replace G0 := G0.trans g3
         have RP1 := Lib.hid RP
         clear RP g3 q0 q1 q2 q3 q4 q5 r0 r1 r2 r3 r4 r5
         obtain ⟨q0, q1, q2, q3, q4, q5⟩ := N.three
         obtain ⟨r0, r1, r2, r3, r4, r5⟩ := R.three)
      | (go_at_call 27; (with_reducible refine (before_q e vp _ RP1.out (by have := HL.out; omega) HKK.out).mono ?_); rintro e w5 ⟨u, rfl, RU, g4⟩
         have HA := Lib.hid RP1.out.above
         replace N := Own.keptA (B := wn.drew.heap.size) N g4 (fun y e => HA.out y e) (by show sn < wn.heap.size; omega)
         replace R := Own.keptA (B := wn.drew.heap.size) R g4 (fun y e => HA.out y e) (by show sx < wn.heap.size; omega)
         replace G0 := Grew.keptA (B := wn.drew.heap.size) G0 g4 (fun y e => HA.out y e) lw2
         have RU1 := Lib.hid RU
         clear RU g4 HA RP1 q0 q1 q2 q3 q4 q5 r0 r1 r2 r3 r4 r5
         obtain ⟨q0, q1, q2, q3, q4, q5⟩ := N.three
         obtain ⟨r0, r1, r2, r3, r4, r5⟩ := R.three))
  go_wp2
  generalize hw : World.setCell _ _ _ = wz
  have RR := R.store3 hw
  have gB := G0.far3 hw (by omega)
  obtain ⟨u0, u1, u2, u3, u4, u5⟩ := RR.three
  refine bodyPost_ret (v := .tuple #[wnV z, u, .int .i64 0]) (by simp [results, Tryd.results9, go_sem, u0, u1, u2]) rfl ⟨_, rfl, (RU1.out.far3 hw (by show sx < wn.heap.size; omega)).wider lw2, gB⟩
theorem plan_any (x : Wn) (s : Str) (a b e : Int) (w : World) (hm : Mild s) (hZ : Sz w) : Calls Tryd.prog 9 #[wnV x, strV s, .int .i64 a, .int .i64 b, .int .i64 e] w (RetPl (plW x s a b e) (plL x s a b e) (plE x s a b e) w) := by
  by_cases h : plE x s a b e = 0
  · cases hs : sureB s
    · have e1 : plW x s a b e = zW := by rw [plW, if_neg (by rw [hs]; simp)]
      have e2 : plL x s a b e = [] := by rw [plL, if_neg (by rw [hs]; simp)]
      rw [e1, e2, h]
      exact plan_unsure x s a b e w hm h hs
    · by_cases hk : s.k = 2
      · have e1 : plW x s a b e = pl2W x a b e := by rw [plW, if_pos ⟨h, hs, hk⟩]
        have e2 : plL x s a b e = pl2L x a b e := by rw [plL, if_pos ⟨h, hs⟩, if_pos hk]
        rw [e1, e2, h]
        cases hn : newB x a b e
        · rw [show pl2W x a b e = x from by rw [pl2W, hn], show pl2L x a b e = [] from by rw [pl2L, hn]]
          exact plan_keep x s a b e w hm hZ h hs hk hn
        · rw [show pl2W x a b e = nxW x a b from by rw [pl2W, hn], show pl2L x a b e = kpL e (pgsL (nxW x a b)) from by rw [pl2L, hn]]
          exact plan_new x s a b e w hm hZ h hs hk hn
      · have e1 : plW x s a b e = zW := by rw [plW, if_neg (fun h => hk h.2.2)]
        have e2 : plL x s a b e = kpL e (prF s (firF (b - a))) := by rw [plL, if_pos ⟨h, hs⟩, if_neg hk]
        rw [e1, e2, h]
        exact plan_others x s a b e w hm hZ h hs hk
  · have e1 : plW x s a b e = zW := by rw [plW, if_neg (fun k => h k.1)]
    have e2 : plL x s a b e = [] := by rw [plL, if_neg (fun k => h k.1)]
    rw [e1, e2]
    exact plan_err x s a b e w hm rfl h
theorem plan_q {z : Wn} {L : List Int} {er : Int} (x : Wn) (s : Str) (a b e : Int) (w : World) (hm : Mild s) (hZ : Sz w) (h1 : plW x s a b e = z) (h2 : plL x s a b e = L) (h3 : plE x s a b e = er) : Calls Tryd.prog 9 #[wnV x, strV s, .int .i64 a, .int .i64 b, .int .i64 e] w (RetPl z L er w) := h1 ▸ h2 ▸ h3 ▸ plan_any x s a b e w hm hZ
end Go.Proofs.YtfljohgcbihhbaaDoor
