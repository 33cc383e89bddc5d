/- ReadaheadPlans holds: the program's Plan, Marker, Check, First and Grown answer as the reference's. -/
import Derived.Test.YtfljohgcbihhbaaDoorRa9
import Derived.Test.YtfljohgcbihhbaaDoorRa10
import Derived.Test.YtfljohgcbihhbaaDoorStU
import Derived.Deep.RegionHeld3
import Derived.Deep.DeepCutAuto
import Derived.Test.YtfljohgcbihhbaaDoorCards
import Derived.Test.YtfljohgcbihhbaaDoorTie
import Derived.ProofKit
import Derived.OpenShut
import Derived.SevenTiedAt
import Derived.Stop.Joined
namespace Go.Proofs.YtfljohgcbihhbaaDoor
open Go.ChangeShapes Go.WideShapes Go.ChangeAt Go.RowKit Go.Mine

/-- Some number whose double is right, or wraps to nothing; the tape has gone on. -/
def RetD (B b : Nat) (w : World) (e : Ending) (w' : World) : Prop := ∃ z : Int, DblP z ∧ e = .returned (.int .i64 z) ∧ Tp B w' b ∧ w.grownBy w' (some b)
def isD : Value → Bool | .int .i64 z => decide ((-4611686018427387904 ≤ z ∧ z ≤ 9223372036854775807) ∨ z = -9223372036854775808) | _ => false
theorem int_at_d {w : World} {g : Nat} {t : TypeId} {cs : Array Value} (h : Own w g t cs) (hs : cs.all isD = true) (p : Nat) (hp : p < cs.size) : ∃ z, w.cell? ⟨g, p, none⟩ = some (.int .i64 z) ∧ DblP z := by
  have e : cs[p]? = some cs[p] := Array.getElem?_eq_getElem hp
  have k : isD cs[p] = true := (Array.all_eq_true.1 hs) p hp
  have hc := (h.cell p).trans e
  generalize cs[p] = u at *
  match u, k with
  | .int .i64 z, k => exact ⟨z, hc, of_decide_eq_true (p := (-4611686018427387904 ≤ z ∧ z ≤ 9223372036854775807) ∨ z = -9223372036854775808) k⟩
set_option maxHeartbeats 2000000 in
theorem odd_d (B b : Nat) (w : World) (ht : Tp B w b) (hbw : B ≤ w.heap.size) :
    Calls Tryd.prog 8 #[.pointer (some ⟨b, 0, none⟩)] w (RetD B b w) := by
  have hb := ht.ltB
  go_enter Tryd.func8, Tryd.ntmps8
  go_wp2_with fail
  with_reducible refine (next_x _ _ _ _ (by omega) (by omega) (ht.alloc _)).mono ?_
  rintro e w1 ⟨q, q0, q1, rfl, T1, g1⟩
  obtain ⟨p, rfl⟩ := Int.eq_ofNat_of_zero_le q0
  have O := (Own.new w _ _).past g1 (by omega)
  obtain ⟨z, hc, hz⟩ := int_at_d O (by decide +kernel) p (by simp; omega)
  clear O
  go_wp2
  go_ret
  exact ⟨z, hz, rfl, T1, grown_trans (grown_alloc (grown_refl _ _) _) g1⟩
theorem Tp.far6 {w w' : World} {B k b : Nat} {u v x y z s : Value} (h : Tp B w k)
    (hw : (((((w.setCell ⟨b, 0, none⟩ u).setCell ⟨b, 1, none⟩ v).setCell ⟨b, 2, none⟩ x).setCell ⟨b, 3, none⟩ y).setCell ⟨b, 4, none⟩ z).setCell ⟨b, 5, none⟩ s = w') (hb : B ≤ b) : Tp B w' k := by
  rw [← hw]
  exact (((((Tp.set h (p := ⟨b, 0, none⟩) hb u).set (p := ⟨b, 1, none⟩) hb v).set (p := ⟨b, 2, none⟩) hb x).set (p := ⟨b, 3, none⟩) hb y).set (p := ⟨b, 4, none⟩) hb z).set (p := ⟨b, 5, none⟩) hb s
theorem plL_len (y : Wn) (x : Str) (a b e : Int) : (plL y x a b e).length ≤ 100000 := by
  unfold plL
  split
  · split
    · unfold pl2L
      cases hn : newB y a b e
      · simp
      · have h : nxB y a b = true := by unfold newB at hn; rw [Bool.and_eq_true] at hn; exact hn.1
        have h1 := nx_new h
        have h2 := kpL_len e (pgsL (nxW y a b))
        have h3 : (pgsL (nxW y a b)).length = (nxW y a b).n.toNat := runL_len _ _
        show (kpL e (pgsL (nxW y a b))).length ≤ 100000
        omega
    · have h2 := kpL_len e (prF x (firF (b - a)))
      have h3 := prF_len x (firF (b - a)) (by have := (fir_pos (b - a)).2; omega)
      omega
  · simp
/-- A stream lies in block sx; the tape; nothing that was there has turned. -/
def PlX (w : World) (sx : Nat) (H : Int) (wx : World) : Prop := ∃ x : Str, Mild x ∧ 0 ≤ x.h ∧ x.h ≤ H ∧ Own wx sx 29 (csS x) ∧ Tp (w.heap.size + 1) wx w.heap.size ∧ Grew w wx
def PlW (w : World) (sx sw : Nat) (wx : World) : Prop := ∃ (x : Str) (y : Wn), Mild x ∧ Own wx sx 29 (csS x) ∧ Own wx sw 32 (csW y) ∧ Tp (w.heap.size + 1) wx w.heap.size ∧ Grew w wx
set_option maxRecDepth 100000 in
set_option maxHeartbeats 4000000 in
theorem plans_core (A : Option Addr) (c : Nat) (xs : List Int) (w : World) (hr : IntRow w A xs) (hm : xs.length ≤ maxLen) (hZ : Sz w) :
    Calls Tryd.prog 3 #[.slice A xs.length c] w (RetG (.bool true) w) := by
  have tp := Tp.made hr hm c 25
  clear hr
  generalize hX : xs.length = X at *
  clear hX
  go_enter Tryd.func3, Tryd.ntmps3
  go_wp2_with fail
  have G0 : w.grownBy (w.alloc (.cells #[.slice A X c, .int .i64 0] 25)) (some w.heap.size) := grown_alloc (grown_refl _ _) _
  generalize World.alloc w _ = w0 at *
  have hsz0 : w.heap.size + 1 ≤ w0.heap.size := tp.lt
  with_reducible refine (streams_x _ _ _ tp hsz0).mono ?_
  rintro e w1 ⟨v, L, rfl, hS, R, T1, g1⟩
  have R1 := R.wider hsz0
  have G1 := (Grew.refl w).past (grown_trans G0 g1) (Nat.le_refl _)
  have hle := hS.le
  have hsz1 := Nat.le_trans hsz0 g1.size
  have HS := Lib.hid hS
  clear R tp G0 g1 hS hsz0 w0
  obtain ⟨a, c1, rfl, -⟩ := R1.rd
  obtain ⟨sx, hsx⟩ : ∃ sx, w1.heap.size = sx := ⟨_, rfl⟩
  have XO : Own (w1.alloc (.cells z6 29)) sx 29 (csS zS) := hsx ▸ Own.new w1 _ _
  have R2 := R1.grew ((Grew.refl w1).alloc (.cells z6 29))
  have T2 := T1.alloc (.cells z6 29)
  have G2 := G1.alloc (.cells z6 29)
  rw [hsx] at hsz1
  have HR := Lib.hid R2
  have i4 : (L.length : Int) ≤ 4 := by omega
  clear R1 T1 G1 R2
  go_upto_if 29 with fail
  generalize hw2 : World.alloc w1 _ = w2 at *
  clear hw2 hsx
  go_cut [] from 25 to 36 (PlX w sx 1000000)
  case first =>
    by_cases hl : (0 : Int) < (L.length : Int)
    · go_wp2_with fail
      with_reducible refine (next_x _ _ _ _ (by omega) (by omega) T2).mono ?_
      rintro e w3 ⟨q, q0, q1, rfl, T3, g3⟩
      obtain ⟨p, rfl⟩ := Int.eq_ofNat_of_zero_le q0
      have hp : p < L.length := by omega
      have R3 := HR.out.past g3 (by omega)
      replace XO := XO.past g3 (by omega)
      have G3 := G2.past g3 (Nat.le_refl _)
      obtain ⟨g, hg1, -, hg, he⟩ := rowN_at R3 hp
      subst hg1
      have hri : RgtP (L.getD p zS) := (HS.out.all p hp).1
      obtain ⟨s, hs⟩ : ∃ s, L.getD p zS = s := ⟨_, rfl⟩
      rw [hs] at he hri
      have HM := Lib.hid hri
      obtain ⟨p0, p1, p2, p3, p4, p5⟩ := he
      obtain ⟨d0, d1, d2, d3, d4, d5, f0, f1, f2, f3, f4, f5⟩ := XO.sixA
      clear G2 T2 g3 R3 HR hs hri
      go_wp2
      go_meet
      generalize hw : World.setCell _ _ _ = wz
      exact ⟨s, rgt_mild HM.out, HM.out.2.1, HM.out.2.2.1, XO.store6 rfl hw, Tp.far6 T3 hw hsz1, Grew.far6 G3 hw (by omega)⟩
    · go_wp2_with fail
      go_meet
      exact ⟨zS, by unfold Mild zS; simp, by simp [zS], by simp [zS], XO, T2, G2⟩
  case rest =>
  clear XO T2 G2 HR i4 HS hle
  obtain ⟨x, hmx, hx0, hx1, X, T, G⟩ := hcut
  go_wp2_with fail
  with_reducible refine (next_x _ _ _ _ (by omega) (by omega) T).mono ?_
  rintro e w3 ⟨q, q0, q1, rfl, T3, g3⟩
  replace X := X.past g3 (by omega)
  replace G := G.past g3 (Nat.le_refl _)
  clear T g3
  go_upto_if 39 with fail
  go_cut [] from 37 to 43 (PlX w sx 1000002)
  case first =>
    by_cases hq : 0 < q
    · obtain ⟨p0, p1, p2, p3, p4, p5, f0, f1, f2, f3, f4, f5⟩ := X.sixA
      go_wp2
      go_meet
      exact ⟨⟨x.k, x.a, x.b, x.d, x.h + 2, x.t⟩, hmx, by show 0 ≤ x.h + 2; omega, by show x.h + 2 ≤ 1000002; omega, X.set 4 _, T3.set (p := ⟨sx, 4, none⟩) hsz1 _, G.set (p := ⟨sx, 4, none⟩) (by show w.heap.size ≤ sx; omega) _⟩
    · go_wp2_with fail
      go_meet
      exact ⟨x, hmx, hx0, by omega, X, T3, G⟩
  case rest =>
  clear X T3 G hmx hx0 hx1 x
  obtain ⟨x, hmx, -, -, X, T, G⟩ := hcut
  go_wp2_with fail
  with_reducible refine (next_x _ _ _ _ (by omega) (by omega) T).mono ?_
  rintro e w4 ⟨y1, y10, y11, rfl, T4, g4⟩
  replace X := X.past g4 (by omega)
  replace G := G.past g4 (Nat.le_refl _)
  clear T g4
  go_wp2_with fail
  with_reducible refine (next_x _ _ _ _ (by omega) (by omega) T4).mono ?_
  rintro e w5 ⟨y2, y20, y21, rfl, T5, g5⟩
  replace X := X.past g5 (by omega)
  replace G := G.past g5 (Nat.le_refl _)
  clear T4 g5
  go_wp2_with fail
  with_reducible refine (next_x _ _ _ _ (by omega) (by omega) T5).mono ?_
  rintro e w6 ⟨y3, y30, y31, rfl, T6, g6⟩
  have X6 := X.past g6 (by omega)
  replace X := X6.alloc (.cells (csW ⟨y1, y2, y3⟩) 32)
  replace G := (G.past g6 (Nat.le_refl _)).alloc (.cells (csW ⟨y1, y2, y3⟩) 32)
  have T7 := T6.alloc (.cells (csW ⟨y1, y2, y3⟩) 32)
  obtain ⟨sw, hsw⟩ : ∃ sw, w6.heap.size = sw := ⟨_, rfl⟩
  have Y : Own (w6.alloc (.cells (csW ⟨y1, y2, y3⟩) 32)) sw 32 (csW ⟨y1, y2, y3⟩) := hsw ▸ Own.new w6 _ _
  have hxw : sx < sw := by have := X6.lt; omega
  clear X6 T5 T6 g6
  go_wp2_with fail
  try rw [hsw]
  generalize World.alloc w6 _ = w7 at *
  clear hsw
  with_reducible refine (next_x _ _ _ _ (by omega) (by omega) T7).mono ?_
  rintro e w8 ⟨q, q0, q1, rfl, T8, g8⟩
  replace X := X.past g8 (by omega)
  replace Y := Y.past g8 (by omega)
  replace G := G.past g8 (Nat.le_refl _)
  clear T7 g8
  go_upto_if 53 with fail
  go_cut [] from 44 to 54 (PlW w sx sw)
  case first =>
    by_cases hq : q = 0
    · subst hq
      obtain ⟨p0, p1, p2, f0, f1, f2⟩ := Y.three
      go_wp2
      go_meet
      generalize hw : World.setCell _ _ _ = wz
      exact ⟨x, ⟨0, 0, 0⟩, hmx, X.far3 hw (by omega), Y.store3 hw, Tp.far3 T8 hw (by omega), Grew.far3 G hw (by omega)⟩
    · have hqd : (q == 0) = false := beqF hq
      go_wp2_with fail
      go_meet
      exact ⟨x, _, hmx, X, Y, T8, G⟩
  case rest =>
  clear X Y T8 G hmx x q0 q1 q y10 y11 y20 y21 y30 y31 y1 y2 y3
  obtain ⟨x, y, hmx, X, Y, T, G⟩ := hcut
  go_wp2_with fail
  with_reducible refine (next_x _ _ _ _ (by omega) (by omega) T).mono ?_
  rintro e w9 ⟨q, q0, q1, rfl, T9, g9⟩
  replace X := X.past g9 (by omega)
  replace Y := Y.past g9 (by omega)
  replace G := G.past g9 (Nat.le_refl _)
  clear T g9
  go_upto_if 57 with fail
  go_cut [] from 55 to 60 (PlW w sx sw)
  case first =>
    by_cases hq : q = 0
    · subst hq
      go_wp2_with fail
      with_reducible refine (odd_d _ _ _ T9 (by have := X.lt; omega)).mono ?_
      rintro e w10 ⟨z, hz, rfl, T10, g10⟩
      replace X := X.past g10 (by omega)
      replace Y := Y.past g10 (by omega)
      replace G := G.past g10 (Nat.le_refl _)
      obtain ⟨p0, p1, p2, f0, f1, f2⟩ := Y.three
      clear hz T9 g10
      go_wp2
      go_meet
      exact ⟨x, ⟨z, y.n, y.y⟩, hmx, X.far (p := ⟨sw, 0, none⟩) (by show sx ≠ sw; omega) _, Y.set 0 _, T10.set (p := ⟨sw, 0, none⟩) (by show w.heap.size + 1 ≤ sw; omega) _, G.set (p := ⟨sw, 0, none⟩) (by show w.heap.size ≤ sw; omega) _⟩
    · have hqd : (q == 0) = false := beqF hq
      go_wp2_with fail
      go_meet
      exact ⟨x, _, hmx, X, Y, T9, G⟩
  case rest =>
  clear X Y T9 G hmx x y q0 q1 q
  obtain ⟨x, y, hmx, X, Y, T, G⟩ := hcut
  go_upto_region 13 with fail
  go_cut [7, 8, 9] from 61 to 66 (fun v7 v8 v9 wx => (∃ p q r : Int, v7 = .int .i64 p ∧ v8 = .int .i64 q ∧ v9 = .int .i64 r) ∧ PlW w sx sw wx)
  case first =>
    have HX := Lib.hid X.drew
    have HY := Lib.hid Y.drew
    have HT := Lib.hid T.drew
    have HGr := Lib.hid G.drew
    obtain ⟨p0, p1, p2, p3, p4, p5⟩ := X.six
    clear X Y T G
    go_region_held3 (fun w' => w'.cell? ⟨sx, 1, none⟩ = some (.int .i64 x.a) ∧ w'.cell? ⟨sx, 2, none⟩ = some (.int .i64 x.b))
      (refine ⟨?_, ?_⟩ <;> (repeat (first | with_reducible assumption | with_reducible refine far_drew ?_)))
      (first
        | (go_at_call 7; (with_reducible refine (next_x _ _ _ _ (by omega) (by omega) HT.out).mono ?_); rintro e w8 ⟨r, -, -, rfl, T8, g8⟩
           replace HX := Lib.hid (HX.out.past g8 (by omega))
           replace HY := Lib.hid (HY.out.past g8 (by omega))
           replace HGr := Lib.hid (HGr.out.past g8 (Nat.le_refl _))
           replace HT := Lib.hid T8
           clear T8 g8 p0 p1 p2 p3 p4 p5
           obtain ⟨p0, p1, p2, p3, p4, p5⟩ := HX.out.six))
    all_goals go_wp2
    all_goals go_meet
    all_goals exact ⟨⟨_, _, _, rfl, rfl, rfl⟩, x, y, hmx, HX.out, HY.out, HT.out, HGr.out⟩
  case rest =>
  clear X Y T G hmx x y
  obtain ⟨⟨p, q, r, rfl, rfl, rfl⟩, x, y, hmx, X, Y, T, G⟩ := hcut
  go_wp2_with fail
  with_reducible refine (next_x _ _ _ _ (by omega) (by omega) T).mono ?_
  rintro e w3 ⟨u, u0, u1, rfl, T3, g3⟩
  replace X := X.past g3 (by omega)
  replace Y := Y.past g3 (by omega)
  replace G := G.past g3 (Nat.le_refl _)
  clear T g3
  go_upto_if 69 with fail
  go_cut [7, 8] from 67 to 73 (fun v7 v8 wx => (∃ p q : Int, v7 = .int .i64 p ∧ v8 = .int .i64 q) ∧ PlW w sx sw wx)
  case first =>
    by_cases hq : u = 0
    · subst hq
      go_wp2_with fail
      with_reducible refine (next_x _ _ _ _ (by omega) (by omega) T3).mono ?_
      rintro e w4 ⟨p2, -, -, rfl, T4, g4⟩
      replace X := X.past g4 (by omega)
      replace Y := Y.past g4 (by omega)
      replace G := G.past g4 (Nat.le_refl _)
      clear T3 g4
      go_wp2_with fail
      with_reducible refine (next_x _ _ _ _ (by omega) (by omega) T4).mono ?_
      rintro e w5 ⟨q2, -, -, rfl, T5, g5⟩
      replace X := X.past g5 (by omega)
      replace Y := Y.past g5 (by omega)
      replace G := G.past g5 (Nat.le_refl _)
      clear T4 g5
      go_wp2
      go_meet
      exact ⟨⟨_, _, rfl, rfl⟩, x, y, hmx, X, Y, T5, G⟩
    · have hqd : (u == 0) = false := beqF hq
      go_wp2_with fail
      go_meet
      exact ⟨⟨_, _, rfl, rfl⟩, x, y, hmx, X, Y, T3, G⟩
  case rest =>
  clear X Y T3 G hmx x y p q u0 u1 u
  obtain ⟨⟨p, q, rfl, rfl⟩, x, y, hmx, X, Y, T, G⟩ := hcut
  go_wp2_with fail
  with_reducible refine (next_x _ _ _ _ (by omega) (by omega) T).mono ?_
  rintro e w3 ⟨u, u0, u1, rfl, T3, g3⟩
  replace X := X.past g3 (by omega)
  replace Y := Y.past g3 (by omega)
  replace G := G.past g3 (Nat.le_refl _)
  clear T g3
  go_upto_if 76 with fail
  go_cut [9] from 74 to 78 (fun v9 wx => (∃ r : Int, v9 = .int .i64 r) ∧ PlW w sx sw wx)
  case first =>
    by_cases hq : u = 0
    · subst hq
      go_wp2_with fail
      with_reducible refine (odd_d _ _ _ T3 (by have := X.lt; omega)).mono ?_
      rintro e w4 ⟨p2, -, rfl, T4, g4⟩
      replace X := X.past g4 (by omega)
      replace Y := Y.past g4 (by omega)
      replace G := G.past g4 (Nat.le_refl _)
      clear T3 g4
      go_wp2
      go_meet
      exact ⟨⟨_, rfl⟩, x, y, hmx, X, Y, T4, G⟩
    · have hqd : (u == 0) = false := beqF hq
      go_wp2_with fail
      go_meet
      exact ⟨⟨_, rfl⟩, x, y, hmx, X, Y, T3, G⟩
  case rest =>
  clear X Y T3 G hmx x y r u0 u1 u
  obtain ⟨⟨r, rfl⟩, x, y, hmx, X, Y, T, G⟩ := hcut
  go_wp2_with fail
  with_reducible refine (odd_d _ _ _ T (by have := X.lt; omega)).mono ?_
  rintro e w4 ⟨n, hn, rfl, -, g4⟩
  have HN := Lib.hid hn
  replace X := X.past g4 (by omega)
  replace Y := Y.past g4 (by omega)
  replace G := G.past g4 (Nat.le_refl _)
  obtain ⟨z, hz⟩ : ∃ z, plW y x p q r = z := ⟨_, rfl⟩
  obtain ⟨PL, hp⟩ : ∃ PL, plL y x p q r = PL := ⟨_, rfl⟩
  obtain ⟨er, he⟩ : ∃ er, plE y x p q r = er := ⟨_, rfl⟩
  obtain ⟨mv, hmv⟩ : ∃ mv, mrkF y = mv := ⟨_, rfl⟩
  obtain ⟨mb, hmb⟩ : ∃ mb, mrkB y = mb := ⟨_, rfl⟩
  obtain ⟨cb, hcb⟩ : ∃ cb, wokB y = cb := ⟨_, rfl⟩
  obtain ⟨fn, hfn⟩ : ∃ fn, firF n = fn := ⟨_, rfl⟩
  obtain ⟨gn, hgn⟩ : ∃ gn, groF n = gn := ⟨_, rfl⟩
  have hlen := plL_len y x p q r
  rw [hp] at hlen
  have ZB := Lib.hid hz
  have PB := Lib.hid hp
  have EB := Lib.hid he
  have MV := Lib.hid hmv
  have MB := Lib.hid hmb
  have CB := Lib.hid hcb
  have FN := Lib.hid hfn
  have GN := Lib.hid hgn
  have HL := Lib.hid hlen
  have HM := Lib.hid hmx
  clear T g4 hz hp he hmv hmb hcb hfn hgn hlen hn hmx
  obtain ⟨p0, p1, p2, p3, p4, p5⟩ := X.six
  obtain ⟨y0, y1, y2, y3, y4, y5⟩ := Y.three
  go_wp2_with fail
  with_reducible refine (plan_q y x p q r _ HM.out (hZ.grew G) ZB.out PB.out EB.out).mono ?_
  rintro e w8 ⟨vp, rfl, RP, g8⟩
  have k8 := (Grew.refl w8).alloc (.cells (csW z) 32)
  replace X := X.grew (g8.trans k8)
  replace Y := Y.grew (g8.trans k8)
  replace G := G.trans (g8.trans k8)
  have Z1 := Own.new w8 32 (csW z)
  have R1 := Lib.hid (RP.grew k8)
  clear RP g8 k8 p0 p1 p2 p3 p4 p5 y0 y1 y2 y3 y4 y5
  obtain ⟨p0, p1, p2, p3, p4, p5⟩ := X.six
  obtain ⟨y0, y1, y2, y3, y4, y5⟩ := Y.three
  go_wp2_with fail
  with_reducible refine (qplan_q y x p q r _ ZB.out PB.out EB.out).mono ?_
  rintro e w10 ⟨vq, rfl, RQ, g8⟩
  have k8 := (Grew.refl w10).alloc (.cells (csW z) 32)
  replace Y := Y.grew (g8.trans k8)
  replace G := G.trans (g8.trans k8)
  replace Z1 := Z1.grew (g8.trans k8)
  replace R1 := Lib.hid (R1.out.grew (g8.trans k8))
  have Z2 := Own.new w10 32 (csW z)
  have R2 := Lib.hid (RQ.grew k8)
  clear RQ g8 k8 p0 p1 p2 p3 p4 p5 y0 y1 y2 y3 y4 y5 X HM ZB PB EB
  obtain ⟨y0, y1, y2, y3, y4, y5⟩ := Y.three
  go_wp2_with fail
  with_reducible refine (marker_v y _ MV.out MB.out).mono ?_
  rintro e w11 ⟨rfl, g8⟩
  replace Y := Y.grew g8
  replace G := G.trans g8
  replace Z1 := Z1.grew g8
  replace Z2 := Z2.grew g8
  replace R1 := Lib.hid (R1.out.grew g8)
  replace R2 := Lib.hid (R2.out.grew g8)
  clear g8 y0 y1 y2 y3 y4 y5
  obtain ⟨y0, y1, y2, y3, y4, y5⟩ := Y.three
  go_wp2_with fail
  with_reducible refine (qmarker_v y _ MV.out MB.out).mono ?_
  rintro e w12 ⟨rfl, g8⟩
  replace Y := (Y.grew g8).drew
  replace G := (G.trans g8).drew
  replace Z1 := (Z1.grew g8).drew
  replace Z2 := (Z2.grew g8).drew
  replace R1 := Lib.hid ((R1.out.grew g8).drew)
  replace R2 := Lib.hid ((R2.out.grew g8).drew)
  clear g8 y0 y1 y2 y3 y4 y5 MV MB
  obtain ⟨y0, y1, y2, y3, y4, y5⟩ := Y.three
  obtain ⟨a0, a1, a2, a3, a4, a5⟩ := Z1.three
  obtain ⟨b0, b1, b2, b3, b4, b5⟩ := Z2.three
  obtain ⟨s1, hs1⟩ : ∃ s1, w8.heap.size = s1 := ⟨_, rfl⟩
  obtain ⟨s2, hs2⟩ : ∃ s2, w10.heap.size = s2 := ⟨_, rfl⟩
  go_upto_region 23 with fail
  try rw [hs1, hs2]
  rw [hs1] at Z1 a0 a1 a2 a3 a4 a5
  rw [hs2] at Z2 b0 b1 b2 b3 b4 b5
  clear hs1 hs2
  go_region_held3 (fun w' => w'.cell? ⟨sw, 0, none⟩ = some (.int .i64 y.s) ∧ w'.cell? ⟨sw, 1, none⟩ = some (.int .i64 y.n) ∧ w'.cell? ⟨sw, 2, none⟩ = some (.int .i64 y.y) ∧ w'.cell? ⟨s1, 0, none⟩ = some (.int .i64 z.s) ∧ w'.cell? ⟨s1, 1, none⟩ = some (.int .i64 z.n) ∧ w'.cell? ⟨s1, 2, none⟩ = some (.int .i64 z.y) ∧ w'.cell? ⟨s2, 0, none⟩ = some (.int .i64 z.s) ∧ w'.cell? ⟨s2, 1, none⟩ = some (.int .i64 z.n) ∧ w'.cell? ⟨s2, 2, none⟩ = some (.int .i64 z.y))
    (refine ⟨?_, ?_, ?_, ?_, ?_, ?_, ?_, ?_, ?_⟩ <;> (repeat (first | with_reducible assumption | with_reducible refine far_drew ?_)))
    (first
        | (go_at_call 13; (with_reducible refine (ints_same _ _ _ R1.out R2.out HL.out).mono ?_); rintro e w20 ⟨rfl, g8⟩
           replace Y := Y.grew g8
           replace G := G.trans g8
           replace Z1 := Z1.grew g8
           replace Z2 := Z2.grew g8
           clear g8 y0 y1 y2 y3 y4 y5 a0 a1 a2 a3 a4 a5 b0 b1 b2 b3 b4 b5 R1 R2
           obtain ⟨y0, y1, y2, y3, y4, y5⟩ := Y.three
           obtain ⟨a0, a1, a2, a3, a4, a5⟩ := Z1.three
           obtain ⟨b0, b1, b2, b3, b4, b5⟩ := Z2.three)
        | (go_at_call 14; (with_reducible refine (wcheck_v y _ CB.out).mono ?_); rintro e w20 ⟨rfl, g8⟩
           replace Y := Y.grew g8
           replace G := G.trans g8
           replace Z1 := Z1.grew g8
           replace Z2 := Z2.grew g8
           clear g8 y0 y1 y2 y3 y4 y5 a0 a1 a2 a3 a4 a5 b0 b1 b2 b3 b4 b5
           obtain ⟨y0, y1, y2, y3, y4, y5⟩ := Y.three
           obtain ⟨a0, a1, a2, a3, a4, a5⟩ := Z1.three
           obtain ⟨b0, b1, b2, b3, b4, b5⟩ := Z2.three)
        | (go_at_call 15; (with_reducible refine (qcheck_v y _ CB.out).mono ?_); rintro e w20 ⟨rfl, g8⟩
           replace Y := Y.grew g8
           replace G := G.trans g8
           replace Z1 := Z1.grew g8
           replace Z2 := Z2.grew g8
           clear g8 y0 y1 y2 y3 y4 y5 a0 a1 a2 a3 a4 a5 b0 b1 b2 b3 b4 b5
           obtain ⟨y0, y1, y2, y3, y4, y5⟩ := Y.three
           obtain ⟨a0, a1, a2, a3, a4, a5⟩ := Z1.three
           obtain ⟨b0, b1, b2, b3, b4, b5⟩ := Z2.three)
        | (go_at_call 16; (with_reducible refine (first_v n _ (hZ.grew G) FN.out).mono ?_); rintro e w20 ⟨rfl, rfl⟩)
        | (go_at_call 17; (with_reducible refine (qfirst_v n _ FN.out).mono ?_); rintro e w20 ⟨rfl, rfl⟩)
        | (go_at_call 18; (with_reducible refine (wgrown_v n _ GN.out).mono ?_); rintro e w20 ⟨rfl, rfl⟩)
        | (go_at_call 19; (with_reducible refine (qgrown_v n _ HN.out GN.out).mono ?_); rintro e w20 ⟨rfl, rfl⟩)
        | (go_at_call 20; (with_reducible refine (awake_any _ (hZ.grew G)).mono ?_); rintro e w20 ⟨rfl, g8⟩
           replace Y := Y.grew g8
           replace G := G.trans g8
           replace Z1 := Z1.grew g8
           replace Z2 := Z2.grew g8
           clear g8 y0 y1 y2 y3 y4 y5 a0 a1 a2 a3 a4 a5 b0 b1 b2 b3 b4 b5
           obtain ⟨y0, y1, y2, y3, y4, y5⟩ := Y.three
           obtain ⟨a0, a1, a2, a3, a4, a5⟩ := Z1.three
           obtain ⟨b0, b1, b2, b3, b4, b5⟩ := Z2.three))
  all_goals go_wp2
  all_goals go_ret
  all_goals exact ⟨rfl, G⟩

theorem Tryd.own : ownKnob Tryd.prog.godebug = none := by kernel_rfl
theorem Tryd.laidOut : laidOutB Tryd.prog = true := by kernel_rfl

theorem readaheadPlans_contract (W : World) (base : Nat) (args : Array Value) (H : Type) (enc : TypeId × Value → H) (ds : List (DataW H)) (p : List MemPlace)
    (hval : ∀ (j : Nat) t v, Tryd.f3.params[j]? = some t → args[j]? = some v → Value.okWide Tryd.prog W .any base t v)
    (hA : DataW.TrodAll enc Tryd.prog W 0 (fun _ => true) true Tryd.f3.params.toList args.toList ds p) (hL : laidMetH Tryd.prog [("pagecache/readahead.sizes", Rows.laid_pagecache_readahead_sizes)] W) :
    (∃ d0, ds = [d0]) ∧ Calls Tryd.prog 3 args W fun e W' => e = .returned (.bool true) ∧ Below W.heap.size W W' := by
  rw [Tryd.params3] at hval hA
  obtain ⟨v0, d0, p0, ha, hd, hp, h0⟩ := args_1 hA
  subst ha hd
  obtain ⟨A0, c0, xs0, rfl, hr0, hm0⟩ := open_introw Tryd.underlying22 Tryd.underlying3 (by kernel_rfl) (hval 0 _ _ rfl rfl) h0
  exact ⟨⟨_, rfl⟩, (plans_core A0 c0 xs0 W hr0 hm0 (of_laid hL)).mono fun _ _ h => h⟩

set_option maxRecDepth 100000 in
theorem readaheadPlans_lifted (os : Os) (started : os.Started) (H : Type) (enc : TypeId × Value → H) :
    ReturnsInHanded {} Tryd.checked os 3 .any (fun w args => (Rows.readaheadPlansSpec.pre enc Tryd.prog Tryd.f3 Rows.readaheadPlansRow.domain false w args ∧ laidMetH Tryd.prog [("pagecache/readahead.sizes", Rows.laid_pagecache_readahead_sizes)] w) ∧ sizedMet enc Tryd.prog Tryd.f3 (OpenSpec.ofChange Rows.readaheadPlansSpec) false w args)
      (Rows.readaheadPlansSpec.post enc Tryd.prog Tryd.f3 false true false false) := by
  refine returnsInHanded_of_change_and (C := Tryd.checked) (X := fun w _ => laidMetH Tryd.prog [("pagecache/readahead.sizes", Rows.laid_pagecache_readahead_sizes)] w) (fun _ _ _ hh h => h.of_heap hh) Tryd.own started (by kernel_rfl) Tryd.func3
    (ChangeSpec.witness_shaped (enc := enc) (C := Tryd.checked) (os := os) (X := fun w _ => laidMetH Tryd.prog [("pagecache/readahead.sizes", Rows.laid_pagecache_readahead_sizes)] w) false (World.laidAll Tryd.prog os [("pagecache/readahead.sizes", Rows.laid_pagecache_readahead_sizes)]) #[.slice none 0 0] 8 (World.laidAll_os _ _ _)
      (World.shaped_of_ZipB (by kernel_rfl) (by kernel_rfl)) (by kernel_rfl) (by kernel_rfl) (by kernel_rfl)
      (by rw [MakeChecks.laidMetH_plain _ _ _ (by kernel_rfl)]; exact laidMet_laidAll _ (by kernel_rfl) (by kernel_rfl))) ?_
  intro W base args ds gs before hval hW _ _ hL _
  obtain ⟨p, q, hA, hV, hrest⟩ := id hW
  obtain ⟨⟨d0, rfl⟩, hc⟩ := readaheadPlans_contract W base args H enc ds p hval hA hL
  obtain ⟨rfl, -⟩ := trodVars_none hV
  refine hc.mono fun e W' ⟨he, hb⟩ => ⟨_, he, ?_⟩
  exact law_close (tb := 4) Tryd.laidOut (by rw [Tryd.params3]; decide +kernel) Tryd.underlying4 rfl rfl hW rfl rfl rfl hb

theorem readaheadPlans_holds : Rows.ReadaheadPlansSaid :=
  OpenClaim.holds_of_wide 3 Tryd.f3 rfl rfl rfl rfl rfl rfl rfl ⟨rfl, rfl, rfl, rfl, rfl⟩ rfl rfl rfl rfl rfl (by kernel_rfl) Tryd.func3 (by kernel_rfl)
    (of_decide_eq_true (by kernel_rfl)) (by unfold Func.isWrapper; first | (rw [if_pos (by decide +kernel)]; kernel_rfl) | (rw [if_neg (by decide +kernel)]; exact ⟨rfl, rfl⟩))
    (fun os started H enc _ => readaheadPlans_lifted os started H enc)
theorem readaheadPlans_card : Rows.ReadaheadPlansCardSaid :=
  Claim7.holds_tied_plain_at .later [] [.data] true (true, "bbe472f733f79f83881be3010bf559a9cc438f3dc1f5b568f2096c7ff7523005") false readaheadPlans_holds (fun _ h => by cases h) (by kernel_rfl) (fun _ h => by cases h) readaheadPlans_row_tie rfl ⟨rfl, rfl⟩ (by kernel_rfl) rfl
    (fun f fn hf hfn => by
      obtain rfl : f = 3 := Option.some.inj ((show Tryd.prog.funcNamed "pagecache/pagecachelaw07.ReadaheadPlans" = some 3 by kernel_rfl).symm.trans hf) |>.symm
      obtain rfl : fn = Tryd.f3 := (Option.some.inj (Tryd.func3.symm.trans hfn)).symm
      exact ⟨by kernel_rfl, fun j t ht => by
        rw [Tryd.params3] at ht
        have hm : t ∈ [22] := by simpa using Array.mem_of_getElem? ht
        have hall : ([22].all fun u => !Tryd.prog.wantsStandIn u) = true := by kernel_rfl
        exact (show Tryd.prog.wantsStandIn t = false by simpa using List.all_eq_true.1 hall t hm)⟩)
    (by kernel_rfl)
end Go.Proofs.YtfljohgcbihhbaaDoor
