/- Package stream: comparing streams, the greatest and the least of them (layer 6): contracts. -/
import Derived.Test.YtfljohgcbihhbaaDoorStA
namespace Go.Proofs.YtfljohgcbihhbaaDoor
open Go.RowKit Go.Mine

def cmpI (x y : Int) : Int := if x < y then -1 else if y < x then 1 else 0
def orI (x y : Int) : Int := if x = 0 then y else x
def clmI (x y : Str) : Int := orI (cmpI x.h y.h) (cmpI x.t y.t)
theorem isNaN_any (x : Int) (w : World) : Calls Tryd.prog 74 #[.int .i64 x] w (RetS (.bool false) w) := by
  go_enter Tryd.func74, Tryd.ntmps74
  go_wp2
  go_ret
  exact ⟨rfl, rfl⟩
theorem compare_any (x y : Int) (w : World) : Calls Tryd.prog 67 #[.int .i64 x, .int .i64 y] w (RetS (.int .i64 (cmpI x y)) w) := by
  go_enter Tryd.func67, Tryd.ntmps67
  go_wp2_with (go_at_call 74; (with_reducible refine (isNaN_any _ _).mono ?_); rintro e w2 ⟨rfl, rfl⟩)
  all_goals go_ret
  all_goals exact ⟨ret_int (by unfold cmpI; (repeat (first | rw [if_pos (by omega)] | rw [if_neg (by omega)]))), rfl⟩
theorem byStamp_any (x y : Str) (w : World) : Calls Tryd.prog 61 #[strV x, strV y] w (RetG (.int .i64 (cmpI x.t y.t)) w) := by
  have G : Grew w ((w.alloc (.cells (csS x) 29)).alloc (.cells (csS y) 29)) := ((Grew.refl _).alloc _).alloc _
  go_enter Tryd.func61, Tryd.ntmps61
  go_wp2_with (go_at_call 67; (with_reducible refine (compare_any _ _ _).mono ?_); rintro e w2 ⟨rfl, rfl⟩)
  go_ret
  exact ⟨rfl, G⟩
theorem or_any (g : Nat) (x y : Int) (w : World) (h0 : w.cell? ⟨g, 0, none⟩ = some (.int .i64 x)) (h1 : w.cell? ⟨g, 1, none⟩ = some (.int .i64 y)) :
    Calls Tryd.prog 66 #[.slice (some ⟨g, 0, none⟩) 2 2] w (RetS (.int .i64 (orI x y)) w) := by
  by_cases hx : x = 0
  · subst hx
    by_cases hy : y = 0
    · subst hy
      go_enter Tryd.func66, Tryd.ntmps66
      go_wp2
      refine wp_loop_rounds 3 ?_
      rw [rounds_succ]
      go_wp2
      rw [rounds_succ]
      go_wp2
      rw [rounds_succ]
      go_wp2
      go_ret
      exact ⟨rfl, rfl⟩
    · have ey := (show (y == 0) = false by simpa using hy)
      have en : (y != 0) = true := by simpa using hy
      go_enter Tryd.func66, Tryd.ntmps66
      go_wp2
      refine wp_loop_rounds 3 ?_
      rw [rounds_succ]
      go_wp2
      rw [rounds_succ]
      go_wp2
      go_ret
      exact ⟨ret_int (by simp [orI]), rfl⟩
  · have en : (x != 0) = true := by simpa using hx
    go_enter Tryd.func66, Tryd.ntmps66
    go_wp2
    refine wp_loop_rounds 3 ?_
    rw [rounds_succ]
    go_wp2
    go_ret
    exact ⟨ret_int (by simp [orI, hx]), rfl⟩
set_option maxHeartbeats 1000000 in
theorem byClaim_any (x y : Str) (w : World) : Calls Tryd.prog 58 #[strV x, strV y] w (RetG (.int .i64 (clmI x y)) w) := by
  go_enter Tryd.func58, Tryd.ntmps58
  go_upto_region 1 with fail
  have X := (Own.new w 29 (csS x)).alloc (.cells (csS y) 29)
  have Y := Own.new2 w (.cells (csS x) 29) 29 (csS y)
  have G1 : Grew w ((w.alloc (.cells (csS x) 29)).alloc (.cells (csS y) 29)) := ((Grew.refl _).alloc _).alloc _
  generalize World.alloc (World.alloc w _) _ = w1 at *
  generalize hsx : w.heap.size = sx at *
  have HS := Lib.hid hsx
  clear hsx
  replace X := X.drew
  replace Y := Y.drew
  replace G1 := G1.drew
  obtain ⟨X0, X1, X2, X3, X4, X5⟩ := X.six
  obtain ⟨Y0, Y1, Y2, Y3, Y4, Y5⟩ := Y.six
  have l_X := X.lt
  have l_Y := Y.lt
  go_region_held3 (fun w' => (w'.cell? ⟨sx, 0, none⟩ = some (.int .i64 x.k) ∧ w'.cell? ⟨sx, 1, none⟩ = some (.int .i64 x.a) ∧ w'.cell? ⟨sx, 2, none⟩ = some (.int .i64 x.b) ∧ w'.cell? ⟨sx, 3, none⟩ = some (.int .i64 x.d) ∧ w'.cell? ⟨sx, 4, none⟩ = some (.int .i64 x.h) ∧ w'.cell? ⟨sx, 5, none⟩ = some (.int .i64 x.t))
      ∧ w'.cell? ⟨sx + 1, 0, none⟩ = some (.int .i64 y.k) ∧ w'.cell? ⟨sx + 1, 1, none⟩ = some (.int .i64 y.a) ∧ w'.cell? ⟨sx + 1, 2, none⟩ = some (.int .i64 y.b) ∧ w'.cell? ⟨sx + 1, 3, none⟩ = some (.int .i64 y.d) ∧ w'.cell? ⟨sx + 1, 4, none⟩ = some (.int .i64 y.h) ∧ w'.cell? ⟨sx + 1, 5, none⟩ = some (.int .i64 y.t))
    (refine ⟨⟨?_, ?_, ?_, ?_, ?_, ?_⟩, ?_, ?_, ?_, ?_, ?_, ?_⟩ <;> (repeat (first | with_reducible assumption | with_reducible refine far_alloc ?_)))
    (first
      | (go_at_call 67; (with_reducible refine (compare_any _ _ _).mono ?_); rintro e w2 ⟨rfl, rfl⟩)
      | (go_at_call 61; (with_reducible refine (byStamp_any _ _ _).mono ?_); rintro e w3 ⟨rfl, g3⟩; replace X := X.grew g3; replace Y := Y.grew g3; replace G1 := G1.trans g3; clear X0 X1 X2 X3 X4 X5 Y0 Y1 Y2 Y3 Y4 Y5; obtain ⟨X0, X1, X2, X3, X4, X5⟩ := X.six; obtain ⟨Y0, Y1, Y2, Y3, Y4, Y5⟩ := Y.six)
      | (go_at_call 66; (with_reducible refine (or_any _ _ _ _ (Own.two (Own.new _ _ _)).1 (Own.two (Own.new _ _ _)).2.1).mono ?_); rintro e w4 ⟨rfl, rfl⟩))
  all_goals go_wp2
  all_goals go_ret
  all_goals exact ⟨rfl, G1.alloc _⟩
/-- The greatest, from f 0 to f k. -/
def maxN (f : Nat → Str) : Nat → Str
  | 0 => f 0
  | k + 1 => if 0 < clmI (f (k + 1)) (maxN f k) then f (k + 1) else maxN f k
set_option maxHeartbeats 2000000 in
theorem maxFunc_any (a : Option Addr) (n cp : Nat) (f : Nat → Str) (w : World) (hn : n ≤ 1000000) (h1 : 1 ≤ n) (hr : Rd w a n f) :
    Calls Tryd.prog 57 #[.slice a n cp, .func (.func 58) #[] #[]] w (RetG (strV (maxN f (n - 1))) w) := by
  have HR := Lib.hid hr
  obtain ⟨g, rfl, hg, he⟩ := hr 0 (by omega)
  obtain ⟨p0, p1, p2, p3, p4, p5⟩ := he
  rw [show 0 * 6 = 0 from rfl] at p0
  rw [show 0 * 6 + 1 = 1 from rfl] at p1
  rw [show 0 * 6 + 2 = 2 from rfl] at p2
  rw [show 0 * 6 + 3 = 3 from rfl] at p3
  rw [show 0 * 6 + 4 = 4 from rfl] at p4
  rw [show 0 * 6 + 5 = 5 from rfl] at p5
  clear hr
  go_enter Tryd.func57, Tryd.ntmps57
  go_wp2
  have X := Own.new2 w (.cells z6 29) 29 (csS (f 0))
  have R := (Own.new w 29 z6).alloc (.cells (csS (f 0)) 29)
  have G0 : Grew w ((w.alloc (.cells z6 29)).alloc (.cells (csS (f 0)) 29)) := ((Grew.refl w).alloc _).alloc _
  generalize World.alloc (World.alloc w _) _ = w1 at *
  clear p0 p1 p2 p3 p4 p5
  go_loopw [6] (fun i wr => ∃ k : Nat, k + 1 ≤ n ∧ i = .int .i64 ((k + 1 : Nat) : Int) ∧ Own wr (w.heap.size + 1) 29 (csS (maxN f k)) ∧ Own wr w.heap.size 29 z6 ∧ Grew w wr) (fun i _ => n - (intOf i).toNat)
  case atStart => exact ⟨0, by omega, rfl, X, R, G0⟩
  case round =>
    clear X R G0 w1
    obtain ⟨k, hk, rfl, X, R, G⟩ := hrel
    have l_X := X.lt
    have l_R := R.lt
    by_cases hlt : k + 1 < n
    · obtain ⟨g', e', hg', he⟩ := HR.out (k + 1) hlt
      obtain rfl : g = g' := by injection e' with e'; injection e'
      have HM := Lib.hid (show maxN f (k + 1) = if 0 < clmI (f (k + 1)) (maxN f k) then f (k + 1) else maxN f k from rfl)
      have p := he.grew G hg
      clear he e'
      generalize maxN f k = m at *
      generalize f (k + 1) = x at *
      have G1 := G.drew
      have P := Lib.hid p
      replace X := X.drew
      replace R := R.drew
      obtain ⟨p0, p1, p2, p3, p4, p5⟩ := p
      obtain ⟨X0, X1, X2, X3, X4, X5⟩ := X.six
      have hsz := G.size
      have i0 : (0 : Int) ≤ (k : Int) + 1 := by omega
      have i1 : (k : Int) + 1 < (n : Int) := by omega
      go_upto_region 7 with fail
      go_region_held3 (fun w' => (w'.cell? ⟨w.heap.size + 1, 0, none⟩ = some (.int .i64 m.k) ∧ w'.cell? ⟨w.heap.size + 1, 1, none⟩ = some (.int .i64 m.a) ∧ w'.cell? ⟨w.heap.size + 1, 2, none⟩ = some (.int .i64 m.b) ∧ w'.cell? ⟨w.heap.size + 1, 3, none⟩ = some (.int .i64 m.d) ∧ w'.cell? ⟨w.heap.size + 1, 4, none⟩ = some (.int .i64 m.h) ∧ w'.cell? ⟨w.heap.size + 1, 5, none⟩ = some (.int .i64 m.t))
          ∧ w'.cell? ⟨g, (k + 1) * 6, none⟩ = some (.int .i64 x.k) ∧ w'.cell? ⟨g, (k + 1) * 6 + 1, none⟩ = some (.int .i64 x.a) ∧ w'.cell? ⟨g, (k + 1) * 6 + 2, none⟩ = some (.int .i64 x.b) ∧ w'.cell? ⟨g, (k + 1) * 6 + 3, none⟩ = some (.int .i64 x.d) ∧ w'.cell? ⟨g, (k + 1) * 6 + 4, none⟩ = some (.int .i64 x.h) ∧ w'.cell? ⟨g, (k + 1) * 6 + 5, none⟩ = some (.int .i64 x.t))
        (refine ⟨⟨?_, ?_, ?_, ?_, ?_, ?_⟩, ?_, ?_, ?_, ?_, ?_, ?_⟩ <;> (repeat (first | with_reducible assumption | with_reducible refine far_drew ?_)))
        (first | (go_at_call 58; (with_reducible refine (byClaim_any _ _ _).mono ?_); rintro e w3 ⟨rfl, g3⟩; replace X := X.grew g3; replace R := R.grew g3; replace G1 := G1.trans g3; have p := ElS.grew P.out ((Grew.refl _).drew.trans g3) (by omega); clear X0 X1 X2 X3 X4 X5 p0 p1 p2 p3 p4 p5; obtain ⟨X0, X1, X2, X3, X4, X5⟩ := X.six; obtain ⟨p0, p1, p2, p3, p4, p5⟩ := p))
      obtain ⟨X0, X1, X2, X3, X4, X5, X6, X7, X8, X9, X10, X11⟩ := X.sixA
      by_cases hc : 0 < clmI x m
      · have HM2 := Lib.hid (show maxN f (k + 1) = x from by rw [HM.out, if_pos hc])
        go_wp2
        generalize hw : World.setCell _ _ _ = wz
        refine ⟨⟨k + 1, by omega, by go_num, ?_, R.far6 hw (by omega), G1.far6 hw (by omega)⟩, by simp [intOf]; omega⟩
        rw [HM2.out]
        exact X.store6 rfl hw
      · have HM2 := Lib.hid (show maxN f (k + 1) = m from by rw [HM.out, if_neg hc])
        go_wp2
        exact ⟨⟨k + 1, by omega, by go_num, by rw [HM2.out]; exact X, R, G1⟩, by simp [intOf]; omega⟩
    · have hkn : n = k + 1 := by omega
      subst hkn
      obtain ⟨X0, X1, X2, X3, X4, X5⟩ := X.six
      obtain ⟨R0, R1, R2, R3, R4, R5, R6, R7, R8, R9, R10, R11⟩ := R.sixA
      go_wp2
      generalize hw : World.setCell _ _ _ = wz
      have RR := R.store6 rfl hw
      have gB := G.far6 hw (by omega)
      clear R0 R1 R2 R3 R4 R5 R6 R7 R8 R9 R10 R11
      obtain ⟨R0, R1, R2, R3, R4, R5, R6, R7, R8, R9, R10, R11⟩ := RR.sixA
      refine bodyPost_ret (v := strV (maxN f k)) (by simp [results, Tryd.results57, go_sem, R0, R1, R2, R3, R4, R5]) rfl ⟨rfl, gB⟩
/-- The least, from f 0 to f k. -/
def minN (f : Nat → Str) : Nat → Str
  | 0 => f 0
  | k + 1 => if cmpI (f (k + 1)).t (minN f k).t < 0 then f (k + 1) else minN f k
set_option maxHeartbeats 2000000 in
theorem minFunc_any (a : Option Addr) (n cp : Nat) (f : Nat → Str) (w : World) (hn : n ≤ 1000000) (h1 : 1 ≤ n) (hr : Rd w a n f) :
    Calls Tryd.prog 60 #[.slice a n cp, .func (.func 61) #[] #[]] w (RetG (strV (minN f (n - 1))) w) := by
  have HR := Lib.hid hr
  obtain ⟨g, rfl, hg, he⟩ := hr 0 (by omega)
  obtain ⟨p0, p1, p2, p3, p4, p5⟩ := he
  rw [show 0 * 6 = 0 from rfl] at p0
  rw [show 0 * 6 + 1 = 1 from rfl] at p1
  rw [show 0 * 6 + 2 = 2 from rfl] at p2
  rw [show 0 * 6 + 3 = 3 from rfl] at p3
  rw [show 0 * 6 + 4 = 4 from rfl] at p4
  rw [show 0 * 6 + 5 = 5 from rfl] at p5
  clear hr
  go_enter Tryd.func60, Tryd.ntmps60
  go_wp2
  have X := Own.new2 w (.cells z6 29) 29 (csS (f 0))
  have R := (Own.new w 29 z6).alloc (.cells (csS (f 0)) 29)
  have G0 : Grew w ((w.alloc (.cells z6 29)).alloc (.cells (csS (f 0)) 29)) := ((Grew.refl w).alloc _).alloc _
  generalize World.alloc (World.alloc w _) _ = w1 at *
  clear p0 p1 p2 p3 p4 p5
  go_loopw [6] (fun i wr => ∃ k : Nat, k + 1 ≤ n ∧ i = .int .i64 ((k + 1 : Nat) : Int) ∧ Own wr (w.heap.size + 1) 29 (csS (minN f k)) ∧ Own wr w.heap.size 29 z6 ∧ Grew w wr) (fun i _ => n - (intOf i).toNat)
  case atStart => exact ⟨0, by omega, rfl, X, R, G0⟩
  case round =>
    clear X R G0 w1
    obtain ⟨k, hk, rfl, X, R, G⟩ := hrel
    have l_X := X.lt
    have l_R := R.lt
    by_cases hlt : k + 1 < n
    · obtain ⟨g', e', hg', he⟩ := HR.out (k + 1) hlt
      obtain rfl : g = g' := by injection e' with e'; injection e'
      have HM := Lib.hid (show minN f (k + 1) = if cmpI (f (k + 1)).t (minN f k).t < 0 then f (k + 1) else minN f k from rfl)
      have p := he.grew G hg
      clear he e'
      generalize minN f k = m at *
      generalize f (k + 1) = x at *
      have G1 := G.drew
      have P := Lib.hid p
      replace X := X.drew
      replace R := R.drew
      obtain ⟨p0, p1, p2, p3, p4, p5⟩ := p
      obtain ⟨X0, X1, X2, X3, X4, X5⟩ := X.six
      have hsz := G.size
      have i0 : (0 : Int) ≤ (k : Int) + 1 := by omega
      have i1 : (k : Int) + 1 < (n : Int) := by omega
      go_upto_region 7 with fail
      go_region_held3 (fun w' => (w'.cell? ⟨w.heap.size + 1, 0, none⟩ = some (.int .i64 m.k) ∧ w'.cell? ⟨w.heap.size + 1, 1, none⟩ = some (.int .i64 m.a) ∧ w'.cell? ⟨w.heap.size + 1, 2, none⟩ = some (.int .i64 m.b) ∧ w'.cell? ⟨w.heap.size + 1, 3, none⟩ = some (.int .i64 m.d) ∧ w'.cell? ⟨w.heap.size + 1, 4, none⟩ = some (.int .i64 m.h) ∧ w'.cell? ⟨w.heap.size + 1, 5, none⟩ = some (.int .i64 m.t))
          ∧ w'.cell? ⟨g, (k + 1) * 6, none⟩ = some (.int .i64 x.k) ∧ w'.cell? ⟨g, (k + 1) * 6 + 1, none⟩ = some (.int .i64 x.a) ∧ w'.cell? ⟨g, (k + 1) * 6 + 2, none⟩ = some (.int .i64 x.b) ∧ w'.cell? ⟨g, (k + 1) * 6 + 3, none⟩ = some (.int .i64 x.d) ∧ w'.cell? ⟨g, (k + 1) * 6 + 4, none⟩ = some (.int .i64 x.h) ∧ w'.cell? ⟨g, (k + 1) * 6 + 5, none⟩ = some (.int .i64 x.t))
        (refine ⟨⟨?_, ?_, ?_, ?_, ?_, ?_⟩, ?_, ?_, ?_, ?_, ?_, ?_⟩ <;> (repeat (first | with_reducible assumption | with_reducible refine far_drew ?_)))
        (first | (go_at_call 61; (with_reducible refine (byStamp_any _ _ _).mono ?_); rintro e w3 ⟨rfl, g3⟩; replace X := X.grew g3; replace R := R.grew g3; replace G1 := G1.trans g3; have p := ElS.grew P.out ((Grew.refl _).drew.trans g3) (by omega); clear X0 X1 X2 X3 X4 X5 p0 p1 p2 p3 p4 p5; obtain ⟨X0, X1, X2, X3, X4, X5⟩ := X.six; obtain ⟨p0, p1, p2, p3, p4, p5⟩ := p))
      obtain ⟨X0, X1, X2, X3, X4, X5, X6, X7, X8, X9, X10, X11⟩ := X.sixA
      by_cases hc : cmpI x.t m.t < 0
      · have HM2 := Lib.hid (show minN f (k + 1) = x from by rw [HM.out, if_pos hc])
        go_wp2
        generalize hw : World.setCell _ _ _ = wz
        refine ⟨⟨k + 1, by omega, by go_num, ?_, R.far6 hw (by omega), G1.far6 hw (by omega)⟩, by simp [intOf]; omega⟩
        rw [HM2.out]
        exact X.store6 rfl hw
      · have HM2 := Lib.hid (show minN f (k + 1) = m from by rw [HM.out, if_neg hc])
        go_wp2
        exact ⟨⟨k + 1, by omega, by go_num, by rw [HM2.out]; exact X, R, G1⟩, by simp [intOf]; omega⟩
    · have hkn : n = k + 1 := by omega
      subst hkn
      obtain ⟨X0, X1, X2, X3, X4, X5⟩ := X.six
      obtain ⟨R0, R1, R2, R3, R4, R5, R6, R7, R8, R9, R10, R11⟩ := R.sixA
      go_wp2
      generalize hw : World.setCell _ _ _ = wz
      have RR := R.store6 rfl hw
      have gB := G.far6 hw (by omega)
      clear R0 R1 R2 R3 R4 R5 R6 R7 R8 R9 R10 R11
      obtain ⟨R0, R1, R2, R3, R4, R5, R6, R7, R8, R9, R10, R11⟩ := RR.sixA
      refine bodyPost_ret (v := strV (minN f k)) (by simp [results, Tryd.results60, go_sem, R0, R1, R2, R3, R4, R5]) rfl ⟨rfl, gB⟩
end Go.Proofs.YtfljohgcbihhbaaDoor
