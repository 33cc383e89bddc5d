/- Package stream: lists (layer 6): contracts. -/
import Derived.Test.YtfljohgcbihhbaaDoorSt2
import Derived.Test.YtfljohgcbihhbaaDoorStL
namespace Go.Proofs.YtfljohgcbihhbaaDoor
open Go.RowKit Go.Mine

/-- The closure that hasStamp makes of a box. -/
theorem hasStamp1_any (x : Str) (t : Int) (c : Nat) (w : World) (h : w.cell? ⟨c, 0, none⟩ = some (.int .i64 t)) (hc : c < w.heap.size) :
    Calls Tryd.prog 73 #[strV x, .pointer (some ⟨c, 0, none⟩)] w (RetG (.bool (x.t == t)) w) := by
  have G : Grew w (w.alloc (.cells (csS x) 29)) := (Grew.refl _).alloc _
  go_enter Tryd.func73, Tryd.ntmps73
  go_wp2
  go_ret
  exact ⟨rfl, G⟩
def RetJ (p : Int → Prop) (w : World) (e : Ending) (w' : World) : Prop := ∃ n : Int, p n ∧ e = .returned (.int .i64 n) ∧ Grew w w'
def IdxP (f : Nat → Str) (t : Int) (n : Nat) (i : Int) : Prop := decide (0 ≤ i) = hasN f t n
set_option maxHeartbeats 1000000 in
theorem indexFunc_any (a : Option Addr) (n cp : Nat) (f : Nat → Str) (t : Int) (c : Nat) (w : World) (hn : n ≤ 1000000) (hr : Rd w a n f) (h : w.cell? ⟨c, 0, none⟩ = some (.int .i64 t)) (hc : c < w.heap.size) :
    Calls Tryd.prog 76 #[.slice a n cp, .func (.func 73) #[] #[.pointer (some ⟨c, 0, none⟩)]] w (RetJ (IdxP f t n) w) := by
  have HR := Lib.hid hr
  clear hr
  go_enter Tryd.func76, Tryd.ntmps76
  go_wp2
  go_loopw [8] (fun i wr => ∃ k : Nat, k ≤ n ∧ i = .int .i64 k ∧ hasN f t k = false ∧ Grew w wr) (fun i _ => n - (intOf i).toNat)
  case atStart => exact ⟨0, by omega, rfl, rfl, Grew.refl _⟩
  case round =>
    obtain ⟨k, hk, rfl, hh, G⟩ := hrel
    have HH := Lib.hid hh
    clear hh
    by_cases hlt : k < n
    · obtain ⟨g, rfl, hg, he⟩ := HR.out k hlt
      obtain ⟨p0, p1, p2, p3, p4, p5⟩ := he.grew G hg
      have c0 := (G.cells.1 c 0 hc).trans h
      have hs := G.size
      generalize hx : f k = x at *
      have HX := Lib.hid hx
      clear hx he
      cases hb : x.t == t
      all_goals
        have HB := Lib.hid (show hasN f t (k + 1) = _ from by rw [hasN, HH.out, HX.out, hb, Bool.false_or])
        go_wp2_with (go_at_call 73; (with_reducible refine (hasStamp1_any _ _ _ _ c0 (by omega)).mono ?_); rw [hb]; rintro e w1 ⟨rfl, g1⟩)
      · exact ⟨⟨k + 1, by omega, by go_num, HB.out, G.trans g1⟩, by simp [intOf]; omega⟩
      · go_ret
        exact ⟨k, by unfold IdxP; rw [hasN_mono HB.out n (by omega)]; simp, rfl, G.trans g1⟩
    · have hkn : k = n := by omega
      subst hkn
      go_wp2
      go_ret
      exact ⟨-1, by unfold IdxP; rw [HH.out]; simp, rfl, G⟩
theorem containsFunc_any (a : Option Addr) (n cp : Nat) (f : Nat → Str) (t : Int) (c : Nat) (w : World) (hn : n ≤ 1000000) (hr : Rd w a n f) (h : w.cell? ⟨c, 0, none⟩ = some (.int .i64 t)) (hc : c < w.heap.size) :
    Calls Tryd.prog 72 #[.slice a n cp, .func (.func 73) #[] #[.pointer (some ⟨c, 0, none⟩)]] w (RetG (.bool (hasN f t n)) w) := by
  have HR := Lib.hid hr
  clear hr
  go_enter Tryd.func72, Tryd.ntmps72
  go_wp2_with fail
  with_reducible refine (indexFunc_any _ _ _ _ _ _ _ hn HR.out h hc).mono ?_
  rintro e w1 ⟨i, hi, rfl, g⟩
  have HI := Lib.hid hi
  clear hi
  go_wp2
  go_ret
  exact ⟨ret_bool HI.out, g⟩
theorem hasStamp_any (a : Option Addr) (n cp : Nat) (f : Nat → Str) (t : Int) (w : World) (hn : n ≤ 1000000) (hr : Rd w a n f) :
    Calls Tryd.prog 64 #[.slice a n cp, .int .i64 t] w (RetG (.bool (hasN f t n)) w) := by
  have HR := Lib.hid hr
  clear hr
  have G : Grew w (w.alloc (.cells #[.int .i64 t] 3)) := (Grew.refl _).alloc _
  have X := (Own.new w 3 #[.int .i64 t]).one
  go_enter Tryd.func64, Tryd.ntmps64
  go_wp2_with fail
  with_reducible refine (containsFunc_any _ _ _ _ _ _ _ hn (HR.out.grew G) X.1 (by simp)).mono ?_
  rintro e w1 ⟨rfl, g⟩
  go_wp2
  go_ret
  exact ⟨rfl, G.trans g⟩
set_option maxHeartbeats 1000000 in
theorem lastStamp_any (a : Option Addr) (n cp : Nat) (f : Nat → Str) (w : World) (hn : n ≤ 1000000) (hr : Rd w a n f) :
    Calls Tryd.prog 41 #[.slice a n cp] w (RetG (.int .i64 (lastN f n)) w) := by
  have HR := Lib.hid hr
  clear hr
  go_enter Tryd.func41, Tryd.ntmps41
  go_wp2
  go_loopw [3, 8] (fun v i wr => ∃ k : Nat, k ≤ n ∧ i = .int .i64 k ∧ v = .int .i64 (lastN f k) ∧ Grew w wr) (fun _ i _ => n - (intOf i).toNat)
  case atStart => exact ⟨0, by omega, rfl, rfl, Grew.refl _⟩
  case round =>
    obtain ⟨k, hk, rfl, rfl, G⟩ := hrel
    by_cases hlt : k < n
    · obtain ⟨g, rfl, hg, he⟩ := HR.out k hlt
      obtain ⟨p0, p1, p2, p3, p4, p5⟩ := he.grew G hg
      clear he
      have HL := Lib.hid (show lastN f (k + 1) = if lastN f k < (f k).t then (f k).t else lastN f k from rfl)
      generalize lastN f k = z at *
      generalize f k = x at *
      have hZ : ∀ y : Array Value, Grew w (wr.alloc (.cells y 29)) := fun y => G.alloc _
      go_wp2
      exact ⟨⟨k + 1, by omega, by go_num, by rw [HL.out], hZ _⟩, by simp [intOf]; omega⟩
    · have hkn : k = n := by omega
      subst hkn
      go_wp2
      go_ret
      exact ⟨rfl, G⟩
theorem hasStamp_v {v : Bool} (a : Option Addr) (n cp : Nat) (f : Nat → Str) (t : Int) (w : World) (hn : n ≤ 1000000) (hr : Rd w a n f) (h : hasN f t n = v) :
    Calls Tryd.prog 64 #[.slice a n cp, .int .i64 t] w (RetG (.bool v) w) := h ▸ hasStamp_any a n cp f t w hn hr
theorem isRight_f {v : Bool} (x : Str) (w : World) (hm : Mild x) (h : rgtB x = v) : Calls Tryd.prog 43 #[strV x] w (RetG (.bool v) w) := isRight_v x w hm h
set_option maxHeartbeats 1000000 in
theorem check_any (a : Option Addr) (n cp : Nat) (f : Nat → Str) (w : World) (hn : n ≤ 1000000) (hc : n ≤ cp) (_hcp : cp ≤ maxLen) (hr : Rd w a n f) (hm : ∀ k, k < n → Mild (f k)) :
    Calls Tryd.prog 47 #[.slice a n cp] w (RetG (.bool (chkB f n)) w) := by
  have HR := Lib.hid hr
  have HM := Lib.hid hm
  clear hr hm
  by_cases h4 : n ≤ 4
  · have HC := Lib.hid (show chkB f n = ckN f n from by simp [chkB, h4])
    go_enter Tryd.func47, Tryd.ntmps47
    go_wp2
    go_loopw [10] (fun i wr => ∃ k : Nat, k ≤ n ∧ i = .int .i64 k ∧ ckN f k = true ∧ Grew w wr) (fun i _ => n - (intOf i).toNat)
    case atStart => exact ⟨0, by omega, rfl, rfl, Grew.refl _⟩
    case round =>
      obtain ⟨k, hk, rfl, hh, G⟩ := hrel
      have HH := Lib.hid hh
      clear hh
      by_cases hlt : k < n
      · obtain ⟨g, rfl, hg, he⟩ := HR.out k hlt
        obtain ⟨p0, p1, p2, p3, p4, p5⟩ := he.grew G hg
        have HX := Lib.hid (show ckN f (k + 1) = (rgtB (f k) && !hasN f (f k).t k) from by rw [ckN, HH.out, Bool.true_and])
        have hmk := HM.out k hlt
        clear he
        obtain ⟨x, hx⟩ : ∃ x, f k = x := ⟨_, rfl⟩
        rw [hx] at p0 p1 p2 p3 p4 p5 HX hmk
        have HX2 := Lib.hid hx
        have HMK := Lib.hid hmk
        clear hx hmk
        go_upto_region 6 with fail
        have X := Own.new wr 29 (csS x)
        have G1 : Grew w (wr.alloc (.cells (csS x) 29)) := G.alloc _
        generalize World.alloc wr _ = w1 at *
        generalize wr.heap.size = sx at *
        clear p0 p1 p2 p3 p4 p5
        replace X := X.drew
        replace G1 := G1.drew
        obtain ⟨X0, X1, X2, X3, X4, X5⟩ := X.six
        have l_X := X.lt
        have hk0 : (0 : Int) ≤ (k : Int) := by omega
        have hkc : (k : Int) ≤ (cp : Int) := by omega
        cases hb : rgtB x
        · have HB := Lib.hid (show ckN f (k + 1) = false from by rw [HX.out, hb]; rfl)
          first | (go_region_with (first | (go_at_call 43; (with_reducible refine (isRight_f _ _ HMK.out hb).mono ?_); rintro e w2 ⟨rfl, g2⟩; replace X := X.grew g2; replace G1 := G1.trans g2; clear X0 X1 X2 X3 X4 X5; obtain ⟨X0, X1, X2, X3, X4, X5⟩ := X.six))) | fail
          all_goals go_wp2
          all_goals go_ret
          all_goals exact ⟨ret_bool (by rw [HC.out, ckN_mono HB.out n (by omega)]), G1⟩
        · have HB := Lib.hid (show ckN f (k + 1) = !hasN f x.t k from by rw [HX.out, hb]; rfl)
          cases hs : hasN f x.t k
          all_goals
            go_region_held3 (fun w' => w'.cell? ⟨sx, 0, none⟩ = some (.int .i64 x.k) ∧ w'.cell? ⟨sx, 1, none⟩ = some (.int .i64 x.a) ∧ w'.cell? ⟨sx, 2, none⟩ = some (.int .i64 x.b) ∧ w'.cell? ⟨sx, 3, none⟩ = some (.int .i64 x.d) ∧ w'.cell? ⟨sx, 4, none⟩ = some (.int .i64 x.h) ∧ w'.cell? ⟨sx, 5, none⟩ = some (.int .i64 x.t))
              (refine ⟨?_, ?_, ?_, ?_, ?_, ?_⟩ <;> with_reducible assumption)
              (first
                | (go_at_call 43; (with_reducible refine (isRight_f _ _ HMK.out hb).mono ?_); rintro e w2 ⟨rfl, g2⟩; replace X := X.grew g2; replace G1 := G1.trans g2; clear X0 X1 X2 X3 X4 X5; obtain ⟨X0, X1, X2, X3, X4, X5⟩ := X.six)
                | (go_at_call 64; (with_reducible refine (hasStamp_v _ _ _ _ _ _ (by omega) ((HR.out.grew G1).less hk) hs).mono ?_); rintro e w3 ⟨rfl, g3⟩; replace X := X.grew g3; replace G1 := G1.trans g3; clear X0 X1 X2 X3 X4 X5; obtain ⟨X0, X1, X2, X3, X4, X5⟩ := X.six))
            go_wp2
          · exact ⟨⟨k + 1, by omega, by go_num, by rw [HB.out, hs]; rfl, G1⟩, by simp [intOf]; omega⟩
          · go_ret
            exact ⟨ret_bool (by rw [HC.out, ckN_mono (show ckN f (k + 1) = false from by rw [HB.out, hs]; rfl) n (by omega)]), G1⟩
      · have hkn : k = n := by omega
        subst hkn
        go_wp2
        go_ret
        exact ⟨ret_bool (by rw [HC.out, HH.out]), G⟩
  · go_enter Tryd.func47, Tryd.ntmps47
    go_wp2
    go_ret
    exact ⟨ret_bool (by simp [chkB, h4]), Grew.refl _⟩
end Go.Proofs.YtfljohgcbihhbaaDoor
