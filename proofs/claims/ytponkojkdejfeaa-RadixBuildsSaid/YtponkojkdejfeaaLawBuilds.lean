/- RadixBuilds holds: Build and the reference's Build have the same error, or make the same tree. -/
import Derived.Test.YtponkojkdejfeaaRb4
import Derived.Test.YtponkojkdejfeaaRx15
import Derived.Test.YtponkojkdejfeaaTape
import Derived.Test.YtponkojkdejfeaaRegRow
import Derived.Deep.DeepCutAuto
namespace Go.Proofs.Ytponkojkdejfeaa
open Go.ChangeShapes Go.WideShapes Go.ChangeAt Go.RowKit Go.Mine

abbrev slB : Array Value := #[.int .i64 0, .int .i64 3, .int .i64 4, .int .i64 20, .int .i64 255, .int .i64 256, .int .i64 (-1)]
theorem slB_at (p : Nat) (hp : p < 7) : ∃ z : Int, slB[p]? = some (.int .i64 z) := by
  have : p = 0 ∨ p = 1 ∨ p = 2 ∨ p = 3 ∨ p = 4 ∨ p = 5 ∨ p = 6 := by omega
  rcases this with rfl | rfl | rfl | rfl | rfl | rfl | rfl <;> exact ⟨_, rfl⟩
def BuildJ (W : World) (B b : Nat) (r : Value) (L : List En) (A : Act) (d : Nat → Bool) (a : Act) (w : World) : Prop := ∃ (v19 v20 v21 v22 v23 v24 v25 v26 v27 v28 v29 v30 v31 v32 v4 : Value) (s p g : Nat) (z q2 q3 : Int) (r2 : Value), a = puts A [(19, v19), (20, v20), (21, v21), (22, v22), (23, v23), (24, v24), (25, v25), (26, v26), (27, v27), (28, v28), (29, v29), (30, v30), (31, v31), (32, v32), (4, v4)]
  ∧ (Tp B w b)
  ∧ (Grew W w)
  ∧ (B ≤ w.heap.size)
  ∧ (Hid (d 14 = false → v4 = r))
  ∧ (Hid (d 13 = false → RowE 51 3 encE w B r L))
  ∧ Hid (d 0 = true → v19 = r)
  ∧ Hid (d 1 = true → v20 = .slice (some ⟨s, 0, none⟩) 7 7 ∧ (B ≤ s ∧ (d 13 = false → Own w s 3 slB)))
  ∧ Hid (d 2 = true → v21 = .pointer (some ⟨b, 0, none⟩))
  ∧ Hid (d 3 = true → v22 = .int .i64 (p : Int) ∧ p < 7)
  ∧ Hid (d 4 = true → d 1 = true ∧ d 3 = true ∧ v23 = .pointer (some ⟨s, p, none⟩))
  ∧ Hid (d 5 = true → d 3 = true ∧ v24 = .int .i64 z)
  ∧ Hid (d 6 = true → v25 = .pointer (some ⟨b, 0, none⟩))
  ∧ Hid (d 7 = true → v26 = .int .i64 q2 ∧ (0 ≤ q2 ∧ q2 < 6))
  ∧ Hid (d 8 = true → d 7 = true ∧ v27 = .int .i64 (q2 - 2))
  ∧ Hid (d 9 = true → v28 = .pointer (some ⟨b, 0, none⟩))
  ∧ Hid (d 10 = true → v29 = .int .i64 q3 ∧ (0 ≤ q3 ∧ q3 < 9))
  ∧ Hid (d 11 = true → d 5 = true ∧ d 8 = true ∧ d 10 = true ∧ v30 = .agg #[.int .i64 z, .int .i64 (q2 - 2), .int .i64 q3])
  ∧ Hid (d 12 = true → d 11 = true ∧ v31 = .slice (some ⟨g, 0, none⟩) 1 1 ∧ (B ≤ g ∧ (d 13 = false → Own w g 51 #[.int .i64 z, .int .i64 (q2 - 2), .int .i64 q3])))
  ∧ Hid (d 13 = true → d 0 = true ∧ d 12 = true ∧ v32 = r2 ∧ (∃ en : En, -2 ≤ en.2.1 ∧ en.2.1 ≤ 3 ∧ RowE 51 3 encE w B r2 (L ++ [en])))
  ∧ Hid (d 14 = true → d 13 = true ∧ v4 = r2)
def BuildCut (W : World) (B b : Nat) (L : List En) (v : Value) (wx : World) : Prop := ∃ (r2 : Value) (en : En), v = r2 ∧ -2 ≤ en.2.1 ∧ en.2.1 ≤ 3 ∧ RowE 51 3 encE wx B r2 (L ++ [en]) ∧ Tp B wx b ∧ Grew W wx ∧ B ≤ wx.heap.size
theorem same_zero' (w : World) : Calls Try.prog 34 #[.agg #[.int .i64 0, .slice none 0 0, .int .i64 0, .int .i64 0], .agg #[.int .i64 0, .slice none 0 0, .int .i64 0, .int .i64 0]] w (RetG (.bool true) w) :=
  Same_f 0 f0 _ _ 0 0 0 0 (fun _ => True) (fun _ => True) w (tree0 w _).node (tree0 w _).node good0
/-- What Build leaves: a tree that is the same each time. -/
def Bt (w : World) (L : List En) (h : Nat) (s : Value) (x m : Int) : Prop := (bldE L = 0 ∧ TreeF w (fun _ => True) h (fnOf L) s x m ∧ h = hF (topOf L)) ∨ (h = 0 ∧ s = .slice none 0 0 ∧ x = 0 ∧ m = 0 ∧ bldE L ≠ 0)
theorem Bt.grew {w w' : World} {L : List En} {h : Nat} {s : Value} {x m : Int} (t : Bt w L h s x m) (g : Grew w w') : Bt w' L h s x m := t.imp (fun ⟨a, b, c⟩ => ⟨a, b.grew g, c⟩) id
theorem Bt.slice {w : World} {L : List En} {h : Nat} {s : Value} {x m : Int} (t : Bt w L h s x m) : ∃ a j c, s = .slice a j c := by
  rcases t with ⟨-, t, -⟩ | ⟨-, rfl, -⟩
  · exact t.node.slice
  · exact ⟨_, _, _, rfl⟩
theorem Bt.same {w : World} {L : List En} {h h' : Nat} {s s' : Value} {x m x' m' : Int} (t : Bt w L h s x m) (t' : Bt w L h' s' x' m') :
    Calls Try.prog 34 #[.agg #[.int .i64 h, s, .int .i64 x, .int .i64 m], .agg #[.int .i64 h', s', .int .i64 x', .int .i64 m']] w (RetG (.bool true) w) := by
  rcases t with ⟨a, b, rfl⟩ | ⟨rfl, rfl, rfl, rfl, a⟩ <;> rcases t' with ⟨a', b', rfl⟩ | ⟨rfl, rfl, rfl, rfl, a'⟩
  · exact Same_f _ (fnOf L) s s' _ _ _ _ _ _ w b.node b'.node b.good
  · exact absurd a a'
  · exact absurd a' a
  · exact same_zero' w
theorem retB_bt {L : List En} {w w' : World} {e : Ending} (q : RetBd L w e w') : Grew w w' ∧ ∃ h s x m, e = .returned (.tuple #[treeV h s x m, .int .i64 (bldE L)]) ∧ Bt w' L h s x m := by
  obtain ⟨g, ⟨hb, s, x, m, he, t⟩ | ⟨hb, he⟩⟩ := q
  · exact ⟨g, _, s, x, m, by rw [he, hb], .inl ⟨hb, t.mono (fun _ _ _ => trivial), rfl⟩⟩
  · exact ⟨g, 0, _, 0, 0, he, .inr ⟨rfl, rfl, rfl, rfl, hb⟩⟩
theorem build_b (B : Nat) (v : Value) (L : List En) (w : World) (R : RowE 51 3 encE w B v L) (hL : L.length ≤ 300) (hw : ∀ e ∈ L, (Lit.int .i64 e.2.1).wf = true) :
    Calls Try.prog 35 #[v] w (fun e w' => Grew w w' ∧ ∃ h s x m, e = .returned (.tuple #[treeV h s x m, .int .i64 (bldE L)]) ∧ Bt w' L h s x m) := (build_f B v L w R hL hw).mono fun _ _ q => retB_bt q
theorem refBuild_b (B : Nat) (v : Value) (L : List En) (w : World) (R : RowE 51 3 encE w B v L) (hL : L.length ≤ 300) (hw : ∀ e ∈ L, (Lit.int .i64 e.2.1).wf = true) :
    Calls Try.prog 36 #[v] w (fun e w' => Grew w w' ∧ ∃ h s x m, e = .returned (.tuple #[treeV h s x m, .int .i64 (bldE L)]) ∧ Bt w' L h s x m) := (refBuild_f B v L w R hL hw).mono fun _ _ q => retB_bt q
set_option maxRecDepth 100000 in
set_option maxHeartbeats 8000000 in
theorem builds_core (A : Option Addr) (c : Nat) (xs : List Int) (w : World) (hr : IntRow w A xs) (hm : xs.length ≤ maxLen) :
    Calls Try.prog 5 #[.slice A xs.length c] w (RetG (.bool true) w) := by
  have tp := Tp.made hr hm c 32
  clear hr hm
  generalize hX : xs.length = X at *
  clear hX
  go_enter Try.func5, Try.ntmps5
  go_wp2_with fail
  have gA := (Grew.refl w).alloc (.cells #[.slice A X c, .int .i64 0] 32)
  generalize World.alloc w _ = w0 at *
  have hsz0 : w.heap.size < w0.heap.size := tp.lt
  with_reducible refine (next_x _ _ 6 _ (by omega) (by omega) tp).mono ?_
  rintro e w1 ⟨q, q0, q1, rfl, tp1, g1⟩
  obtain ⟨N0, rfl⟩ := Int.eq_ofNat_of_zero_le q0
  have gA1 := gA.past g1 (Nat.le_refl _)
  have hB1 : w.heap.size + 1 ≤ w1.heap.size := tp1.lt
  obtain ⟨b, hb⟩ : ∃ b, w.heap.size = b := ⟨_, rfl⟩
  obtain ⟨B, hB⟩ : ∃ B, w.heap.size + 1 = B := ⟨_, rfl⟩
  rw [hB] at tp1 hB1
  rw [hb] at tp1 ⊢
  have hbB : b < B := by omega
  have hWb : w.heap.size ≤ b := by omega
  have hWB : w.heap.size ≤ B := by omega
  clear tp gA g1 hsz0 hb hB
  go_wp2_with fail
  go_loopw [4, 5] (fun vl kv wr => ∃ (N : Nat) (L : List En) (r : Value), r = vl ∧ kv = .int .i64 N ∧ L.length + N ≤ 6 ∧ (∀ e ∈ L, -2 ≤ e.2.1 ∧ e.2.1 ≤ 3) ∧ RowE 51 3 encE wr B r L ∧ Tp B wr b ∧ Grew w wr ∧ B ≤ wr.heap.size) (fun _ kv _ => (intOf kv).toNat)
  case atStart => exact ⟨N0, [], _, rfl, rfl, by simp; omega, fun e he => absurd he (by simp), RowE.nil _ _, tp1, gA1, hB1⟩
  case round =>
    clear tp1 gA1 hB1
    obtain ⟨N, L, r, rfl, rfl, hLN, hok, R, tp, gA, hBw⟩ := hrel
    obtain ⟨w0, rfl⟩ : ∃ w0 : World, w0 = wr := ⟨_, rfl⟩
    by_cases hlt : 0 < N
    · have HLEN := Lib.hid (show L.length < 1000000 by omega)
      have HOK := Lib.hid hok
      clear hok
      go_upto_region 6 with fail
      refine wp_region_inv (J0 := BuildJ w B b r L) (by kernel_rfl) (by kernel_rfl) ?inv0 ?invS ?invE
      case inv0 =>
        exact ⟨_, _, _, _, _, _, _, _, _, _, _, _, _, _, _, 0, 0, 0, 0, 0, 0, undef, puts_self [19, 20, 21, 22, 23, 24, 25, 26, 27, 28, 29, 30, 31, 32, 4] _, tp.drew, gA.drew, hBw, (Lib.hid fun _ => rfl), (Lib.hid fun _ => R.drew), Lib.hid fun h => absurd h (by decide), Lib.hid fun h => absurd h (by decide), Lib.hid fun h => absurd h (by decide), Lib.hid fun h => absurd h (by decide), Lib.hid fun h => absurd h (by decide), Lib.hid fun h => absurd h (by decide), Lib.hid fun h => absurd h (by decide), Lib.hid fun h => absurd h (by decide), Lib.hid fun h => absurd h (by decide), Lib.hid fun h => absurd h (by decide), Lib.hid fun h => absurd h (by decide), Lib.hid fun h => absurd h (by decide), Lib.hid fun h => absurd h (by decide), Lib.hid fun h => absurd h (by decide), Lib.hid fun h => absurd h (by decide)⟩
      case invE =>
        rintro a9 w9 ⟨v19, v20, v21, v22, v23, v24, v25, v26, v27, v28, v29, v30, v31, v32, v4, s, p, g, z, q2, q3, r2, rfl, tp, gr, hBw, FV, FR, F0, F1, F2, F3, F4, F5, F6, F7, F8, F9, F10, F11, F12, F13, F14⟩
        have hv4 := (F14.out (by decide)).2
        have F13 := (F13.out (by decide)).2.2.2
        subst hv4
        simp only [puts, List.foldl, Act.put, List.setIfInBounds_toArray, List.set_cons_zero, List.set_cons_succ]
        cases F13 with | intro en F13 => ?_
        have e1 := F13.1
        have e2 := F13.2.1
        have HRE := Lib.hid F13.2.2
        clear F0 F1 F2 F3 F4 F5 F6 F7 F8 F9 F10 F11 F12 F13 F14 FR
        go_wp2_with fail
        go_roundw
        case rel => exact ⟨N - 1, L ++ [en], _, rfl, by rw [show ((N : Int) - 1) = ((N - 1 : Nat) : Int) from by omega], by rw [List.length_append]; simp; omega, fun e he => (List.mem_append.1 he).elim (HOK.out e) (fun h => by simp at h; subst h; exact ⟨e1, e2⟩), HRE.out, tp, gr, hBw⟩
        case measure => simp [intOf]; omega
      case invS =>
        refine StepsI.cons ?st0 ?mo0
        case st0 =>
          rintro d a9 w1 ⟨v19, v20, v21, v22, v23, v24, v25, v26, v27, v28, v29, v30, v31, v32, v4, s, p, g, z, q2, q3, r2, ea, tp, gr, hBw, FV, FR, F0, F1, F2, F3, F4, F5, F6, F7, F8, F9, F10, F11, F12, F13, F14⟩ hd hA K hK
          subst ea
          clear hA
          simp only [puts, List.foldl, Act.put, List.setIfInBounds_toArray, List.set_cons_zero, List.set_cons_succ]
          have HHd := Lib.hid hd
          clear hd
          have N14 : d 14 = false := by cases h : d 14 with | false => rfl | true => exact absurd (F13.out (F14.out h).1).1 (by rw [HHd.out]; decide)
          rw [FV.out N14]
          clear N14
          go_simp
          refine hK _ _ ?_
          exact ⟨(r), v20, v21, v22, v23, v24, v25, v26, v27, v28, v29, v30, v31, v32, (r), s, p, g, z, q2, q3, r2, by simp only [puts, List.foldl, Act.put, List.setIfInBounds_toArray, List.set_cons_zero, List.set_cons_succ], tp,
    gr,
    hBw,
    (Lib.hid fun _ => rfl),
    FR,
    Lib.hid fun _ => rfl,
    F1,
    F2,
    F3,
    F4,
    F5,
    F6,
    F7,
    F8,
    F9,
    F10,
    F11,
    F12,
    Lib.hid fun h => absurd ((F13.out h).1) (by rw [HHd.out]; decide),
    Lib.hid fun h => absurd ((F13.out (F14.out h).1).1) (by rw [HHd.out]; decide)⟩
        refine StepsI.cons ?st1 ?mo1
        case st1 =>
          rintro d a9 w1 ⟨v19, v20, v21, v22, v23, v24, v25, v26, v27, v28, v29, v30, v31, v32, v4, s, p, g, z, q2, q3, r2, ea, tp, gr, hBw, FV, FR, F0, F1, F2, F3, F4, F5, F6, F7, F8, F9, F10, F11, F12, F13, F14⟩ hd hA K hK
          subst ea
          clear hA
          simp only [puts, List.foldl, Act.put, List.setIfInBounds_toArray, List.set_cons_zero, List.set_cons_succ]
          have HHd := Lib.hid hd
          clear hd
          go_simp
          refine hK _ _ ?_
          exact ⟨v19, (.slice (some ⟨w1.heap.size, 0, none⟩) 7 7), v21, v22, v23, v24, v25, v26, v27, v28, v29, v30, v31, v32, v4, w1.heap.size, p, g, z, q2, q3, r2, by simp only [puts, List.foldl, Act.put, List.setIfInBounds_toArray, List.set_cons_zero, List.set_cons_succ], (tp.alloc _),
    (gr.alloc _),
    (by rw [World.size_alloc]; omega),
    FV,
    (Lib.hid fun k => (FR.out k).alloc _),
    F0,
    Lib.hid fun _ => ⟨rfl, ⟨hBw, fun _ => Own.new _ _ _⟩⟩,
    F2,
    F3,
    Lib.hid fun h => absurd ((F4.out h).1) (by rw [HHd.out]; decide),
    F5,
    F6,
    F7,
    F8,
    F9,
    F10,
    F11,
    Lib.hid fun h => ⟨(F12.out h).1, (F12.out h).2.1, ⟨(F12.out h).2.2.1, fun k => ((F12.out h).2.2.2 k).alloc _⟩⟩,
    Lib.hid fun h => ⟨(F13.out h).1, (F13.out h).2.1, (F13.out h).2.2.1, (F13.out h).2.2.2.elim fun en k => ⟨en, k.1, k.2.1, k.2.2.alloc _⟩⟩,
    F14⟩
        refine StepsI.cons ?st2 ?mo2
        case st2 =>
          rintro d a9 w1 ⟨v19, v20, v21, v22, v23, v24, v25, v26, v27, v28, v29, v30, v31, v32, v4, s, p, g, z, q2, q3, r2, ea, tp, gr, hBw, FV, FR, F0, F1, F2, F3, F4, F5, F6, F7, F8, F9, F10, F11, F12, F13, F14⟩ hd hA K hK
          subst ea
          clear hA
          simp only [puts, List.foldl, Act.put, List.setIfInBounds_toArray, List.set_cons_zero, List.set_cons_succ]
          have HHd := Lib.hid hd
          clear hd
          go_simp
          refine hK _ _ ?_
          exact ⟨v19, v20, (.pointer (some ⟨b, 0, none⟩)), v22, v23, v24, v25, v26, v27, v28, v29, v30, v31, v32, v4, s, p, g, z, q2, q3, r2, by simp only [puts, List.foldl, Act.put, List.setIfInBounds_toArray, List.set_cons_zero, List.set_cons_succ], tp,
    gr,
    hBw,
    FV,
    FR,
    F0,
    F1,
    Lib.hid fun _ => rfl,
    F3,
    F4,
    F5,
    F6,
    F7,
    F8,
    F9,
    F10,
    F11,
    F12,
    F13,
    F14⟩
        refine StepsI.cons ?st3 ?mo3
        case st3 =>
          rintro d a9 w1 ⟨v19, v20, v21, v22, v23, v24, v25, v26, v27, v28, v29, v30, v31, v32, v4, s, p, g, z, q2, q3, r2, ea, tp, gr, hBw, FV, FR, F0, F1, F2, F3, F4, F5, F6, F7, F8, F9, F10, F11, F12, F13, F14⟩ hd hA K hK
          subst ea
          simp [Aft, Region.binds] at hA
          have HD2 := Lib.hid (show d 2 = true by simp [hA])
          clear hA
          simp only [puts, List.foldl, Act.put, List.setIfInBounds_toArray, List.set_cons_zero, List.set_cons_succ]
          have E2 := F2.out HD2.out
          rw [E2]
          clear E2
          have HHd := Lib.hid hd
          clear hd
          go_simp
          go_wp2_with (go_at_call 12; (with_reducible refine (next_x _ _ 7 _ (by omega) (by omega) tp).mono ?_); rintro e w2 ⟨q, q10, q11, rfl, t2, g2⟩)
          obtain ⟨p2, rfl⟩ := Int.eq_ofNat_of_zero_le q10
          exact ⟨v19, v20, (.pointer (some ⟨b, 0, none⟩)), (.int .i64 (p2 : Int)), v23, v24, v25, v26, v27, v28, v29, v30, v31, v32, v4, s, p2, g, z, q2, q3, r2, by simp only [puts, List.foldl, Act.put, List.setIfInBounds_toArray, List.set_cons_zero, List.set_cons_succ], t2,
    (gr.past g2 hWb),
    (Nat.le_trans hBw g2.size),
    FV,
    (Lib.hid fun k => (FR.out k).past g2 hbB),
    F0,
    Lib.hid fun h => ⟨(F1.out h).1, ⟨(F1.out h).2.1, fun k => ((F1.out h).2.2 k).past g2 (by have := (F1.out h).2.1; omega)⟩⟩,
    Lib.hid fun h => rfl,
    Lib.hid fun _ => ⟨rfl, by omega⟩,
    Lib.hid fun h => absurd ((F4.out h).2.1) (by rw [HHd.out]; decide),
    Lib.hid fun h => absurd ((F5.out h).1) (by rw [HHd.out]; decide),
    F6,
    F7,
    F8,
    F9,
    F10,
    F11,
    Lib.hid fun h => ⟨(F12.out h).1, (F12.out h).2.1, ⟨(F12.out h).2.2.1, fun k => ((F12.out h).2.2.2 k).past g2 (by have := (F12.out h).2.2.1; omega)⟩⟩,
    Lib.hid fun h => ⟨(F13.out h).1, (F13.out h).2.1, (F13.out h).2.2.1, (F13.out h).2.2.2.elim fun en k => ⟨en, k.1, k.2.1, k.2.2.past g2 hbB⟩⟩,
    F14⟩
        refine StepsI.cons ?st4 ?mo4
        case st4 =>
          rintro d a9 w1 ⟨v19, v20, v21, v22, v23, v24, v25, v26, v27, v28, v29, v30, v31, v32, v4, s, p, g, z, q2, q3, r2, ea, tp, gr, hBw, FV, FR, F0, F1, F2, F3, F4, F5, F6, F7, F8, F9, F10, F11, F12, F13, F14⟩ hd hA K hK
          subst ea
          simp [Aft, Region.binds] at hA
          have HD1 := Lib.hid (show d 1 = true by simp [hA])
          have HD3 := Lib.hid (show d 3 = true by simp [hA])
          clear hA
          simp only [puts, List.foldl, Act.put, List.setIfInBounds_toArray, List.set_cons_zero, List.set_cons_succ]
          have E1 := F1.out HD1.out
          rw [E1.1]
          have hs0 := E1.2.1
          have SL := E1.2.2
          clear E1
          have E3 := F3.out HD3.out
          rw [E3.1]
          have hp := E3.2
          clear E3
          have HHd := Lib.hid hd
          clear hd
          have hp1 : (0 : Int) ≤ (p : Int) := by omega
          have hp2 : (p : Int) < 7 := by omega
          go_simp
          refine hK _ _ ?_
          exact ⟨v19, (.slice (some ⟨s, 0, none⟩) 7 7), v21, (.int .i64 (p : Int)), (.pointer (some ⟨s, p, none⟩)), v24, v25, v26, v27, v28, v29, v30, v31, v32, v4, s, p, g, z, q2, q3, r2, by simp only [puts, List.foldl, Act.put, List.setIfInBounds_toArray, List.set_cons_zero, List.set_cons_succ], tp,
    gr,
    hBw,
    FV,
    FR,
    F0,
    Lib.hid fun h => ⟨rfl, (F1.out h).2⟩,
    F2,
    Lib.hid fun h => ⟨rfl, (F3.out h).2⟩,
    Lib.hid fun _ => ⟨HD1.out, HD3.out, rfl⟩,
    F5,
    F6,
    F7,
    F8,
    F9,
    F10,
    F11,
    F12,
    F13,
    F14⟩
        refine StepsI.cons ?st5 ?mo5
        case st5 =>
          rintro d a9 w1 ⟨v19, v20, v21, v22, v23, v24, v25, v26, v27, v28, v29, v30, v31, v32, v4, s, p, g, z, q2, q3, r2, ea, tp, gr, hBw, FV, FR, F0, F1, F2, F3, F4, F5, F6, F7, F8, F9, F10, F11, F12, F13, F14⟩ hd hA K hK
          subst ea
          simp [Aft, Region.binds] at hA
          have HD4 := Lib.hid (show d 4 = true by simp [hA])
          clear hA
          simp only [puts, List.foldl, Act.put, List.setIfInBounds_toArray, List.set_cons_zero, List.set_cons_succ]
          have E4 := F4.out HD4.out
          rw [E4.2.2]
          clear E4
          have HHd := Lib.hid hd
          clear hd
          have N13 : d 13 = false := by cases h : d 13 with | false => rfl | true => exact absurd (F11.out (F12.out (F13.out h).2.1).1).1 (by rw [HHd.out]; decide)
          have HD1 := Lib.hid (F4.out HD4.out).1
          have HD3 := Lib.hid (F4.out HD4.out).2.1
          have SL := (F1.out HD1.out).2.2 N13
          have hp := (F3.out HD3.out).2
          have Z := slB_at p hp
          cases Z with | intro z0 Z => ?_
          have hc := (SL.cell p).trans Z
          have lS := SL.lt
          clear N13 Z
          go_simp
          refine hK _ _ ?_
          exact ⟨v19, v20, v21, v22, (.pointer (some ⟨s, p, none⟩)), (.int .i64 z0), v25, v26, v27, v28, v29, v30, v31, v32, v4, s, p, g, z0, q2, q3, r2, by simp only [puts, List.foldl, Act.put, List.setIfInBounds_toArray, List.set_cons_zero, List.set_cons_succ], tp,
    gr,
    hBw,
    FV,
    FR,
    F0,
    F1,
    F2,
    F3,
    Lib.hid fun h => ⟨(F4.out h).1, (F4.out h).2.1, rfl⟩,
    Lib.hid fun _ => ⟨HD3.out, rfl⟩,
    F6,
    F7,
    F8,
    F9,
    F10,
    Lib.hid fun h => absurd ((F11.out h).1) (by rw [HHd.out]; decide),
    Lib.hid fun h => absurd ((F11.out (F12.out h).1).1) (by rw [HHd.out]; decide),
    Lib.hid fun h => absurd ((F11.out (F12.out (F13.out h).2.1).1).1) (by rw [HHd.out]; decide),
    F14⟩
        refine StepsI.cons ?st6 ?mo6
        case st6 =>
          rintro d a9 w1 ⟨v19, v20, v21, v22, v23, v24, v25, v26, v27, v28, v29, v30, v31, v32, v4, s, p, g, z, q2, q3, r2, ea, tp, gr, hBw, FV, FR, F0, F1, F2, F3, F4, F5, F6, F7, F8, F9, F10, F11, F12, F13, F14⟩ hd hA K hK
          subst ea
          clear hA
          simp only [puts, List.foldl, Act.put, List.setIfInBounds_toArray, List.set_cons_zero, List.set_cons_succ]
          have HHd := Lib.hid hd
          clear hd
          go_simp
          refine hK _ _ ?_
          exact ⟨v19, v20, v21, v22, v23, v24, (.pointer (some ⟨b, 0, none⟩)), v26, v27, v28, v29, v30, v31, v32, v4, s, p, g, z, q2, q3, r2, by simp only [puts, List.foldl, Act.put, List.setIfInBounds_toArray, List.set_cons_zero, List.set_cons_succ], tp,
    gr,
    hBw,
    FV,
    FR,
    F0,
    F1,
    F2,
    F3,
    F4,
    F5,
    Lib.hid fun _ => rfl,
    F7,
    F8,
    F9,
    F10,
    F11,
    F12,
    F13,
    F14⟩
        refine StepsI.cons ?st7 ?mo7
        case st7 =>
          rintro d a9 w1 ⟨v19, v20, v21, v22, v23, v24, v25, v26, v27, v28, v29, v30, v31, v32, v4, s, p, g, z, q2, q3, r2, ea, tp, gr, hBw, FV, FR, F0, F1, F2, F3, F4, F5, F6, F7, F8, F9, F10, F11, F12, F13, F14⟩ hd hA K hK
          subst ea
          simp [Aft, Region.binds] at hA
          have HD6 := Lib.hid (show d 6 = true by simp [hA])
          clear hA
          simp only [puts, List.foldl, Act.put, List.setIfInBounds_toArray, List.set_cons_zero, List.set_cons_succ]
          have E6 := F6.out HD6.out
          rw [E6]
          clear E6
          have HHd := Lib.hid hd
          clear hd
          go_simp
          go_wp2_with (go_at_call 12; (with_reducible refine (next_x _ _ 6 _ (by omega) (by omega) tp).mono ?_); rintro e w2 ⟨q, q10, q11, rfl, t2, g2⟩)
          exact ⟨v19, v20, v21, v22, v23, v24, (.pointer (some ⟨b, 0, none⟩)), (.int .i64 q), v27, v28, v29, v30, v31, v32, v4, s, p, g, z, q, q3, r2, by simp only [puts, List.foldl, Act.put, List.setIfInBounds_toArray, List.set_cons_zero, List.set_cons_succ], t2,
    (gr.past g2 hWb),
    (Nat.le_trans hBw g2.size),
    FV,
    (Lib.hid fun k => (FR.out k).past g2 hbB),
    F0,
    Lib.hid fun h => ⟨(F1.out h).1, ⟨(F1.out h).2.1, fun k => ((F1.out h).2.2 k).past g2 (by have := (F1.out h).2.1; omega)⟩⟩,
    F2,
    F3,
    F4,
    F5,
    Lib.hid fun h => rfl,
    Lib.hid fun _ => ⟨rfl, ⟨q10, q11⟩⟩,
    Lib.hid fun h => absurd ((F8.out h).1) (by rw [HHd.out]; decide),
    F9,
    F10,
    Lib.hid fun h => absurd ((F8.out (F11.out h).2.1).1) (by rw [HHd.out]; decide),
    Lib.hid fun h => absurd ((F8.out (F11.out (F12.out h).1).2.1).1) (by rw [HHd.out]; decide),
    Lib.hid fun h => absurd ((F8.out (F11.out (F12.out (F13.out h).2.1).1).2.1).1) (by rw [HHd.out]; decide),
    F14⟩
        refine StepsI.cons ?st8 ?mo8
        case st8 =>
          rintro d a9 w1 ⟨v19, v20, v21, v22, v23, v24, v25, v26, v27, v28, v29, v30, v31, v32, v4, s, p, g, z, q2, q3, r2, ea, tp, gr, hBw, FV, FR, F0, F1, F2, F3, F4, F5, F6, F7, F8, F9, F10, F11, F12, F13, F14⟩ hd hA K hK
          subst ea
          simp [Aft, Region.binds] at hA
          have HD7 := Lib.hid (show d 7 = true by simp [hA])
          clear hA
          simp only [puts, List.foldl, Act.put, List.setIfInBounds_toArray, List.set_cons_zero, List.set_cons_succ]
          have E7 := F7.out HD7.out
          rw [E7.1]
          have q10 := E7.2.1
          have q11 := E7.2.2
          clear E7
          have HHd := Lib.hid hd
          clear hd
          have wv : IntKind.i64.wrap (q2 - 2) = q2 - 2 := IntWalk.i64_in _ (by omega)
          go_simp
          refine hK _ _ ?_
          exact ⟨v19, v20, v21, v22, v23, v24, v25, (.int .i64 q2), (.int .i64 (q2 - 2)), v28, v29, v30, v31, v32, v4, s, p, g, z, q2, q3, r2, by simp only [puts, List.foldl, Act.put, List.setIfInBounds_toArray, List.set_cons_zero, List.set_cons_succ], tp,
    gr,
    hBw,
    FV,
    FR,
    F0,
    F1,
    F2,
    F3,
    F4,
    F5,
    F6,
    Lib.hid fun h => ⟨rfl, (F7.out h).2⟩,
    Lib.hid fun _ => ⟨HD7.out, rfl⟩,
    F9,
    F10,
    Lib.hid fun h => absurd ((F11.out h).2.1) (by rw [HHd.out]; decide),
    F12,
    F13,
    F14⟩
        refine StepsI.cons ?st9 ?mo9
        case st9 =>
          rintro d a9 w1 ⟨v19, v20, v21, v22, v23, v24, v25, v26, v27, v28, v29, v30, v31, v32, v4, s, p, g, z, q2, q3, r2, ea, tp, gr, hBw, FV, FR, F0, F1, F2, F3, F4, F5, F6, F7, F8, F9, F10, F11, F12, F13, F14⟩ hd hA K hK
          subst ea
          clear hA
          simp only [puts, List.foldl, Act.put, List.setIfInBounds_toArray, List.set_cons_zero, List.set_cons_succ]
          have HHd := Lib.hid hd
          clear hd
          go_simp
          refine hK _ _ ?_
          exact ⟨v19, v20, v21, v22, v23, v24, v25, v26, v27, (.pointer (some ⟨b, 0, none⟩)), v29, v30, v31, v32, v4, s, p, g, z, q2, q3, r2, by simp only [puts, List.foldl, Act.put, List.setIfInBounds_toArray, List.set_cons_zero, List.set_cons_succ], tp,
    gr,
    hBw,
    FV,
    FR,
    F0,
    F1,
    F2,
    F3,
    F4,
    F5,
    F6,
    F7,
    F8,
    Lib.hid fun _ => rfl,
    F10,
    F11,
    F12,
    F13,
    F14⟩
        refine StepsI.cons ?st10 ?mo10
        case st10 =>
          rintro d a9 w1 ⟨v19, v20, v21, v22, v23, v24, v25, v26, v27, v28, v29, v30, v31, v32, v4, s, p, g, z, q2, q3, r2, ea, tp, gr, hBw, FV, FR, F0, F1, F2, F3, F4, F5, F6, F7, F8, F9, F10, F11, F12, F13, F14⟩ hd hA K hK
          subst ea
          simp [Aft, Region.binds] at hA
          have HD9 := Lib.hid (show d 9 = true by simp [hA])
          clear hA
          simp only [puts, List.foldl, Act.put, List.setIfInBounds_toArray, List.set_cons_zero, List.set_cons_succ]
          have E9 := F9.out HD9.out
          rw [E9]
          clear E9
          have HHd := Lib.hid hd
          clear hd
          go_simp
          go_wp2_with (go_at_call 12; (with_reducible refine (next_x _ _ 9 _ (by omega) (by omega) tp).mono ?_); rintro e w2 ⟨q, q10, q11, rfl, t2, g2⟩)
          exact ⟨v19, v20, v21, v22, v23, v24, v25, v26, v27, (.pointer (some ⟨b, 0, none⟩)), (.int .i64 q), v30, v31, v32, v4, s, p, g, z, q2, q, r2, by simp only [puts, List.foldl, Act.put, List.setIfInBounds_toArray, List.set_cons_zero, List.set_cons_succ], t2,
    (gr.past g2 hWb),
    (Nat.le_trans hBw g2.size),
    FV,
    (Lib.hid fun k => (FR.out k).past g2 hbB),
    F0,
    Lib.hid fun h => ⟨(F1.out h).1, ⟨(F1.out h).2.1, fun k => ((F1.out h).2.2 k).past g2 (by have := (F1.out h).2.1; omega)⟩⟩,
    F2,
    F3,
    F4,
    F5,
    F6,
    F7,
    F8,
    Lib.hid fun h => rfl,
    Lib.hid fun _ => ⟨rfl, ⟨q10, q11⟩⟩,
    Lib.hid fun h => absurd ((F11.out h).2.2.1) (by rw [HHd.out]; decide),
    Lib.hid fun h => absurd ((F11.out (F12.out h).1).2.2.1) (by rw [HHd.out]; decide),
    Lib.hid fun h => absurd ((F11.out (F12.out (F13.out h).2.1).1).2.2.1) (by rw [HHd.out]; decide),
    F14⟩
        refine StepsI.cons ?st11 ?mo11
        case st11 =>
          rintro d a9 w1 ⟨v19, v20, v21, v22, v23, v24, v25, v26, v27, v28, v29, v30, v31, v32, v4, s, p, g, z, q2, q3, r2, ea, tp, gr, hBw, FV, FR, F0, F1, F2, F3, F4, F5, F6, F7, F8, F9, F10, F11, F12, F13, F14⟩ hd hA K hK
          subst ea
          simp [Aft, Region.binds] at hA
          have HD5 := Lib.hid (show d 5 = true by simp [hA])
          have HD8 := Lib.hid (show d 8 = true by simp [hA])
          have HD10 := Lib.hid (show d 10 = true by simp [hA])
          clear hA
          simp only [puts, List.foldl, Act.put, List.setIfInBounds_toArray, List.set_cons_zero, List.set_cons_succ]
          have E5 := F5.out HD5.out
          rw [E5.2]
          clear E5
          have E8 := F8.out HD8.out
          rw [E8.2]
          clear E8
          have E10 := F10.out HD10.out
          rw [E10.1]
          clear E10
          have HHd := Lib.hid hd
          clear hd
          go_simp
          refine hK _ _ ?_
          exact ⟨v19, v20, v21, v22, v23, (.int .i64 z), v25, v26, (.int .i64 (q2 - 2)), v28, (.int .i64 q3), (.agg #[.int .i64 z, .int .i64 (q2 - 2), .int .i64 q3]), v31, v32, v4, s, p, g, z, q2, q3, r2, by simp only [puts, List.foldl, Act.put, List.setIfInBounds_toArray, List.set_cons_zero, List.set_cons_succ], tp,
    gr,
    hBw,
    FV,
    FR,
    F0,
    F1,
    F2,
    F3,
    F4,
    Lib.hid fun h => ⟨(F5.out h).1, rfl⟩,
    F6,
    F7,
    Lib.hid fun h => ⟨(F8.out h).1, rfl⟩,
    F9,
    Lib.hid fun h => ⟨rfl, (F10.out h).2⟩,
    Lib.hid fun _ => ⟨HD5.out, HD8.out, HD10.out, rfl⟩,
    Lib.hid fun h => absurd ((F12.out h).1) (by rw [HHd.out]; decide),
    F13,
    F14⟩
        refine StepsI.cons ?st12 ?mo12
        case st12 =>
          rintro d a9 w1 ⟨v19, v20, v21, v22, v23, v24, v25, v26, v27, v28, v29, v30, v31, v32, v4, s, p, g, z, q2, q3, r2, ea, tp, gr, hBw, FV, FR, F0, F1, F2, F3, F4, F5, F6, F7, F8, F9, F10, F11, F12, F13, F14⟩ hd hA K hK
          subst ea
          simp [Aft, Region.binds] at hA
          have HD11 := Lib.hid (show d 11 = true by simp [hA])
          clear hA
          simp only [puts, List.foldl, Act.put, List.setIfInBounds_toArray, List.set_cons_zero, List.set_cons_succ]
          have E11 := F11.out HD11.out
          rw [E11.2.2.2]
          clear E11
          have HHd := Lib.hid hd
          clear hd
          go_simp
          refine hK _ _ ?_
          exact ⟨v19, v20, v21, v22, v23, v24, v25, v26, v27, v28, v29, (.agg #[.int .i64 z, .int .i64 (q2 - 2), .int .i64 q3]), (.slice (some ⟨w1.heap.size, 0, none⟩) 1 1), v32, v4, s, p, w1.heap.size, z, q2, q3, r2, by simp only [puts, List.foldl, Act.put, List.setIfInBounds_toArray, List.set_cons_zero, List.set_cons_succ], (tp.alloc _),
    (gr.alloc _),
    (by rw [World.size_alloc]; omega),
    FV,
    (Lib.hid fun k => (FR.out k).alloc _),
    F0,
    Lib.hid fun h => ⟨(F1.out h).1, ⟨(F1.out h).2.1, fun k => ((F1.out h).2.2 k).alloc _⟩⟩,
    F2,
    F3,
    F4,
    F5,
    F6,
    F7,
    F8,
    F9,
    F10,
    Lib.hid fun h => ⟨(F11.out h).1, (F11.out h).2.1, (F11.out h).2.2.1, rfl⟩,
    Lib.hid fun _ => ⟨HD11.out, rfl, ⟨hBw, fun _ => Own.new _ _ _⟩⟩,
    Lib.hid fun h => absurd ((F13.out h).2.1) (by rw [HHd.out]; decide),
    F14⟩
        refine StepsI.cons ?st13 ?mo13
        case st13 =>
          rintro d a9 w1 ⟨v19, v20, v21, v22, v23, v24, v25, v26, v27, v28, v29, v30, v31, v32, v4, s, p, g, z, q2, q3, r2, ea, tp, gr, hBw, FV, FR, F0, F1, F2, F3, F4, F5, F6, F7, F8, F9, F10, F11, F12, F13, F14⟩ hd hA K hK
          subst ea
          simp [Aft, Region.binds] at hA
          have HD12 := Lib.hid (show d 12 = true by simp [hA])
          have HD0 := Lib.hid (show d 0 = true by simp [hA])
          clear hA
          simp only [puts, List.foldl, Act.put, List.setIfInBounds_toArray, List.set_cons_zero, List.set_cons_succ]
          have E0 := F0.out HD0.out
          rw [E0]
          clear E0
          have E12 := F12.out HD12.out
          rw [E12.2.1]
          have hg := E12.2.2.1
          have OW0 := E12.2.2.2
          clear E12
          have HHd := Lib.hid hd
          clear hd
          have OW := OW0 HHd.out
          have RR := FR.out HHd.out
          have q26 := (F7.out (F8.out (F11.out (F12.out HD12.out).1).2.1).1).2
          refine (if_pos (by rfl)).mpr ?_
          refine wp_append_row (by rfl) (.tmp 19) (.tmp 31) 41 (by rfl) B info_entry Try.underlying41 (by decide) (by decide) encE_len r L (by rfl) RR g 1 (z, (q2 - 2, q3)) (by rfl) OW encE_one HLEN.out (by decide) hBw ?_
          intro g2 cap2 w2 R2 G2 o2
          have HAb := Lib.hid RR.above
          simp only [puts, List.foldl, Act.put, List.setIfInBounds_toArray, List.set_cons_zero, List.set_cons_succ]
          refine hK _ _ ?_
          exact ⟨(r), v20, v21, v22, v23, v24, v25, v26, v27, v28, v29, v30, (.slice (some ⟨g, 0, none⟩) 1 1), (.slice (some ⟨g2, 0, none⟩) (L.length + 1) cap2), v4, s, p, g, z, q2, q3, (.slice (some ⟨g2, 0, none⟩) (L.length + 1) cap2), by simp only [puts, List.foldl, Act.put, List.setIfInBounds_toArray, List.set_cons_zero, List.set_cons_succ], (Tp.keptA (B := B) tp G2 (fun y e => HAb.out y e) (Nat.le_refl _)),
    (Grew.keptA (B := B) gr G2 (fun y e => HAb.out y e) hWB),
    (Nat.le_trans hBw G2.size),
    FV,
    (Lib.hid fun k => absurd k (by simp [upD])),
    Lib.hid fun h => rfl,
    Lib.hid fun h => ⟨(F1.out h).1, ⟨(F1.out h).2.1, fun k => absurd k (by simp [upD])⟩⟩,
    F2,
    F3,
    F4,
    F5,
    F6,
    F7,
    F8,
    F9,
    F10,
    F11,
    Lib.hid fun h => ⟨(F12.out h).1, rfl, ⟨(F12.out h).2.2.1, fun k => absurd k (by simp [upD])⟩⟩,
    Lib.hid fun _ => ⟨HD0.out, HD12.out, rfl, ⟨(z, (q2 - 2, q3)), by show -2 ≤ q2 - 2; omega, by show q2 - 2 ≤ 3; omega, R2⟩⟩,
    Lib.hid fun h => absurd ((F14.out h).1) (by rw [HHd.out]; decide)⟩
        refine StepsI.cons ?st14 ?mo14
        case st14 =>
          rintro d a9 w1 ⟨v19, v20, v21, v22, v23, v24, v25, v26, v27, v28, v29, v30, v31, v32, v4, s, p, g, z, q2, q3, r2, ea, tp, gr, hBw, FV, FR, F0, F1, F2, F3, F4, F5, F6, F7, F8, F9, F10, F11, F12, F13, F14⟩ hd hA K hK
          subst ea
          simp [Aft, Region.binds] at hA
          have HD13 := Lib.hid (show d 13 = true by simp [hA])
          clear hA
          simp only [puts, List.foldl, Act.put, List.setIfInBounds_toArray, List.set_cons_zero, List.set_cons_succ]
          have E13 := F13.out HD13.out
          rw [E13.2.2.1]
          clear E13
          have HHd := Lib.hid hd
          clear hd
          go_simp
          refine hK _ _ ?_
          exact ⟨v19, v20, v21, v22, v23, v24, v25, v26, v27, v28, v29, v30, v31, (r2), (r2), s, p, g, z, q2, q3, r2, by simp only [puts, List.foldl, Act.put, List.setIfInBounds_toArray, List.set_cons_zero, List.set_cons_succ], tp,
    gr,
    hBw,
    (Lib.hid fun k => absurd k (by simp [upD])),
    FR,
    F0,
    F1,
    F2,
    F3,
    F4,
    F5,
    F6,
    F7,
    F8,
    F9,
    F10,
    F11,
    F12,
    Lib.hid fun h => ⟨(F13.out h).1, (F13.out h).2.1, rfl, (F13.out h).2.2.2⟩,
    Lib.hid fun _ => ⟨HD13.out, rfl⟩⟩
        exact StepsI.nil
    · have hN0 : N = 0 := by omega
      subst hN0
      have HWF := Lib.hid (show ∀ e ∈ L, (Lit.int .i64 e.2.1).wf = true from fun e he => WalkArith.wf_i64 (by have := hok e he; omega))
      have HR := Lib.hid R
      have h3 : L.length ≤ 300 := by omega
      have HL3 := Lib.hid h3
      clear hok R tp h3
      go_wp2_with fail
      with_reducible refine (build_b B _ L _ HR.out HL3.out HWF.out).mono ?_
      rintro e w2 ⟨g2, h, s, x, m, rfl, T⟩
      obtain ⟨a1, j1, c1, rfl⟩ := T.slice
      have HR2 := Lib.hid (HR.out.grew g2)
      have G2 := gA.trans g2
      have HT := Lib.hid T
      obtain ⟨er, her⟩ : ∃ er, bldE L = er := ⟨_, rfl⟩
      have HER := Lib.hid her
      rw [her]
      clear HR gA g2 T her
      have gT := Lib.hid (show Grew w2 (w2.alloc (.cells #[.int .i64 h, .slice a1 j1 c1, .int .i64 x, .int .i64 m] 28)) from (Grew.refl w2).alloc _)
      have OT := Own.new w2 28 #[.int .i64 h, .slice a1 j1 c1, .int .i64 x, .int .i64 m]
      have HR3 := Lib.hid (HR2.out.grew gT.out)
      have HT3 := Lib.hid (HT.out.grew gT.out)
      have G3 := G2.trans gT.out
      clear HR2 HT G2 gT
      go_upto_region 8 with fail
      generalize World.alloc w2 _ = w3 at *
      generalize w2.heap.size = P at *
      go_wp2_with fail
      with_reducible refine (refBuild_b B _ L _ HR3.out HL3.out HWF.out).mono ?_
      rintro e w4 ⟨g4, h', s', x', m', rfl, T'⟩
      obtain ⟨a2, j2, c2, rfl⟩ := T'.slice
      have HT4 := Lib.hid (HT3.out.grew g4)
      have HT4' := Lib.hid T'
      have OT4 := OT.grew g4
      have G4 := G3.trans g4
      rw [HER.out]
      clear HR3 HT3 OT G3 g4 T'
      have gT := Lib.hid (show Grew w4 (w4.alloc (.cells #[.int .i64 h', .slice a2 j2 c2, .int .i64 x', .int .i64 m'] 28)) from (Grew.refl w4).alloc _)
      have OU := Own.new w4 28 #[.int .i64 h', .slice a2 j2 c2, .int .i64 x', .int .i64 m']
      have HT5 := Lib.hid (HT4.out.grew gT.out)
      have HT5' := Lib.hid (HT4'.out.grew gT.out)
      have OT5 := OT4.grew gT.out
      have G5 := G4.trans gT.out
      clear HT4 HT4' OT4 G4 gT
      go_upto_region 9 with fail
      generalize World.alloc w4 _ = w5 at *
      generalize w4.heap.size = P2 at *
      obtain ⟨t0, t1, t2, t3, -⟩ := OT5.four
      obtain ⟨u0, u1, u2, u3, -⟩ := OU.four
      have lT := OT5.lt
      have lU := OU.lt
      go_wp2_with fail
      with_reducible refine (HT5.out.same HT5'.out).mono ?_
      rintro e w6 ⟨rfl, g6⟩
      have G6 := G5.trans g6
      clear t0 t1 t2 t3 u0 u1 u2 u3 lT lU OT5 OU HT5 HT5' G5 g6
      go_wp2_with fail
      with_reducible refine (awake_any _).mono ?_
      rintro e w40 ⟨rfl, g40⟩
      go_wp2
      go_ret
      exact ⟨rfl, G6.trans g40⟩

theorem Try.own : ownKnob Try.prog.godebug = none := by kernel_rfl
theorem Try.laidOut : laidOutB Try.prog = true := by kernel_rfl

theorem radixBuilds_contract (W : World) (base : Nat) (args : Array Value) (H : Type) (enc : TypeId × Value → H) (ds : List (DataW H)) (p : List MemPlace)
    (hval : ∀ (j : Nat) t v, Try.f5.params[j]? = some t → args[j]? = some v → Value.okWide Try.prog W .any base t v)
    (hA : DataW.TrodAll enc Try.prog W 0 (fun _ => true) true Try.f5.params.toList args.toList ds p) :
    (∃ d0, ds = [d0]) ∧ Calls Try.prog 5 args W fun e W' => e = .returned (.bool true) ∧ Below W.heap.size W W' := by
  rw [Try.params5] at hval hA
  obtain ⟨v0, d0, p0, ha, hd, hp, h0⟩ := args_1 hA
  subst ha hd
  obtain ⟨A0, c0, xs0, rfl, hr0, hm0⟩ := open_introw Try.underlying22 Try.underlying3 (by kernel_rfl) (hval 0 _ _ rfl rfl) h0
  exact ⟨⟨_, rfl⟩, (builds_core A0 c0 xs0 W hr0 hm0).mono fun _ _ h => h⟩

set_option maxRecDepth 100000 in
theorem radixBuilds_lifted (os : Os) (started : os.Started) (H : Type) (enc : TypeId × Value → H) :
    ReturnsInHanded {} Try.checked os 5 .any (Rows.radixBuildsSpec.pre6 enc Try.prog Try.f5 Rows.radixBuildsRow.domain false) (Rows.radixBuildsSpec.post enc Try.prog Try.f5 false true false false) := by
  refine returnsInHanded_of_change (C := Try.checked) Try.own started (by kernel_rfl) Try.func5
    (ChangeSpec.witness6 (enc := enc) (C := Try.checked) false ⟨#[], #[.slice none 0 0], []⟩ 8 (by kernel_rfl) (by kernel_rfl) (by kernel_rfl) (by kernel_rfl)) ?_
  intro W base args ds gs before hval hW _ _
  obtain ⟨p, q, hA, hV, hrest⟩ := id hW
  obtain ⟨⟨d0, rfl⟩, hc⟩ := radixBuilds_contract W base args H enc ds p hval hA
  obtain ⟨rfl, -⟩ := trodVars_none hV
  refine hc.mono fun e W' ⟨he, hb⟩ => ⟨_, he, ?_⟩
  exact law_close (tb := 4) Try.laidOut (by rw [Try.params5]; decide +kernel) Try.underlying4 rfl rfl hW rfl rfl rfl hb

theorem radixBuilds_holds : Rows.RadixBuildsSaid :=
  OpenClaim.holds_of_wide 5 Try.f5 rfl rfl rfl rfl rfl rfl rfl ⟨rfl, rfl, rfl, rfl, rfl⟩ rfl rfl rfl rfl rfl (by kernel_rfl) Try.func5 (by kernel_rfl)
    (of_decide_eq_true (by kernel_rfl)) (by unfold Func.isWrapper; first | (rw [if_pos (by decide +kernel)]; kernel_rfl) | (rw [if_neg (by decide +kernel)]; exact ⟨rfl, rfl⟩))
    (fun os started H enc _ => radixBuilds_lifted os started H enc)
end Go.Proofs.Ytponkojkdejfeaa
