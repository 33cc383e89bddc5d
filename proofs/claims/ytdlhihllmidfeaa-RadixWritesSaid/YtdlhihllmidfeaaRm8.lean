/- The made tree (layer 1): some valid tree, whatever the tape. -/
import Derived.Test.YtdlhihllmidfeaaRm4
import Derived.Test.YtdlhihllmidfeaaTape
import Derived.Test.YtdlhihllmidfeaaReg
import Derived.Deep.RegionHeld3
import Derived.Deep.DeepCutAuto
import Derived.Deep.RegionWith
import Derived.BigQuiet
namespace Go.Proofs.Ytdlhihllmidfeaa
open Go.RowKit Go.Mine

abbrev slT : Array Value := #[.int .i64 0, .int .i64 1, .int .i64 3, .int .i64 4, .int .i64 5, .int .i64 15, .int .i64 16, .int .i64 17, .int .i64 63, .int .i64 64, .int .i64 200, .int .i64 255]
theorem slT_at (p : Nat) (hp : p < 12) : ∃ z : Int, 0 ≤ z ∧ z ≤ 255 ∧ slT[p]? = some (.int .i64 z) ∧ (#[.int .i64 0, .int .i64 1, .int .i64 3, .int .i64 4, .int .i64 5, .int .i64 15, .int .i64 16, .int .i64 17, .int .i64 63, .int .i64 64, .int .i64 200, .int .i64 255] : Array Value)[p]? = some (.int .i64 z) ∧ ([.int .i64 0, .int .i64 1, .int .i64 3, .int .i64 4, .int .i64 5, .int .i64 15, .int .i64 16, .int .i64 17, .int .i64 63, .int .i64 64, .int .i64 200, .int .i64 255] : List Value)[p]? = some (.int .i64 z) := by
  have : p = 0 ∨ p = 1 ∨ p = 2 ∨ p = 3 ∨ p = 4 ∨ p = 5 ∨ p = 6 ∨ p = 7 ∨ p = 8 ∨ p = 9 ∨ p = 10 ∨ p = 11 := by omega
  rcases this with rfl | rfl | rfl | rfl | rfl | rfl | rfl | rfl | rfl | rfl | rfl | rfl <;> exact ⟨_, by omega, by omega, rfl, rfl, rfl⟩
theorem grown_far3 {a w w' : World} {r : Option Nat} {b : Nat} {x y z : Value} (h : a.grownBy w r) (hw : ((w.setCell ⟨b, 0, none⟩ x).setCell ⟨b, 1, none⟩ y).setCell ⟨b, 2, none⟩ z = w') (hb : a.heap.size ≤ b) : a.grownBy w' r := by
  rw [← hw]
  exact grown_set (p := ⟨b, 2, none⟩) (grown_set (p := ⟨b, 1, none⟩) (grown_set (p := ⟨b, 0, none⟩) h (.inr hb) x) (.inr hb) y) (.inr hb) z
def TreeCut (w : World) (B b : Nat) (v5 : Value) (wx : World) : Prop :=
  ∃ (g : Nat) (i v m : Int), v5 = .pointer (some ⟨g, 0, none⟩) ∧ w.heap.size ≤ g ∧ (0 ≤ i ∧ i ≤ 255 ∧ 1 ≤ v ∧ v ≤ 9 ∧ 0 ≤ m ∧ m ≤ 7) ∧ Own wx g 51 #[.int .i64 i, .int .i64 v, .int .i64 m] ∧ Tp B wx b ∧ w.grownBy wx (some b)
def TreeJ (w0 : World) (B b : Nat) (A : Act) (d : Nat → Bool) (a : Act) (w : World) : Prop := ∃ (v14 v15 v16 v17 v18 v19 v20 v21 v22 v23 v24 v5 : Value) (s p g : Nat) (z q2 q3 : Int), a = puts A [(14, v14), (15, v15), (16, v16), (17, v17), (18, v18), (19, v19), (20, v20), (21, v21), (22, v22), (23, v23), (24, v24), (5, v5)]
  ∧ (Tp B w b)
  ∧ (w0.grownBy w (some b))
  ∧ Hid (d 0 = true → v14 = .slice (some ⟨s, 0, none⟩) 12 12 ∧ (w0.heap.size ≤ s ∧ (d 12 = false → Own w s 3 slT)))
  ∧ Hid (d 1 = true → v15 = .pointer (some ⟨b, 0, none⟩))
  ∧ Hid (d 2 = true → v16 = .int .i64 (p : Int) ∧ p < 12)
  ∧ Hid (d 3 = true → d 0 = true ∧ d 2 = true ∧ v17 = .pointer (some ⟨s, p, none⟩))
  ∧ Hid (d 4 = true → d 2 = true ∧ v18 = .int .i64 z ∧ (0 ≤ z ∧ z ≤ 255))
  ∧ Hid (d 5 = true → v19 = .pointer (some ⟨b, 0, none⟩))
  ∧ Hid (d 6 = true → v20 = .int .i64 q2 ∧ (0 ≤ q2 ∧ q2 < 9))
  ∧ Hid (d 7 = true → d 6 = true ∧ v21 = .int .i64 (1 + q2))
  ∧ Hid (d 8 = true → v22 = .pointer (some ⟨b, 0, none⟩))
  ∧ Hid (d 9 = true → v23 = .int .i64 q3 ∧ (0 ≤ q3 ∧ q3 < 8))
  ∧ Hid (d 10 = true → d 4 = true ∧ d 7 = true ∧ d 9 = true ∧ v24 = .agg #[.int .i64 z, .int .i64 (1 + q2), .int .i64 q3])
  ∧ Hid (d 11 = true → v5 = .pointer (some ⟨g, 0, none⟩) ∧ (w0.heap.size ≤ g ∧ (d 12 = false → Own w g 51 #[.int .i64 0, .int .i64 0, .int .i64 0])))
  ∧ Hid (d 12 = true → d 11 = true ∧ d 10 = true ∧ (∃ i v m : Int, Own w g 51 #[.int .i64 i, .int .i64 v, .int .i64 m] ∧ 0 ≤ i ∧ i ≤ 255 ∧ 1 ≤ v ∧ v ≤ 9 ∧ 0 ≤ m ∧ m ≤ 7))
def RetTx (B b : Nat) (w : World) (e : Ending) (w' : World) : Prop := ∃ h f s x m, e = .returned (treeV h s x m) ∧ TreeF w' (fun c => w.heap.size ≤ c) h f s x m ∧ Tp B w' b ∧ w.grownBy w' (some b)
abbrev encA (e : En) : Array Value := #[.int .i64 e.1, .int .i64 e.2.1, .int .i64 e.2.2]
theorem ent_cell {T : TypeId} {w : World} {B p n c : Nat} {a : Option Addr} {L : List En} (h : RowE T 3 encE w B (.slice a n c) L) (hp : p < L.length) : ∃ g, a = some ⟨g, 0, none⟩ ∧ g < w.heap.size ∧ w.cell? ⟨g, p * 3, none⟩ = some (.int .i64 (L.getD p (0, (0, 0))).1) ∧
    w.cell? ⟨g, p * 3 + 1, none⟩ = some (.int .i64 (L.getD p (0, (0, 0))).2.1) ∧ w.cell? ⟨g, p * 3 + 2, none⟩ = some (.int .i64 (L.getD p (0, (0, 0))).2.2) := by
  obtain ⟨a', n', c', e, hn, hr⟩ := RowE.ents h
  injection e with e1 e2 e3
  subst e1
  obtain ⟨g, rfl, hg, -, h0, h1, h2⟩ := hr p (by omega)
  exact ⟨g, rfl, hg, h0, h1, h2⟩
theorem ent_under {T : TypeId} {w : World} {B : Nat} {v : Value} {L : List En} (h : RowE T 3 encE w B v L) : ∀ k, v.ownBlock = some k → k < w.heap.size := by
  rcases h.shape encE_len with ⟨rfl, -⟩ | ⟨g, cap, rfl, -, hg, -⟩
  · intro k e; exact absurd e (by simp [Value.ownBlock])
  · intro k e; have e : some g = some k := e; injection e with e; subst e; exact hg
def EntP (e : En) : Prop := 0 ≤ e.1 ∧ e.1 < 256 ∧ LefOK e.2 ∧ e.2.1 ≠ 0
theorem EntOK.snoc {L : List En} {e : En} (h : EntOK L) (he : EntP e) : EntOK (L ++ [e]) := fun x hx => by
  rw [List.mem_append, List.mem_singleton] at hx
  rcases hx with hx | rfl
  · exact h x hx
  · exact he
theorem EntOK.nil : EntOK [] := fun x hx => absurd hx (by simp)
set_option maxRecDepth 100000 in
set_option maxHeartbeats 40000000 in
theorem tree_x (B b : Nat) (w : World) (ht : Tp B w b) (hbw : B ≤ w.heap.size) :
    Calls Try.prog 37 #[.pointer (some ⟨b, 0, none⟩)] w (RetTx B b w) := by
  have hbb := ht.ltB
  go_enter Try.func37, Try.ntmps37
  have N0 := Own.new w 28 #[.int .i64 0, .slice none 0 0, .int .i64 0, .int .i64 0]
  have tp0 := ht.alloc (.cells #[.int .i64 0, .slice none 0 0, .int .i64 0, .int .i64 0] 28)
  have gr0 : w.grownBy _ (some b) := grown_alloc (grown_refl w (some b)) (.cells #[.int .i64 0, .slice none 0 0, .int .i64 0, .int .i64 0] 28)
  go_wp2_with fail
  generalize World.alloc w _ = w00 at *
  with_reducible refine (next_x _ _ 7 _ (by omega) (by omega) tp0).mono ?_
  rintro e w01 ⟨k0, k00, k01, rfl, tp1, g01⟩
  obtain ⟨k0, rfl⟩ := Int.eq_ofNat_of_zero_le k00
  have N1 := N0.past g01 (by omega)
  have gr1 := grown_trans gr0 g01
  have hk6 : k0 ≤ 6 := by omega
  clear N0 tp0 gr0 g01 ht
  go_wp2_with fail
  go_loopw [3, 4] (fun v k wr => ∃ (N : Nat) (L : List En) (r : Value), r = v ∧ N ≤ 6 ∧ k = .int .i64 N ∧ EntOK L ∧ L.length + N ≤ 6 ∧ RowE 51 3 encE wr (w.heap.size + 1) r L ∧ Own wr w.heap.size 28 #[.int .i64 0, .slice none 0 0, .int .i64 0, .int .i64 0] ∧ Tp B wr b ∧ w.grownBy wr (some b)) (fun _ k _ => (intOf k).toNat)
  case atStart => exact ⟨k0, [], _, rfl, hk6, rfl, EntOK.nil, by simp; omega, RowE.nil _ _, N1, tp1, gr1⟩
  case round =>
    clear N1 tp1 gr1 hk6
    obtain ⟨N, L, r, rfl, hN, rfl, hok, hLN, R, NB, tp, gw⟩ := hrel
    obtain ⟨w0, rfl⟩ : ∃ w0 : World, w0 = wr := ⟨_, rfl⟩
    have HOK := Lib.hid hok
    have HR := Lib.hid R
    have HNB := Lib.hid NB
    have HGW := Lib.hid gw
    have hz0 : w.heap.size < w0.heap.size := NB.lt
    have hB0 : B ≤ w0.heap.size := by omega
    clear hok R NB gw
    by_cases hlt : 0 < N
    · have gr : w0.grownBy w0 (some b) := grown_refl _ _
      go_upto_region 5 with fail
      go_cut [5] from 14 to 24 (TreeCut w0 B b)
      case first =>
        refine wp_region_inv (J0 := TreeJ w0 B b) (by kernel_rfl) (by kernel_rfl) ?inv0 ?invS ?invE
        case inv0 =>
          exact ⟨_, _, _, _, _, _, _, _, _, _, _, _, 0, 0, 0, 0, 0, 0, puts_self [14, 15, 16, 17, 18, 19, 20, 21, 22, 23, 24, 5] _, tp.drew, grown_drew gr, Lib.hid fun h => absurd h (by decide), Lib.hid fun h => absurd h (by decide), Lib.hid fun h => absurd h (by decide), Lib.hid fun h => absurd h (by decide), Lib.hid fun h => absurd h (by decide), Lib.hid fun h => absurd h (by decide), Lib.hid fun h => absurd h (by decide), Lib.hid fun h => absurd h (by decide), Lib.hid fun h => absurd h (by decide), Lib.hid fun h => absurd h (by decide), Lib.hid fun h => absurd h (by decide), Lib.hid fun h => absurd h (by decide), Lib.hid fun h => absurd h (by decide)⟩
        case invE =>
          rintro a9 w9 ⟨v14, v15, v16, v17, v18, v19, v20, v21, v22, v23, v24, v5, s, p, g, z, q2, q3, rfl, tp, gr, F0, F1, F2, F3, F4, F5, F6, F7, F8, F9, F10, F11, F12⟩
          obtain ⟨hv5, hg, -⟩ := F11.out (by decide)
          obtain ⟨-, -, i, v, m, X, b1, b2, b3, b4, b5, b6⟩ := F12.out (by decide)
          subst hv5
          simp only [puts, List.foldl, Act.put, List.setIfInBounds_toArray, List.set_cons_zero, List.set_cons_succ]
          go_wp2_with fail
          go_meet
          unfold TreeCut
          exact ⟨g, i, v, m, rfl, hg, ⟨b1, b2, b3, b4, b5, b6⟩, X, tp, gr⟩
        case invS =>
          refine StepsI.cons ?st0 ?mo0
          case st0 =>
            rintro d a9 w1 ⟨v14, v15, v16, v17, v18, v19, v20, v21, v22, v23, v24, v5, s, p, g, z, q2, q3, ea, tp, gr, F0, F1, F2, F3, F4, F5, F6, F7, F8, F9, F10, F11, F12⟩ hd hA K hK
            subst ea
            clear hA
            simp only [puts, List.foldl, Act.put, List.setIfInBounds_toArray, List.set_cons_zero, List.set_cons_succ]
            have HHd := Lib.hid hd
            clear hd
            go_simp
            refine hK _ _ ?_
            exact ⟨(.slice (some ⟨w1.heap.size, 0, none⟩) 12 12), v15, v16, v17, v18, v19, v20, v21, v22, v23, v24, v5, w1.heap.size, p, g, z, q2, q3, by simp only [puts, List.foldl, Act.put, List.setIfInBounds_toArray, List.set_cons_zero, List.set_cons_succ], (tp.alloc _),
    (grown_alloc gr _),
    Lib.hid fun _ => ⟨rfl, ⟨gr.size, fun _ => Own.new _ _ _⟩⟩,
    F1,
    F2,
    Lib.hid fun h => absurd ((F3.out h).1) (by rw [HHd.out]; decide),
    F4,
    F5,
    F6,
    F7,
    F8,
    F9,
    F10,
    Lib.hid fun h => ⟨(F11.out h).1, ⟨(F11.out h).2.1, fun k => ((F11.out h).2.2 k).alloc _⟩⟩,
    Lib.hid fun h => ⟨(F12.out h).1, (F12.out h).2.1, (F12.out h).2.2.elim fun i k => k.elim fun v k => k.elim fun m k => ⟨i, v, m, k.1.alloc _, k.2⟩⟩⟩
          refine StepsI.cons ?st1 ?mo1
          case st1 =>
            rintro d a9 w1 ⟨v14, v15, v16, v17, v18, v19, v20, v21, v22, v23, v24, v5, s, p, g, z, q2, q3, ea, tp, gr, F0, F1, F2, F3, F4, F5, F6, F7, F8, F9, F10, F11, F12⟩ hd hA K hK
            subst ea
            clear hA
            simp only [puts, List.foldl, Act.put, List.setIfInBounds_toArray, List.set_cons_zero, List.set_cons_succ]
            have HHd := Lib.hid hd
            clear hd
            go_simp
            refine hK _ _ ?_
            exact ⟨v14, (.pointer (some ⟨b, 0, none⟩)), v16, v17, v18, v19, v20, v21, v22, v23, v24, v5, s, p, g, z, q2, q3, by simp only [puts, List.foldl, Act.put, List.setIfInBounds_toArray, List.set_cons_zero, List.set_cons_succ], tp,
    gr,
    F0,
    Lib.hid fun _ => rfl,
    F2,
    F3,
    F4,
    F5,
    F6,
    F7,
    F8,
    F9,
    F10,
    F11,
    F12⟩
          refine StepsI.cons ?st2 ?mo2
          case st2 =>
            rintro d a9 w1 ⟨v14, v15, v16, v17, v18, v19, v20, v21, v22, v23, v24, v5, s, p, g, z, q2, q3, ea, tp, gr, F0, F1, F2, F3, F4, F5, F6, F7, F8, F9, F10, F11, F12⟩ hd hA K hK
            subst ea
            simp [Aft, Region.binds] at hA
            have HD1 := Lib.hid (show d 1 = true by simp [hA])
            clear hA
            simp only [puts, List.foldl, Act.put, List.setIfInBounds_toArray, List.set_cons_zero, List.set_cons_succ]
            have E1 := F1.out HD1.out
            rw [E1]
            clear E1
            have HHd := Lib.hid hd
            clear hd
            go_simp
            go_wp2_with (go_at_call 12; (with_reducible refine (next_x _ _ 12 _ (by omega) (by omega) tp).mono ?_); rintro e w2 ⟨q, q10, q11, rfl, t2, g2⟩)
            obtain ⟨p2, rfl⟩ := Int.eq_ofNat_of_zero_le q10
            exact ⟨v14, (.pointer (some ⟨b, 0, none⟩)), (.int .i64 (p2 : Int)), v17, v18, v19, v20, v21, v22, v23, v24, v5, s, p2, g, z, q2, q3, by simp only [puts, List.foldl, Act.put, List.setIfInBounds_toArray, List.set_cons_zero, List.set_cons_succ], t2,
    (grown_trans gr g2),
    Lib.hid fun h => ⟨(F0.out h).1, ⟨(F0.out h).2.1, fun k => ((F0.out h).2.2 k).past g2 (by have := (F0.out h).2.1; omega)⟩⟩,
    Lib.hid fun h => rfl,
    Lib.hid fun _ => ⟨rfl, by omega⟩,
    Lib.hid fun h => absurd ((F3.out h).2.1) (by rw [HHd.out]; decide),
    Lib.hid fun h => absurd ((F4.out h).1) (by rw [HHd.out]; decide),
    F5,
    F6,
    F7,
    F8,
    F9,
    F10,
    Lib.hid fun h => ⟨(F11.out h).1, ⟨(F11.out h).2.1, fun k => ((F11.out h).2.2 k).past g2 (by have := (F11.out h).2.1; omega)⟩⟩,
    Lib.hid fun h => ⟨(F12.out h).1, (F12.out h).2.1, (F12.out h).2.2.elim fun i k => k.elim fun v k => k.elim fun m k => ⟨i, v, m, k.1.past g2 (by have := (F11.out (F12.out h).1).2.1; omega), k.2⟩⟩⟩
          refine StepsI.cons ?st3 ?mo3
          case st3 =>
            rintro d a9 w1 ⟨v14, v15, v16, v17, v18, v19, v20, v21, v22, v23, v24, v5, s, p, g, z, q2, q3, ea, tp, gr, F0, F1, F2, F3, F4, F5, F6, F7, F8, F9, F10, F11, F12⟩ hd hA K hK
            subst ea
            simp [Aft, Region.binds] at hA
            have HD0 := Lib.hid (show d 0 = true by simp [hA])
            have HD2 := Lib.hid (show d 2 = true by simp [hA])
            clear hA
            simp only [puts, List.foldl, Act.put, List.setIfInBounds_toArray, List.set_cons_zero, List.set_cons_succ]
            have E0 := F0.out HD0.out
            rw [E0.1]
            have hs0 := E0.2.1
            have SL := E0.2.2
            clear E0
            have E2 := F2.out HD2.out
            rw [E2.1]
            have hp := E2.2
            clear E2
            have HHd := Lib.hid hd
            clear hd
            have hp1 : (0 : Int) ≤ (p : Int) := by omega
            have hp2 : (p : Int) < 12 := by omega
            go_simp
            refine hK _ _ ?_
            exact ⟨(.slice (some ⟨s, 0, none⟩) 12 12), v15, (.int .i64 (p : Int)), (.pointer (some ⟨s, p, none⟩)), v18, v19, v20, v21, v22, v23, v24, v5, s, p, g, z, q2, q3, by simp only [puts, List.foldl, Act.put, List.setIfInBounds_toArray, List.set_cons_zero, List.set_cons_succ], tp,
    gr,
    Lib.hid fun h => ⟨rfl, (F0.out h).2⟩,
    F1,
    Lib.hid fun h => ⟨rfl, (F2.out h).2⟩,
    Lib.hid fun _ => ⟨HD0.out, HD2.out, rfl⟩,
    F4,
    F5,
    F6,
    F7,
    F8,
    F9,
    F10,
    F11,
    F12⟩
          refine StepsI.cons ?st4 ?mo4
          case st4 =>
            rintro d a9 w1 ⟨v14, v15, v16, v17, v18, v19, v20, v21, v22, v23, v24, v5, s, p, g, z, q2, q3, ea, tp, gr, F0, F1, F2, F3, F4, F5, F6, F7, F8, F9, F10, F11, F12⟩ hd hA K hK
            subst ea
            simp [Aft, Region.binds] at hA
            have HD3 := Lib.hid (show d 3 = true by simp [hA])
            clear hA
            simp only [puts, List.foldl, Act.put, List.setIfInBounds_toArray, List.set_cons_zero, List.set_cons_succ]
            have E3 := F3.out HD3.out
            rw [E3.2.2]
            clear E3
            have HHd := Lib.hid hd
            clear hd
            have N12 : d 12 = false := by cases h : d 12 with | false => rfl | true => exact absurd (F10.out (F12.out h).2.1).1 (by rw [HHd.out]; decide)
            have HD0 := Lib.hid (F3.out HD3.out).1
            have HD2 := Lib.hid (F3.out HD3.out).2.1
            have SL := (F0.out HD0.out).2.2 N12
            have hp := (F2.out HD2.out).2
            have Z := slT_at p hp
            cases Z with | intro z0 Z => ?_
            have hc := (SL.cell p).trans Z.2.2.1
            have z1 := Z.1
            have z2 := Z.2.1
            have lS := SL.lt
            clear N12 Z
            go_simp
            refine hK _ _ ?_
            exact ⟨v14, v15, v16, (.pointer (some ⟨s, p, none⟩)), (.int .i64 z0), v19, v20, v21, v22, v23, v24, v5, s, p, g, z0, q2, q3, by simp only [puts, List.foldl, Act.put, List.setIfInBounds_toArray, List.set_cons_zero, List.set_cons_succ], tp,
    gr,
    F0,
    F1,
    F2,
    Lib.hid fun h => ⟨(F3.out h).1, (F3.out h).2.1, rfl⟩,
    Lib.hid fun _ => ⟨HD2.out, rfl, ⟨z1, z2⟩⟩,
    F5,
    F6,
    F7,
    F8,
    F9,
    Lib.hid fun h => absurd ((F10.out h).1) (by rw [HHd.out]; decide),
    F11,
    F12⟩
          refine StepsI.cons ?st5 ?mo5
          case st5 =>
            rintro d a9 w1 ⟨v14, v15, v16, v17, v18, v19, v20, v21, v22, v23, v24, v5, s, p, g, z, q2, q3, ea, tp, gr, F0, F1, F2, F3, F4, F5, F6, F7, F8, F9, F10, F11, F12⟩ hd hA K hK
            subst ea
            clear hA
            simp only [puts, List.foldl, Act.put, List.setIfInBounds_toArray, List.set_cons_zero, List.set_cons_succ]
            have HHd := Lib.hid hd
            clear hd
            go_simp
            refine hK _ _ ?_
            exact ⟨v14, v15, v16, v17, v18, (.pointer (some ⟨b, 0, none⟩)), v20, v21, v22, v23, v24, v5, s, p, g, z, q2, q3, by simp only [puts, List.foldl, Act.put, List.setIfInBounds_toArray, List.set_cons_zero, List.set_cons_succ], tp,
    gr,
    F0,
    F1,
    F2,
    F3,
    F4,
    Lib.hid fun _ => rfl,
    F6,
    F7,
    F8,
    F9,
    F10,
    F11,
    F12⟩
          refine StepsI.cons ?st6 ?mo6
          case st6 =>
            rintro d a9 w1 ⟨v14, v15, v16, v17, v18, v19, v20, v21, v22, v23, v24, v5, s, p, g, z, q2, q3, ea, tp, gr, F0, F1, F2, F3, F4, F5, F6, F7, F8, F9, F10, F11, F12⟩ hd hA K hK
            subst ea
            simp [Aft, Region.binds] at hA
            have HD5 := Lib.hid (show d 5 = true by simp [hA])
            clear hA
            simp only [puts, List.foldl, Act.put, List.setIfInBounds_toArray, List.set_cons_zero, List.set_cons_succ]
            have E5 := F5.out HD5.out
            rw [E5]
            clear E5
            have HHd := Lib.hid hd
            clear hd
            go_simp
            go_wp2_with (go_at_call 12; (with_reducible refine (next_x _ _ 9 _ (by omega) (by omega) tp).mono ?_); rintro e w2 ⟨q, q10, q11, rfl, t2, g2⟩)
            exact ⟨v14, v15, v16, v17, v18, (.pointer (some ⟨b, 0, none⟩)), (.int .i64 q), v21, v22, v23, v24, v5, s, p, g, z, q, q3, by simp only [puts, List.foldl, Act.put, List.setIfInBounds_toArray, List.set_cons_zero, List.set_cons_succ], t2,
    (grown_trans gr g2),
    Lib.hid fun h => ⟨(F0.out h).1, ⟨(F0.out h).2.1, fun k => ((F0.out h).2.2 k).past g2 (by have := (F0.out h).2.1; omega)⟩⟩,
    F1,
    F2,
    F3,
    F4,
    Lib.hid fun h => rfl,
    Lib.hid fun _ => ⟨rfl, ⟨q10, q11⟩⟩,
    Lib.hid fun h => absurd ((F7.out h).1) (by rw [HHd.out]; decide),
    F8,
    F9,
    Lib.hid fun h => absurd ((F7.out (F10.out h).2.1).1) (by rw [HHd.out]; decide),
    Lib.hid fun h => ⟨(F11.out h).1, ⟨(F11.out h).2.1, fun k => ((F11.out h).2.2 k).past g2 (by have := (F11.out h).2.1; omega)⟩⟩,
    Lib.hid fun h => ⟨(F12.out h).1, (F12.out h).2.1, (F12.out h).2.2.elim fun i k => k.elim fun v k => k.elim fun m k => ⟨i, v, m, k.1.past g2 (by have := (F11.out (F12.out h).1).2.1; omega), k.2⟩⟩⟩
          refine StepsI.cons ?st7 ?mo7
          case st7 =>
            rintro d a9 w1 ⟨v14, v15, v16, v17, v18, v19, v20, v21, v22, v23, v24, v5, s, p, g, z, q2, q3, ea, tp, gr, F0, F1, F2, F3, F4, F5, F6, F7, F8, F9, F10, F11, F12⟩ hd hA K hK
            subst ea
            simp [Aft, Region.binds] at hA
            have HD6 := Lib.hid (show d 6 = true by simp [hA])
            clear hA
            simp only [puts, List.foldl, Act.put, List.setIfInBounds_toArray, List.set_cons_zero, List.set_cons_succ]
            have E6 := F6.out HD6.out
            rw [E6.1]
            have q10 := E6.2.1
            have q11 := E6.2.2
            clear E6
            have HHd := Lib.hid hd
            clear hd
            have wv : IntKind.i64.wrap (1 + q2) = 1 + q2 := IntWalk.i64_in _ (by omega)
            go_simp
            refine hK _ _ ?_
            exact ⟨v14, v15, v16, v17, v18, v19, (.int .i64 q2), (.int .i64 (1 + q2)), v22, v23, v24, v5, s, p, g, z, q2, q3, by simp only [puts, List.foldl, Act.put, List.setIfInBounds_toArray, List.set_cons_zero, List.set_cons_succ], tp,
    gr,
    F0,
    F1,
    F2,
    F3,
    F4,
    F5,
    Lib.hid fun h => ⟨rfl, (F6.out h).2⟩,
    Lib.hid fun _ => ⟨HD6.out, rfl⟩,
    F8,
    F9,
    Lib.hid fun h => absurd ((F10.out h).2.1) (by rw [HHd.out]; decide),
    F11,
    F12⟩
          refine StepsI.cons ?st8 ?mo8
          case st8 =>
            rintro d a9 w1 ⟨v14, v15, v16, v17, v18, v19, v20, v21, v22, v23, v24, v5, s, p, g, z, q2, q3, ea, tp, gr, F0, F1, F2, F3, F4, F5, F6, F7, F8, F9, F10, F11, F12⟩ hd hA K hK
            subst ea
            clear hA
            simp only [puts, List.foldl, Act.put, List.setIfInBounds_toArray, List.set_cons_zero, List.set_cons_succ]
            have HHd := Lib.hid hd
            clear hd
            go_simp
            refine hK _ _ ?_
            exact ⟨v14, v15, v16, v17, v18, v19, v20, v21, (.pointer (some ⟨b, 0, none⟩)), v23, v24, v5, s, p, g, z, q2, q3, by simp only [puts, List.foldl, Act.put, List.setIfInBounds_toArray, List.set_cons_zero, List.set_cons_succ], tp,
    gr,
    F0,
    F1,
    F2,
    F3,
    F4,
    F5,
    F6,
    F7,
    Lib.hid fun _ => rfl,
    F9,
    F10,
    F11,
    F12⟩
          refine StepsI.cons ?st9 ?mo9
          case st9 =>
            rintro d a9 w1 ⟨v14, v15, v16, v17, v18, v19, v20, v21, v22, v23, v24, v5, s, p, g, z, q2, q3, ea, tp, gr, F0, F1, F2, F3, F4, F5, F6, F7, F8, F9, F10, F11, F12⟩ hd hA K hK
            subst ea
            simp [Aft, Region.binds] at hA
            have HD8 := Lib.hid (show d 8 = true by simp [hA])
            clear hA
            simp only [puts, List.foldl, Act.put, List.setIfInBounds_toArray, List.set_cons_zero, List.set_cons_succ]
            have E8 := F8.out HD8.out
            rw [E8]
            clear E8
            have HHd := Lib.hid hd
            clear hd
            go_simp
            go_wp2_with (go_at_call 12; (with_reducible refine (next_x _ _ 8 _ (by omega) (by omega) tp).mono ?_); rintro e w2 ⟨q, q10, q11, rfl, t2, g2⟩)
            exact ⟨v14, v15, v16, v17, v18, v19, v20, v21, (.pointer (some ⟨b, 0, none⟩)), (.int .i64 q), v24, v5, s, p, g, z, q2, q, by simp only [puts, List.foldl, Act.put, List.setIfInBounds_toArray, List.set_cons_zero, List.set_cons_succ], t2,
    (grown_trans gr g2),
    Lib.hid fun h => ⟨(F0.out h).1, ⟨(F0.out h).2.1, fun k => ((F0.out h).2.2 k).past g2 (by have := (F0.out h).2.1; omega)⟩⟩,
    F1,
    F2,
    F3,
    F4,
    F5,
    F6,
    F7,
    Lib.hid fun h => rfl,
    Lib.hid fun _ => ⟨rfl, ⟨q10, q11⟩⟩,
    Lib.hid fun h => absurd ((F10.out h).2.2.1) (by rw [HHd.out]; decide),
    Lib.hid fun h => ⟨(F11.out h).1, ⟨(F11.out h).2.1, fun k => ((F11.out h).2.2 k).past g2 (by have := (F11.out h).2.1; omega)⟩⟩,
    Lib.hid fun h => ⟨(F12.out h).1, (F12.out h).2.1, (F12.out h).2.2.elim fun i k => k.elim fun v k => k.elim fun m k => ⟨i, v, m, k.1.past g2 (by have := (F11.out (F12.out h).1).2.1; omega), k.2⟩⟩⟩
          refine StepsI.cons ?st10 ?mo10
          case st10 =>
            rintro d a9 w1 ⟨v14, v15, v16, v17, v18, v19, v20, v21, v22, v23, v24, v5, s, p, g, z, q2, q3, ea, tp, gr, F0, F1, F2, F3, F4, F5, F6, F7, F8, F9, F10, F11, F12⟩ hd hA K hK
            subst ea
            simp [Aft, Region.binds] at hA
            have HD4 := Lib.hid (show d 4 = true by simp [hA])
            have HD7 := Lib.hid (show d 7 = true by simp [hA])
            have HD9 := Lib.hid (show d 9 = true by simp [hA])
            clear hA
            simp only [puts, List.foldl, Act.put, List.setIfInBounds_toArray, List.set_cons_zero, List.set_cons_succ]
            have E4 := F4.out HD4.out
            rw [E4.2.1]
            clear E4
            have E7 := F7.out HD7.out
            rw [E7.2]
            clear E7
            have E9 := F9.out HD9.out
            rw [E9.1]
            clear E9
            have HHd := Lib.hid hd
            clear hd
            go_simp
            refine hK _ _ ?_
            exact ⟨v14, v15, v16, v17, (.int .i64 z), v19, v20, (.int .i64 (1 + q2)), v22, (.int .i64 q3), (.agg #[.int .i64 z, .int .i64 (1 + q2), .int .i64 q3]), v5, s, p, g, z, q2, q3, by simp only [puts, List.foldl, Act.put, List.setIfInBounds_toArray, List.set_cons_zero, List.set_cons_succ], tp,
    gr,
    F0,
    F1,
    F2,
    F3,
    Lib.hid fun h => ⟨(F4.out h).1, rfl, (F4.out h).2.2⟩,
    F5,
    F6,
    Lib.hid fun h => ⟨(F7.out h).1, rfl⟩,
    F8,
    Lib.hid fun h => ⟨rfl, (F9.out h).2⟩,
    Lib.hid fun _ => ⟨HD4.out, HD7.out, HD9.out, rfl⟩,
    F11,
    Lib.hid fun h => absurd ((F12.out h).2.1) (by rw [HHd.out]; decide)⟩
          refine StepsI.cons ?st11 ?mo11
          case st11 =>
            rintro d a9 w1 ⟨v14, v15, v16, v17, v18, v19, v20, v21, v22, v23, v24, v5, s, p, g, z, q2, q3, ea, tp, gr, F0, F1, F2, F3, F4, F5, F6, F7, F8, F9, F10, F11, F12⟩ hd hA K hK
            subst ea
            clear hA
            simp only [puts, List.foldl, Act.put, List.setIfInBounds_toArray, List.set_cons_zero, List.set_cons_succ]
            have HHd := Lib.hid hd
            clear hd
            go_simp
            refine hK _ _ ?_
            exact ⟨v14, v15, v16, v17, v18, v19, v20, v21, v22, v23, v24, (.pointer (some ⟨w1.heap.size, 0, none⟩)), s, p, w1.heap.size, z, q2, q3, by simp only [puts, List.foldl, Act.put, List.setIfInBounds_toArray, List.set_cons_zero, List.set_cons_succ], (tp.alloc _),
    (grown_alloc gr _),
    Lib.hid fun h => ⟨(F0.out h).1, ⟨(F0.out h).2.1, fun k => ((F0.out h).2.2 k).alloc _⟩⟩,
    F1,
    F2,
    F3,
    F4,
    F5,
    F6,
    F7,
    F8,
    F9,
    F10,
    Lib.hid fun _ => ⟨rfl, ⟨gr.size, fun _ => Own.new _ _ _⟩⟩,
    Lib.hid fun h => absurd ((F12.out h).1) (by rw [HHd.out]; decide)⟩
          refine StepsI.cons ?st12 ?mo12
          case st12 =>
            rintro d a9 w1 ⟨v14, v15, v16, v17, v18, v19, v20, v21, v22, v23, v24, v5, s, p, g, z, q2, q3, ea, tp, gr, F0, F1, F2, F3, F4, F5, F6, F7, F8, F9, F10, F11, F12⟩ hd hA K hK
            subst ea
            simp [Aft, Region.binds] at hA
            have HD10 := Lib.hid (show d 10 = true by simp [hA])
            have HD11 := Lib.hid (show d 11 = true by simp [hA])
            clear hA
            simp only [puts, List.foldl, Act.put, List.setIfInBounds_toArray, List.set_cons_zero, List.set_cons_succ]
            have E10 := F10.out HD10.out
            rw [E10.2.2.2]
            clear E10
            have E11 := F11.out HD11.out
            rw [E11.1]
            have hg := E11.2.1
            have XB0 := E11.2.2
            clear E11
            have HHd := Lib.hid hd
            clear hd
            have Z4 := (F4.out (F10.out HD10.out).1).2.2
            have Z6 := (F6.out (F7.out (F10.out HD10.out).2.1).1).2
            have Z9 := (F9.out (F10.out HD10.out).2.2.1).2
            have XB := XB0 HHd.out
            have X9 := XB.three
            have lX := XB.lt
            clear XB0
            go_simp
            refine hK _ _ ?_
            exact ⟨v14, v15, v16, v17, v18, v19, v20, v21, v22, v23, (.agg #[.int .i64 z, .int .i64 (1 + q2), .int .i64 q3]), (.pointer (some ⟨g, 0, none⟩)), s, p, g, z, q2, q3, by simp only [puts, List.foldl, Act.put, List.setIfInBounds_toArray, List.set_cons_zero, List.set_cons_succ], (tp.far3 rfl (by omega)),
    (grown_far3 gr rfl (by omega)),
    Lib.hid fun h => ⟨(F0.out h).1, ⟨(F0.out h).2.1, fun k => absurd k (by simp [upD])⟩⟩,
    F1,
    F2,
    F3,
    F4,
    F5,
    F6,
    F7,
    F8,
    F9,
    Lib.hid fun h => ⟨(F10.out h).1, (F10.out h).2.1, (F10.out h).2.2.1, rfl⟩,
    Lib.hid fun h => ⟨rfl, (F11.out h).2.1, fun k => absurd k (by simp [upD])⟩,
    Lib.hid fun _ => ⟨HD11.out, HD10.out, ⟨_, _, _, XB.store3 rfl, by omega, by omega, by omega, by omega, by omega, by omega⟩⟩⟩
          exact StepsI.nil
      case rest =>
        clear tp gr
        obtain ⟨g, i, v, m, rfl, hg, hb6, G, tp, gr⟩ := hcut
        obtain ⟨b1, b2, b3, b4, b5, b6⟩ := hb6
        have hgb : g ≠ b := by omega
        have R1 := Lib.hid (HR.out.past gr (by omega))
        have NB1 := Lib.hid (HNB.out.past gr (by omega))
        have GW1 := Lib.hid (grown_trans HGW.out gr)
        have HU := Lib.hid (ent_under HR.out)
        have hgw : w.heap.size < g := by omega
        obtain ⟨G0, G1, G2, G3, G4, G5⟩ := G.three
        have lG := G.lt
        clear HR HNB HGW
        go_wp2_with fail
        with_reducible refine (next_x _ _ 4 _ (by omega) (by omega) tp).mono ?_
        rintro e w5 ⟨q, q0, q1, rfl, t5, g5⟩
        have GG5 := G.past g5 hgb
        have R5 := Lib.hid (R1.out.past g5 (by omega))
        have NB5 := Lib.hid (NB1.out.past g5 (by omega))
        have GW5 := Lib.hid (grown_trans GW1.out g5)
        clear G0 G1 G2 G3 G4 G5 lG G R1 NB1 GW1 tp g5
        go_upto_if 27 with fail
        go_cut [] from 27 to 32 (fun wx => ∃ en : En, EntP en ∧ Own wx g 51 (encA en) ∧ RowE 51 3 encE wx (w.heap.size + 1) r L ∧ Own wx w.heap.size 28 #[.int .i64 0, .slice none 0 0, .int .i64 0, .int .i64 0] ∧ Tp B wx b ∧ w.grownBy wx (some b))
        case first =>
          by_cases hq : q = 0
          · subst hq
            go_wp2_with fail
            with_reducible refine (next_x _ _ 9 _ (by omega) (by omega) t5).mono ?_
            rintro e w6 ⟨q9, q90, q91, rfl, t6, g6⟩
            have GG6 := GG5.past g6 hgb
            have R6 := R5.out.past g6 (by omega)
            have NB6 := NB5.out.past g6 (by omega)
            have GW6 := grown_trans GW5.out g6
            have wv : IntKind.i64.wrap (-1 - q9) = -1 - q9 := IntWalk.i64_in _ (by omega)
            obtain ⟨G0, G1, G2, G3, G4, G5⟩ := GG6.three
            have lG := GG6.lt
            have HR6 := Lib.hid R6
            have HNB6 := Lib.hid NB6
            have HGW6 := Lib.hid GW6
            clear R6 NB6 GW6 GG5 R5 NB5 GW5 t5 g6
            go_wp2_with fail
            go_meet
            have s1 : w6.grownBy (w6.setCell ⟨g, 1, none⟩ (.int .i64 (-1 - q9))) (some g) := grown_set (grown_refl _ _) (.inl rfl) _
            have s2 := grown_set (p := ⟨g, 2, none⟩) s1 (.inl rfl) (.int .i64 0)
            have s3 := grown_set (p := ⟨g, 1, none⟩) HGW6.out (.inr (Nat.le_of_lt hgw)) (.int .i64 (-1 - q9))
            have s4 := grown_set (p := ⟨g, 2, none⟩) s3 (.inr (Nat.le_of_lt hgw)) (.int .i64 0)
            exact ⟨(i, (-1 - q9, 0)), ⟨b1, by show i < 256; omega, ⟨(show (Lit.int .i64 (-1 - q9)).wf = true from WalkArith.wf_i64 (by omega)), by show (0 : Int) ≤ 0; omega, by show (0 : Int) ≤ 7; omega, fun _ => rfl⟩, by show ¬(-1 - q9 = 0); omega⟩, (GG6.set 1 _).set 2 _,
              HR6.out.farT (b := g) (fun k e => Nat.lt_of_lt_of_le (HU.out k e) hg) s2, (HNB6.out.far (p := ⟨g, 1, none⟩) (show w.heap.size ≠ g by omega) _).far (p := ⟨g, 2, none⟩) (show w.heap.size ≠ g by omega) _, (t6.set (p := ⟨g, 1, none⟩) (show B ≤ g by omega) _).set (p := ⟨g, 2, none⟩) (show B ≤ g by omega) _, s4⟩
          · go_wp2_with fail
            go_meet
            exact ⟨(i, (v, m)), ⟨b1, by show i < 256; omega, ⟨(show (Lit.int .i64 v).wf = true from WalkArith.wf_i64 (by omega)), b5, b6, fun h => absurd h (by show ¬(v ≤ 0); omega)⟩, by show ¬(v = 0); omega⟩, GG5, R5.out, NB5.out, t5, GW5.out⟩
        case rest =>
          clear GG5 R5 NB5 GW5 t5
          obtain ⟨en, hep, G, R, NB, tp, gw⟩ := hcut
          have HEP := Lib.hid hep
          have hwe : (Lit.int .i64 en.2.1).wf = true := hep.2.2.1.1
          obtain ⟨ar, n, cr, rfl, hn, -⟩ := RowE.ents R
          have HR2 := Lib.hid R
          have HNB2 := Lib.hid NB
          have HGW2 := Lib.hid gw
          have HLn := Lib.hid hn
          have hn6 : n ≤ 6 := by omega
          clear hep R NB gw hn
          go_wp2_with fail
          go_loopw [6, 7] (fun sv iv wr => ∃ (j : Nat) (sb : Bool), sv = .bool sb ∧ iv = .int .i64 j ∧ j ≤ n ∧ Own wr g 51 (encA en) ∧ RowE 51 3 encE wr (w.heap.size + 1) (.slice ar n cr) L ∧ Own wr w.heap.size 28 #[.int .i64 0, .slice none 0 0, .int .i64 0, .int .i64 0] ∧ Tp B wr b ∧ w.grownBy wr (some b)) (fun _ iv _ => n - (intOf iv).toNat)
          case atStart => exact ⟨0, false, rfl, rfl, by omega, G, HR2.out, HNB2.out, tp, HGW2.out⟩
          case round =>
            clear G HR2 HNB2 tp HGW2
            obtain ⟨j, sb, rfl, rfl, hj, G, R, NB, tp, gw⟩ := hrel
            obtain ⟨w7, rfl⟩ : ∃ w7 : World, w7 = wr := ⟨_, rfl⟩
            have HR3 := Lib.hid R
            have HNB3 := Lib.hid NB
            have HGW3 := Lib.hid gw
            have HNl := Lib.hid (show w.heap.size < w7.heap.size from NB.lt)
            clear R NB gw
            by_cases hjn : j < n
            · have j0 : (0 : Int) ≤ (j : Int) := by omega
              have j1 : (j : Int) < (n : Int) := by omega
              obtain ⟨ge, rfl, hge, c0, -, -⟩ := ent_cell HR3.out (show j < L.length by have := HLn.out; omega)
              obtain ⟨xi, hxi⟩ : ∃ xi, (L.getD j (0, (0, 0))).1 = xi := ⟨_, rfl⟩
              rw [hxi] at c0
              obtain ⟨G0, G1, G2, G3, G4, G5⟩ := G.three
              have lG := G.lt
              clear hxi
              cases sb
              all_goals
                cases hx : (xi == en.1)
                all_goals
                  go_upto_region 12 with fail
                  go_quiet (fail)
                  revert nq; intro nq1
                  have G8 := G.drewN nq1
                  have NB8 := HNB3.out.drewN nq1
                  have tp8 := tp.drewN nq1
                  have gw8 := grown_drewN HGW3.out nq1
                  have R8 : Hid (RowE 51 3 encE (w7.drewN nq1) (w.heap.size + 1) (.slice (some ⟨ge, 0, none⟩) n cr) L) := Lib.hid HR3.out
                  clear c0 G0 G1 G2 G3 G4 G5 lG
                  generalize World.drewN w7 nq1 = w8 at *
                  go_wp2
                  exact ⟨⟨j + 1, _, rfl, by go_num, by omega, G8, R8.out, NB8, tp8, gw8⟩, by simp [intOf]; omega⟩
            · have hjn2 : j = n := by omega
              subst hjn2
              cases sb
              case true =>
                go_wp2
                exact ⟨⟨N - 1, L, _, rfl, by omega, by rw [show ((N : Int) - 1) = ((N - 1 : Nat) : Int) from by omega], HOK.out, by omega, HR3.out, HNB3.out, tp, HGW3.out⟩, by simp [intOf]; omega⟩
              case false =>
                obtain ⟨G0, G1, G2, G3, G4, G5⟩ := G.three
                have lG := G.lt
                have HA := Lib.hid HR3.out.above
                have hlen : L.length < 1000000 := by omega
                have HLL := Lib.hid hlen
                clear hlen
                go_wp2_with (at_builtin; go_loud (refine wpList_append_row _ rfl (.tmp 52) (.tmp 54) 41 rfl (w.heap.size + 1) info_entry Try.underlying41 (by decide) (by decide) encE_len (.slice ar j cr) L rfl (HR3.out.alloc _) _ _ en rfl (Own.new _ _ _) encE_one HLL.out (by decide) (by have := HNl.out; simp; omega) ?_; intro g9 cap9 w9 R9 G9 o9))
                exact ⟨⟨N - 1, L ++ [en], _, rfl, by omega, by rw [show ((N : Int) - 1) = ((N - 1 : Nat) : Int) from by omega], HOK.out.snoc HEP.out, by rw [List.length_append]; simp; omega, R9, Own.keptA (B := w.heap.size + 1) (HNB3.out.alloc _) G9 (fun y e => HA.out y e) (by omega), Tp.keptA (B := w.heap.size + 1) (tp.alloc _) G9 (fun y e => HA.out y e) (by omega), grown_above (grown_alloc HGW3.out _) G9 (fun y e => by have := HA.out y e; omega)⟩, by simp [intOf]; omega⟩
    · have hN0 : N = 0 := by omega
      subst hN0
      obtain ⟨ar, cr, rfl⟩ := HR.out.len
      go_wp2_with fail
      with_reducible refine (made_f _ _ L _ (by omega) HOK.out HR.out).mono ?_
      rintro e w5 ⟨s, x, m, rfl, n, g5⟩
      obtain ⟨a2, j2, c2, rfl⟩ := n.slice
      have NN := Lib.hid n
      have N9 := HNB.out.grew g5
      have T9 := tp.grew g5
      have G9 := grown_trans HGW.out (grown_row (r := some b) g5.grown)
      obtain ⟨N0, N1, N2, N3, N4, N5, N6, N7⟩ := N9.four
      clear n g5
      go_wp2_with fail
      generalize hw3 : World.setCell (World.setCell (World.setCell (World.setCell _ _ _) _ _) _ _) _ _ = w3
      have OE := own4 hw3 N9
      have nE := node4 hw3 NN.out (fun b hb => by omega)
      have tE : Tp B w3 b := by rw [← hw3]; exact (((T9.set (p := ⟨w.heap.size, 0, none⟩) hbw _).set (p := ⟨w.heap.size, 1, none⟩) hbw _).set (p := ⟨w.heap.size, 2, none⟩) hbw _).set (p := ⟨w.heap.size, 3, none⟩) hbw _
      have gE : w.grownBy w3 (some b) := by
        rw [← hw3]
        have s0 := grown_set (p := ⟨w.heap.size, 0, none⟩) G9 (.inr (Nat.le_refl _)) (.int .i64 (hF (topOf L) : Nat))
        have s1 := grown_set (p := ⟨w.heap.size, 1, none⟩) s0 (.inr (Nat.le_refl _)) (.slice a2 j2 c2)
        have s2 := grown_set (p := ⟨w.heap.size, 2, none⟩) s1 (.inr (Nat.le_refl _)) (.int .i64 x)
        exact grown_set (p := ⟨w.heap.size, 3, none⟩) s2 (.inr (Nat.le_refl _)) (.int .i64 m)
      clear hw3 N0 N1 N2 N3 N4 N5 N6 N7
      obtain ⟨b0, b1, b2, b3, -⟩ := OE.four
      exact bodyPost_ret (v := treeV (hF (topOf L)) (.slice a2 j2 c2) x m) (by simp [results, Try.results37, go_sem, b0, b1, b2, b3]) rfl ⟨_, _, _, _, _, rfl, made_tree HOK.out (nE.mono (fun b hb _ => by omega)), tE, gE⟩
end Go.Proofs.Ytdlhihllmidfeaa
