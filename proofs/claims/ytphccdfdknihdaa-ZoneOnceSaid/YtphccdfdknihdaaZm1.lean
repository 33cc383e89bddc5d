/- The made states of layer 10: Zones: right zones, whatever the tape. -/
import Derived.Test.YtphccdfdknihdaaZl0
import Derived.Test.YtphccdfdknihdaaZr5
namespace Go.Mine
open Go Go.RowKit
/-- Three sizes at most: right zones. -/
theorem newX_ok {S : List Int} {a b c : Int} {k : Nat} (ha : 1 ≤ a ∧ a ≤ 12) (hb : 1 ≤ b ∧ b ≤ 12) (hc : 1 ≤ c ∧ c ≤ 8) (hk : 1 ≤ k ∧ k ≤ 3) (hS : S = [a, b, c].take k) : okB (newX S).1 = true ∧ (newX S).2 = 0 ∧ (newX S).1.length = k := by
  have fin : ∀ {T : List Int}, (newX T).2 = 0 → T.length = k → okB (newX T).1 = true ∧ (newX T).2 = 0 ∧ (newX T).1.length = k := fun {T} h0 hl => by
    rcases newX_cases T with ⟨-, h⟩ | ⟨h1, h2, h3, -⟩
    · exact absurd h0 h
    · exact ⟨h1, h2, h3.trans hl⟩
  rcases (show k = 1 ∨ k = 2 ∨ k = 3 by omega) with rfl | rfl | rfl
  · subst hS
    refine fin ?_ rfl
    show (newX [a]).2 = 0
    have e : newG 1 [a] = some [mkZ 1 a] := by
      unfold newG newG
      rw [if_pos ⟨ha.1, by omega⟩]; rfl
    unfold newX; rw [e]
  · subst hS
    refine fin ?_ rfl
    show (newX [a, b]).2 = 0
    have e : newG 1 [a, b] = some [mkZ 1 a, mkZ (1 + a) b] := by
      unfold newG newG newG
      rw [if_pos ⟨ha.1, by omega⟩, if_pos ⟨hb.1, by omega⟩]; rfl
    unfold newX; rw [e]
  · subst hS
    refine fin ?_ rfl
    show (newX [a, b, c]).2 = 0
    have e : newG 1 [a, b, c] = some [mkZ 1 a, mkZ (1 + a) b, mkZ (1 + a + b) c] := by
      unfold newG newG newG newG
      rw [if_pos ⟨ha.1, by omega⟩, if_pos ⟨hb.1, by omega⟩, if_pos ⟨hc.1, by omega⟩]; rfl
    unfold newX; rw [e]
theorem takX_len (u : Bool) (L : List Zo) (p : Int) : (takX u L p).1.length = L.length := by
  unfold takX
  split <;> first | rfl | exact setF_len _ _ _
theorem givX_len (L : List Zo) (f : Int) : (givX L f).1.length = L.length := by
  unfold givX
  split
  · rfl
  · rfl
  · split
    · rfl
    · exact setF_len _ _ _
end Go.Mine
namespace Go.Proofs.Ytphccdfdknihdaa
open Go.RowKit Go.Mine

/-- Right zones, one to three, in blocks of its own. -/
def RetZs (B b : Nat) (w : World) (e : Ending) (w' : World) : Prop := ∃ v L, e = .returned v ∧ okB L = true ∧ L.length ≤ 3 ∧ ZsR w' (fun g => w.heap.size ≤ g) v L ∧ Tp B w' b ∧ w.grownBy w' (some b)
theorem past_r {w w' : World} {p : Nat → Prop} {v : Value} {L : List Zo} {b : Nat} (h : ZsR w p v L) (g : w.grownBy w' (some b)) (hp : ∀ x, p x → x < w.heap.size → x ≠ b) : ZsR w' p v L :=
  h.keep g.size (fun _ a _ => a) fun x hx hl => g.block x hl (fun e => by injection e with e; exact hp x hx hl e)
set_option maxRecDepth 100000 in
set_option maxHeartbeats 4000000 in
theorem zones_x {B b : Nat} {w : World} (tp : Tp B w b) (hbw : B ≤ w.heap.size) : Calls Try.prog 28 #[.pointer (some ⟨b, 0, none⟩)] w (RetZs B b w) := by
  have hb := tp.ltB
  go_enter Try.func28, Try.ntmps28
  go_wp2_with fail
  with_reducible refine (next_x _ _ _ _ (by omega) (by omega) tp).mono ?_
  rintro e w1 ⟨q1, a0, a1, rfl, t1, g1⟩
  go_wp2_with fail
  with_reducible refine (next_x _ _ _ _ (by omega) (by omega) t1).mono ?_
  rintro e w2 ⟨q2, b0, b1, rfl, t2, g2⟩
  replace g2 := grown_trans g1 g2
  clear t1 g1
  go_wp2_with fail
  with_reducible refine (next_x _ _ _ _ (by omega) (by omega) t2).mono ?_
  rintro e w3 ⟨q3, c0, c1, rfl, t3, g3⟩
  replace g3 := grown_trans g2 g3
  clear t2 g2
  have R0 : RowE 3 1 enc1 (w3.alloc (.cells #[.int .i64 (1 + q1), .int .i64 (1 + q2), .int .i64 (1 + q3)] 3)) w3.heap.size (.slice (some ⟨w3.heap.size, 0, none⟩) 3 3) [1 + q1, 1 + q2, 1 + q3] := RowE.lit w3 _ rfl rfl (show 3 ≤ maxLen by decide) (Nat.le_refl _)
  go_wp2_with fail
  with_reducible refine (next_x _ _ _ _ (by omega) (by omega) (t3.alloc _)).mono ?_
  rintro e w4 ⟨q4, d0, d1, rfl, t4, g4⟩
  have hl3 := t3.lt
  have R1 := R0.past g4 (show b < w3.heap.size from hl3)
  replace g4 := grown_trans (grown_alloc g3 _) g4
  obtain ⟨k, rfl⟩ : ∃ k : Nat, q4 = k := ⟨q4.toNat, by omega⟩
  obtain ⟨a, c, e, hr, -⟩ := R1.rdI
  injection e with e1 e2 e3
  subst e1 e3
  have hr2 : RdI w4 (fun _ => True) (some ⟨w3.heap.size, 0, none⟩) (1 + k) ([1 + q1, 1 + q2, 1 + q3].take (1 + k)) := by
    obtain ⟨-, h | ⟨g, o, e, hg, hl, hc⟩⟩ := hr
    · exact absurd h (by simp)
    · injection e with e
      injection e with e1 e2
      subst e1 e2
      refine ⟨by simp; omega, .inr ⟨_, 0, rfl, trivial, hl, fun j hj => ?_⟩⟩
      have hj2 : j < 3 := by simp at hj; omega
      rw [hc j hj2]
      congr 2
      rw [List.getD, List.getD, List.getElem?_take_of_lt (by simp at hj; omega)]
  have hS : ([1 + q1, 1 + q2, 1 + q3].take (1 + k)).length ≤ 1000 := by simp; omega
  obtain ⟨HOK, HE, hlen⟩ := newX_ok (a := 1 + q1) (b := 1 + q2) (c := 1 + q3) (k := 1 + k) (by omega) (by omega) (by omega) (by omega) rfl
  generalize [1 + q1, 1 + q2, 1 + q3].take (1 + k) = S at *
  have HRI := Lib.hid hr2
  have HG4 := Lib.hid g4
  have HT4 := Lib.hid t4
  have k1 : (0 : Int) ≤ (k : Int) := by omega
  have k2 : (k : Int) < 3 := d1
  clear hr hr2 R0 R1 t3 g3 g4 t4 e2 d0 d1
  go_wp2_with fail
  with_reducible refine (new_w HRI.out hS).mono ?_
  rintro e w5 ⟨v5, rfl, Z5, G5⟩
  rw [HE]
  have HZ5 := Lib.hid Z5
  have HT5 := Lib.hid (HT4.out.grew G5)
  have HG5 := Lib.hid (grown_trans HG4.out (grown_row G5.grown))
  have HOO := Lib.hid HOK
  have HLE := Lib.hid hlen
  have hs4 := HG4.out.size
  generalize (newX S).1 = L at *
  clear Z5 G5 HE hlen HOK
  go_wp2_with fail
  with_reducible refine (next_x _ _ _ _ (by omega) (by omega) HT5.out).mono ?_
  rintro e w6 ⟨q6, f0, f1, rfl, t6, g6⟩
  obtain ⟨n0, rfl⟩ := Int.eq_ofNat_of_zero_le f0
  have HZ6 : Hid (ZsR w6 (fun g => w.heap.size ≤ g) v5 L) := Lib.hid (past_r (HZ5.out.mono (q := fun g => w.heap.size ≤ g) fun g h _ => h.elim (fun h => h.elim) fun h => Nat.le_trans hs4 h) g6 (fun x hx _ => by have h : w.heap.size ≤ x := hx; omega))
  have HT6 := Lib.hid t6
  have HG6 := Lib.hid (grown_trans HG5.out g6)
  have hL3 : L.length ≤ 3 := by rw [HLE.out]; omega
  clear t6 g6
  go_wp2_with fail
  go_loopw [3, 5] (fun xv nv wr => ∃ (n : Nat) (L : List Zo) (r : Value), r = xv ∧ nv = .int .i64 n ∧ n ≤ 20 ∧ Hid (okB L = true) ∧ L.length ≤ 3 ∧ ZsR wr (fun g => w.heap.size ≤ g) r L ∧ Tp B wr b ∧ w.grownBy wr (some b)) (fun _ nv _ => (intOf nv).toNat)
  case atStart => exact ⟨n0, L, _, rfl, rfl, by omega, HOO, hL3, HZ6.out, HT6.out, HG6.out⟩
  case round =>
    clear HZ6 HT6 HG6 HZ5 HT5 HG5 HT4 HG4 HRI
    obtain ⟨n, M, r, rfl, rfl, hn, HOK, hM, Z, T, G⟩ := hrel
    obtain ⟨wo, rfl⟩ : ∃ wo : World, wo = wr := ⟨_, rfl⟩
    have hsz := G.size
    by_cases hp : 0 < n
    · have hm1 : 1 ≤ M.length := (okB_iff.1 HOK.out).1
      obtain ⟨a9, c9, rfl⟩ := Z.slice
      obtain ⟨m, hm⟩ : ∃ m, M.length = m := ⟨_, rfl⟩
      have HM := Lib.hid hm
      rw [hm] at hm1 hM Z ⊢
      have HZ := Lib.hid Z
      have hp2 : (0 : Int) < (n : Int) := by omega
      have HSM := Lib.hid (ok_small HOK.out)
      have HO2 := Lib.hid (fun u p => ok_take (u := u) (p := p) HOK.out)
      have HLN := Lib.hid (fun u p => (takX_len u M p).trans hm)
      clear hm Z
      go_wp2_with fail
      with_reducible refine (next_x _ _ _ _ (by omega) (by omega) T).mono ?_
      rintro e w7 ⟨q7, h0, h1, rfl, t7, g7⟩
      go_wp2_with fail
      with_reducible refine (next_x _ _ _ _ (by omega) (by omega) t7).mono ?_
      rintro e w8 ⟨q8, i0, i1, rfl, t8, g8⟩
      have G8 := grown_trans g7 g8
      have HZ8 := Lib.hid (past_r HZ.out G8 (fun x hx _ => by have h : w.heap.size ≤ x := hx; omega))
      have HT8 := Lib.hid t8
      have HG8 := Lib.hid (grown_trans G G8)
      have hs8 := HG8.out.size
      clear t7 g7 t8 g8 G8 T G
      go_wp2_with fail
      with_reducible refine (take_q HZ8.out HSM.out).mono ?_
      rintro e w9 ⟨v9, rfl, Z9, G9⟩
      have HO9 := Lib.hid (HO2.out (q8 == 0) q7)
      have HN9 := Lib.hid (HLN.out (q8 == 0) q7)
      have HZ9 : Hid (ZsR w9 (fun g => w.heap.size ≤ g) v9 (takX (q8 == 0) M q7).1) := Lib.hid (Z9.mono fun g h _ => h.elim id fun h => Nat.le_trans hs8 h)
      have HT9 := Lib.hid (HT8.out.grew G9)
      have HG9 := Lib.hid (grown_trans HG8.out (grown_row G9.grown))
      clear Z9 G9
      generalize takX (q8 == 0) M q7 = X at *
      go_wp2_with fail
      go_roundw
      case rel => exact ⟨n - 1, X.1, v9, rfl, by go_num, by omega, HO9, by rw [HN9.out]; exact hM, HZ9.out, HT9.out, HG9.out⟩
      case measure => simp [intOf]; omega
    · obtain rfl : n = 0 := by omega
      have HZ := Lib.hid Z
      have HT := Lib.hid T
      have HG := Lib.hid G
      clear Z T G
      rw [show ((0 : Nat) : Int) = 0 from rfl]
      go_wp2
      go_ret
      exact ⟨_, _, rfl, HOK.out, hM, HZ.out, HT.out, HG.out⟩
end Go.Proofs.Ytphccdfdknihdaa
