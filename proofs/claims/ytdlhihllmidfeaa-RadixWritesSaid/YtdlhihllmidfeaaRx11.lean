/- radix.Marked, Count. -/
import Derived.Test.YtdlhihllmidfeaaRx10
namespace Go.Proofs.Ytdlhihllmidfeaa
open Go.RowKit Go.Mine

def andI (a b : Int) : Int := bits .and .i64 a b
def markedB (m : Int) (l : Lef) : Bool := !(andI l.2 m == 0)
set_option maxHeartbeats 4000000 in
theorem marked_f (h : Nat) (f : Fen) (s : Value) (x m mk : Int) (i : Nat) (p : Nat → Prop) (w : World) (n : TreeF w p h f s x m) (hi : i < 256) (hm : markB mk = true) :
    Calls Try.prog 19 #[treeV h s x m, .int .i64 i, .int .i64 mk] w (RetG (.bool (markedB mk (f i))) w) := by
  obtain ⟨a, j, c, rfl⟩ := n.node.slice
  have HN := Lib.hid n
  clear n
  go_enter Try.func19, Try.ntmps19
  have T := Own.new w 28 #[.int .i64 h, .slice a j c, .int .i64 x, .int .i64 m]
  have G := (Grew.refl w).alloc (.cells #[.int .i64 h, .slice a j c, .int .i64 x, .int .i64 m] 28)
  go_wp2_with fail
  with_reducible refine (isMark_any mk _).mono ?_
  rintro e w1 ⟨rfl, rfl⟩
  rw [hm]
  go_wp2_with fail
  with_reducible refine (check_f h f _ _ _ i p _ (HN.out.grew G)).mono ?_
  rintro e w1 ⟨rfl, g1⟩
  rw [show chkE (i : Int) = 0 from by unfold chkE; rw [show rangeI (i : Int) = true from decide_eq_true (by omega)]]
  replace T := T.grew g1
  replace G := G.trans g1
  clear g1
  obtain ⟨T0, T1, T2, T3, -⟩ := T.four
  go_wp2_with fail
  with_reducible refine (find_f h f _ _ _ i p _ (HN.out.node.grew G) HN.out.le hi (HN.out.out i)).mono ?_
  rintro e w2 ⟨a2, c2, rfl, g2⟩
  have hfd := field2
  go_wp2
  go_ret
  exact ⟨rfl, G.trans g2⟩
/-- How many frames have the mark m (or all of its bits). -/
def hasB (m k : Int) : Bool := andI k m == m
def frB (x : Int) : Bool := decide (0 < x)
def cntR (m : Int) : Nat → Fen → Int
  | 0, f => match hasB m (f 0).2, frB (f 0).1 with | true, true => 1 | _, _ => 0
  | h + 1, f => match hasB m (orM (h + 1) f) with | false => 0 | true => 0 + cntR m h (sub h f 0) + cntR m h (sub h f 1) + cntR m h (sub h f 2) + cntR m h (sub h f 3)
theorem cntR_in (m : Int) : ∀ (h : Nat) (f : Fen), 0 ≤ cntR m h f ∧ cntR m h f ≤ (p4 h : Nat)
  | 0, f => by
    show _ ∧ _ ≤ ((1 : Nat) : Int)
    unfold cntR
    cases hasB m (f 0).2 <;> cases frB (f 0).1 <;> simp
  | h + 1, f => by
    have i0 := cntR_in m h (sub h f 0)
    have i1 := cntR_in m h (sub h f 1)
    have i2 := cntR_in m h (sub h f 2)
    have i3 := cntR_in m h (sub h f 3)
    have e : ((p4 (h + 1) : Nat) : Int) = 4 * (p4 h : Nat) := by show ((4 * p4 h : Nat) : Int) = _; omega
    rw [e]
    unfold cntR
    cases hasB m (orM (h + 1) f)
    · dsimp only; omega
    · dsimp only; omega
theorem cntR_emp (m : Int) : ∀ (h : Nat) (f : Fen), emp h f = true → cntR m h f = 0
  | 0, f, e => by
    simp only [emp, decide_eq_true_eq] at e
    unfold cntR
    rw [e]
    cases hasB m 0 <;> rfl
  | h + 1, f, e => by
    have h0 := cntR_emp m h _ (emp_sub e (k := 0) (by omega))
    have h1 := cntR_emp m h _ (emp_sub e (k := 1) (by omega))
    have h2 := cntR_emp m h _ (emp_sub e (k := 2) (by omega))
    have h3 := cntR_emp m h _ (emp_sub e (k := 3) (by omega))
    unfold cntR
    rw [h0, h1, h2, h3]
    cases hasB m (orM (h + 1) f) <;> rfl
def cntUp (m : Int) (h : Nat) (f : Fen) : Nat → Int
  | 0 => 0
  | k + 1 => cntUp m h f k + cntR m h (sub h f k)
theorem cntUp_in (m : Int) (h : Nat) (f : Fen) : ∀ k, 0 ≤ cntUp m h f k ∧ cntUp m h f k ≤ (k * p4 h : Nat)
  | 0 => by simp [cntUp]
  | k + 1 => by
    have h1 := cntUp_in m h f k
    have h2 := cntR_in m h (sub h f k)
    have e : (((k + 1) * p4 h : Nat) : Int) = (k * p4 h : Nat) + (p4 h : Nat) := by rw [Nat.succ_mul]; omega
    unfold cntUp
    omega
set_option maxHeartbeats 4000000 in
theorem count_flat (m : Int) (a : Option Addr) (c : Nat) (x k : Int) (w : World) : Calls Try.prog 53 #[nodeV (.slice a 0 c) x k, .int .i64 m] w (RetG (.int .i64 (match hasB m k, frB x with | true, true => 1 | _, _ => 0)) w) := by
  have G := (Grew.refl w).alloc (.cells #[.slice a 0 c, .int .i64 x, .int .i64 k] 26)
  cases h1 : hasB m k
  · have e1 : (bits .and .i64 k m == m) = false := h1
    have e2 : (bits .and .i64 k m != m) = true := by simp [bne, e1]
    go_enter Try.func53, Try.ntmps53
    go_wp2
    go_ret
    exact ⟨rfl, G⟩
  · have e1 : (bits .and .i64 k m == m) = true := h1
    have e2 : (bits .and .i64 k m != m) = false := by simp [bne, e1]
    cases h2 : frB x
    · have e3 : ¬(0 < x) := of_decide_eq_false h2
      have e4 : x ≤ 0 := by omega
      go_enter Try.func53, Try.ntmps53
      go_wp2
      refine wp_loop_rounds 1 ?_; rw [rounds_succ]
      go_wp2
      go_ret
      exact ⟨rfl, G⟩
    · have e3 : 0 < x := of_decide_eq_true h2
      go_enter Try.func53, Try.ntmps53
      go_wp2
      go_ret
      exact ⟨rfl, G⟩
set_option maxHeartbeats 4000000 in
theorem count_node (mk : Int) (h : Nat) (hh : h ≤ 4) (ih : ∀ (f : Fen) (s : Value) (x m : Int) (p : Nat → Prop) (w : World), NodeF w p h f s x m → GoodF f → Calls Try.prog 53 #[nodeV s x m, .int .i64 mk] w (RetG (.int .i64 (cntR mk h f)) w))
    (f : Fen) (g c : Nat) (m : Int) (p : Nat → Prop) (w : World) (n : KidsF w p h f g) (hf : GoodF f) (hm : m = orM (h + 1) f) :
    Calls Try.prog 53 #[nodeV (.slice (some ⟨g, 0, none⟩) 4 c) 0 m, .int .i64 mk] w (RetG (.int .i64 (cntR mk (h + 1) f)) w) := by
  have HK := Lib.hid n
  have HF := Lib.hid hf
  have hc : cntR mk (h + 1) f = match hasB mk m with | false => 0 | true => cntUp mk h f 4 := by rw [hm]; rfl
  have hp := cntUp_in mk h f
  have hq : p4 h ≤ 256 := p4_mono hh
  have HB := Lib.hid (show ∀ k, k ≤ 4 → 0 ≤ cntUp mk h f k ∧ cntUp mk h f k ≤ 1024 from fun k hk => by
    have h1 := hp k
    have h2 : k * p4 h ≤ 4 * 256 := Nat.mul_le_mul hk hq
    omega)
  have HB1 := Lib.hid (show ∀ k, 0 ≤ cntR mk h (sub h f k) ∧ cntR mk h (sub h f k) ≤ 256 from fun k => by
    have h1 := cntR_in mk h (sub h f k)
    omega)
  rw [hc]
  clear n hf hm hc hp hq
  have G := (Grew.refl w).alloc (.cells #[.slice (some ⟨g, 0, none⟩) 4 c, .int .i64 0, .int .i64 m] 26)
  cases h1 : hasB mk m
  · have e1 : (bits .and .i64 m mk == mk) = false := h1
    have e2 : (bits .and .i64 m mk != mk) = true := by simp [bne, e1]
    clear h1
    go_enter Try.func53, Try.ntmps53
    go_wp2
    go_ret
    exact ⟨rfl, G⟩
  · have e1 : (bits .and .i64 m mk == mk) = true := h1
    have e2 : (bits .and .i64 m mk != mk) = false := by simp [bne, e1]
    clear h1
    go_enter Try.func53, Try.ntmps53
    go_wp2_with fail
    have HG := Lib.hid G
    clear G e1 e2
    go_loopw [5, 20] (fun t i wr => ∃ k : Nat, i = .int .i64 k ∧ t = .int .i64 (cntUp mk h f k) ∧ k ≤ 4 ∧ Grew w wr) (fun _ i _ => 4 - (intOf i).toNat)
    case atStart => exact ⟨0, rfl, rfl, by omega, HG.out⟩
    case round =>
      clear HG
      obtain ⟨k, rfl, rfl, hk4, G⟩ := hrel
      obtain ⟨b0, b1⟩ := HB.out k hk4
      have HU := Lib.hid (show cntUp mk h f (k + 1) = cntUp mk h f k + cntR mk h (sub h f k) from rfl)
      have H4 := Lib.hid (show k = 4 → cntUp mk h f 4 = cntUp mk h f k from fun e => by rw [e])
      generalize cntUp mk h f k = t at *
      by_cases hlt : k < 4
      · obtain ⟨s', x', m', c0, c1, c2, n⟩ := HK.out.grew G k hlt
        obtain ⟨a1, j1, c1', rfl⟩ := n.slice
        have HN := Lib.hid n
        have hgl := World.block_lt_of_cell? wr _ c0
        have hk0 : (0 : Int) ≤ (k : Int) := by omega
        have hk1 : (k : Int) < 4 := by omega
        clear n
        go_wp2_with fail
        with_reducible refine (ih (sub h f k) _ _ _ p _ (HN.out.grew ((Grew.refl wr).alloc _)) (HF.out.sub _ _)).mono ?_
        rintro e w2 ⟨rfl, g2⟩
        replace g2 := ((Grew.refl wr).alloc _).trans g2
        replace G := G.trans g2
        obtain ⟨d0, d1⟩ := HB1.out k
        clear g2 c0 c1 c2 hgl
        generalize cntR mk h (sub h f k) = u at *
        go_wp2_with fail
        go_roundw
        case rel => exact ⟨k + 1, by go_num, by rw [HU.out], by omega, G⟩
        case measure => simp [intOf]; omega
      · have hk : k = 4 := by omega
        have H5 := Lib.hid (H4.out hk)
        clear H4
        subst hk
        go_wp2
        go_ret
        exact ⟨ret_int H5.out.symm, G⟩
theorem count_f (mk : Int) : ∀ (h : Nat) (f : Fen) (s : Value) (x m : Int) (p : Nat → Prop) (w : World), h ≤ 5 → NodeF w p h f s x m → GoodF f → Calls Try.prog 53 #[nodeV s x m, .int .i64 mk] w (RetG (.int .i64 (cntR mk h f)) w)
  | 0, f, s, x, m, p, w, _, ⟨⟨a, c, e1⟩, e2, e3⟩, _ => by
    subst e1 e2 e3
    exact count_flat mk a c _ _ w
  | h + 1, f, s, x, m, p, w, hh, n, hf => by
    cases he : emp (h + 1) f
    · obtain ⟨g, c, rfl, rfl, hg, hk⟩ := n.kids he
      exact count_node mk h (by omega) (fun f s x m p w n hf => count_f mk h f s x m p w (by omega) n hf) f g c m p w hk hf n.marks
    · rcases n.show_ hf with ⟨-, rfl, rfl, a, c, rfl⟩ | ⟨e2, -⟩
      · rw [cntR_emp mk _ _ he]
        refine (count_flat mk a c 0 0 w).mono fun e w' ⟨h1, h2⟩ => ⟨h1.trans ?_, h2⟩
        cases hasB mk 0 <;> rfl
      · rw [he] at e2; cases e2
end Go.Proofs.Ytdlhihllmidfeaa
