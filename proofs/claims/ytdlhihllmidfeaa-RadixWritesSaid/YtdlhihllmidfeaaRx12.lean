/- radix.canSearch, Count, Next. -/
import Derived.Test.YtdlhihllmidfeaaRx11
namespace Go.Proofs.Ytdlhihllmidfeaa
open Go.RowKit Go.Mine

def srchB (m : Int) : Bool := match decide (m = 0) with | true => true | false => markB m
set_option maxHeartbeats 2000000 in
theorem canSearch_f (h : Nat) (f : Fen) (s : Value) (x m mk : Int) (p : Nat → Prop) (w : World) (n : TreeF w p h f s x m) : Calls Try.prog 40 #[treeV h s x m, .int .i64 mk] w (RetG (.bool (srchB mk)) w) := by
  obtain ⟨a, j, c, rfl⟩ := n.node.slice
  have HN := Lib.hid n
  clear n
  have T0 := Own.new w 28 #[.int .i64 h, .slice a j c, .int .i64 x, .int .i64 m]
  have G := (Grew.refl w).alloc (.cells #[.int .i64 h, .slice a j c, .int .i64 x, .int .i64 m] 28)
  have HG := Lib.hid G
  clear T0 G
  by_cases h0 : mk = 0
  · subst h0
    go_enter Try.func40, Try.ntmps40
    go_wp2_with fail
    with_reducible refine (valid_f h f _ _ _ p _ (HN.out.node.grew HG.out) HN.out.good HN.out.le).mono ?_
    rintro e w1 ⟨rfl, g1⟩
    rw [HN.out.valid]
    go_wp2
    go_ret
    exact ⟨rfl, HG.out.trans g1⟩
  · have e0 : (mk == 0) = false := by simpa using h0
    have HS := Lib.hid (show srchB mk = markB mk from by unfold srchB; rw [decide_eq_false h0])
    clear h0
    go_enter Try.func40, Try.ntmps40
    go_wp2_with fail
    with_reducible refine (isMark_any mk _).mono ?_
    rintro e w1 ⟨rfl, rfl⟩
    cases hm : markB mk
    · rw [hm] at HS
      go_wp2
      go_ret
      exact ⟨ret_bool HS.out.symm, HG.out⟩
    · rw [hm] at HS
      go_wp2_with fail
      with_reducible refine (valid_f h f _ _ _ p _ (HN.out.node.grew HG.out) HN.out.good HN.out.le).mono ?_
      rintro e w1 ⟨rfl, g1⟩
      rw [HN.out.valid]
      go_wp2
      go_ret
      exact ⟨ret_bool HS.out.symm, HG.out.trans g1⟩
theorem Count_f (h : Nat) (f : Fen) (s : Value) (x m mk : Int) (p : Nat → Prop) (w : World) (n : TreeF w p h f s x m) (hs : srchB mk = true) : Calls Try.prog 21 #[treeV h s x m, .int .i64 mk] w (RetG (.int .i64 (cntR mk h f)) w) := by
  obtain ⟨a, j, c, rfl⟩ := n.node.slice
  have HN := Lib.hid n
  clear n
  go_enter Try.func21, Try.ntmps21
  have T := Own.new w 28 #[.int .i64 h, .slice a j c, .int .i64 x, .int .i64 m]
  have G := (Grew.refl w).alloc (.cells #[.int .i64 h, .slice a j c, .int .i64 x, .int .i64 m] 28)
  go_wp2_with fail
  with_reducible refine (canSearch_f h f _ _ _ mk p _ (HN.out.grew G)).mono ?_
  rintro e w1 ⟨rfl, g1⟩
  rw [hs]
  replace T := T.grew g1
  replace G := G.trans g1
  clear g1
  obtain ⟨T0, T1, T2, T3, -⟩ := T.four
  go_wp2_with fail
  have h5 : h ≤ 5 := by have := HN.out.le; omega
  with_reducible refine (count_f mk h f _ _ _ p _ h5 (HN.out.node.grew G) HN.out.good).mono ?_
  rintro e w2 ⟨rfl, g2⟩
  go_wp2
  go_ret
  exact ⟨rfl, G.trans g2⟩
def ffGo (r : Nat → Int × Bool) (P : Nat) : Nat → Nat → Int × Bool
  | 0, _ => (0, false)
  | n + 1, k => match (r k).2 with | true => (((k * P : Nat) : Int) + (r k).1, true) | false => ffGo r P n (k + 1)
def ffG (m : Int) (h : Nat) (f : Fen) (from' : Nat) : Bool := match emp h f with | true => true | false => match hasB m (orM h f) with | false => true | true => decide (p4 h ≤ from')
def ffR (m : Int) : Nat → Fen → Nat → Int × Bool
  | 0, f, from' => match ffG m 0 f from' with | true => (0, false) | false => (0, frB (f 0).1)
  | h + 1, f, from' => match ffG m (h + 1) f from' with | true => (0, false) | false => ffGo (fun k => ffR m h (sub h f k) (from' - k * p4 h)) (p4 h) (4 - from' / p4 h) (from' / p4 h)
/-- It returns a number and whether there is one. -/
def RetO (o : Int × Bool) (w : World) (e : Ending) (w' : World) : Prop := e = .returned (.tuple #[.int .i64 o.1, .bool o.2]) ∧ Grew w w'
set_option maxHeartbeats 4000000 in
theorem ff_guard (mk : Int) (h : Nat) (f : Fen) (s : Value) (x m : Int) (from' : Nat) (p : Nat → Prop) (w : World) (n : NodeF w p h f s x m) (hf : GoodF f) (hg : ffG mk h f from' = true) :
    Calls Try.prog 41 #[nodeV s x m, .int .i64 (p4 h : Nat), .int .i64 from', .int .i64 mk] w (RetO (0, false) w) := by
  obtain ⟨a, j, c, rfl⟩ := n.slice
  have HN := Lib.hid n
  have HF := Lib.hid hf
  have HM := Lib.hid n.marks
  obtain ⟨P, hP⟩ : ∃ P, p4 h = P := ⟨_, rfl⟩
  unfold ffG at hg
  rw [hP] at hg ⊢
  clear n hf hP
  go_enter Try.func41, Try.ntmps41
  have T := Own.new w 26 #[.slice a j c, .int .i64 x, .int .i64 m]
  have G := (Grew.refl w).alloc (.cells #[.slice a j c, .int .i64 x, .int .i64 m] 26)
  go_wp2_with fail
  with_reducible refine (isEmpty_f h f _ _ _ p _ (HN.out.grew G) HF.out).mono ?_
  rintro e w1 ⟨rfl, g1⟩
  replace T := T.grew g1
  replace G := G.trans g1
  clear g1
  obtain ⟨T0, T1, T2, -⟩ := T.three
  rw [← HM.out] at hg
  generalize emp h f = eb at *
  cases eb
  · dsimp only at hg
    cases h1 : hasB mk m
    · have e1 : (bits .and .i64 m mk == mk) = false := h1
      have e2 : (bits .and .i64 m mk != mk) = true := by simp [bne, e1]
      clear h1 hg
      go_wp2
      refine bodyPost_ret (v := .tuple #[.int .i64 0, .bool false]) (by simp [results, Try.results41, go_sem]) rfl ⟨rfl, G⟩
    · rw [h1] at hg
      have e1 : (bits .and .i64 m mk == mk) = true := h1
      have e2 : (bits .and .i64 m mk != mk) = false := by simp [bne, e1]
      have e3 : P ≤ from' := of_decide_eq_true hg
      clear h1 hg
      go_wp2
      refine bodyPost_ret (v := .tuple #[.int .i64 0, .bool false]) (by simp [results, Try.results41, go_sem]) rfl ⟨rfl, G⟩
  · go_wp2
    refine bodyPost_ret (v := .tuple #[.int .i64 0, .bool false]) (by simp [results, Try.results41, go_sem]) rfl ⟨rfl, G⟩
end Go.Proofs.Ytdlhihllmidfeaa
