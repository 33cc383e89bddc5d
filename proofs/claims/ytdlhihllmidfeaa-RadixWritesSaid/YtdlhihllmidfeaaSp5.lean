/- The reference of layer 1: list. -/
import Derived.Test.YtdlhihllmidfeaaSp4
import Derived.Test.YtdlhihllmidfeaaRm7
import Derived.Test.YtdlhihllmidfeaaRx14
import Derived.Deep.RegionHeld3
import Derived.Deep.DeepCutAuto
namespace Go.Proofs.Ytdlhihllmidfeaa
open Go.RowKit Go.Mine

theorem grown_own {a b c : World} {r s : Option Nat} (h : a.grownBy b r) (k : b.grownBy c s) (hs : ∀ x, s = some x → r = some x ∨ a.heap.size ≤ x) : a.grownBy c r :=
  ⟨k.os.trans h.os, k.tape.trans h.tape, k.output.trans h.output, Nat.le_trans h.size k.size, fun i hi hr =>
    (k.block i (Nat.lt_of_lt_of_le hi h.size) (fun e => by rcases hs i e.symm with e2 | e2; exact hr e2.symm; omega)).trans (h.block i hi hr)⟩
theorem cell_grown {w w' : World} {r : Option Nat} (h : w.grownBy w' r) {b o : Nat} {u : Value} (hc : w.cell? ⟨b, o, none⟩ = some u) (hr : r ≠ some b) : w'.cell? ⟨b, o, none⟩ = some u :=
  (World.cell?_of_block (a := ⟨b, o, none⟩) (h.block b (World.block_lt_of_cell? w _ hc) (fun e => hr e.symm))).trans hc
/-- It returns the row with more behind it; nothing else that was there has turned. -/
def RetAq (B : Nat) (v0 : Value) (L : List En) (w : World) (e : Ending) (w' : World) : Prop :=
  ∃ v, e = .returned v ∧ RowE 51 3 encE w' B v L ∧ w.grownBy w' v0.ownBlock ∧ ∀ k, v.ownBlock = some k → v0.ownBlock = some k ∨ w.heap.size ≤ k
theorem list_none (B : Nat) (v : Value) (L : List En) (a : Option Addr) (n c : Nat) (x m h first : Int) (w : World) (R : RowE 51 3 encE w B v L) (hB : B ≤ w.heap.size) (he : emptyB n x m = true) :
    Calls Try.prog 47 #[v, nodeV (.slice a n c) x m, .int .i64 h, .int .i64 first] w (RetAq B v L w) := by
  have HR := Lib.hid R
  have HB := Lib.hid hB
  have HE := Lib.hid he
  obtain ⟨a0, c0, rfl⟩ := R.len
  have G := (Grew.refl w).alloc (.cells #[.slice a n c, .int .i64 x, .int .i64 m] 26)
  clear R hB he
  go_enter Try.func47, Try.ntmps47
  go_wp2_with fail
  with_reducible refine (rempty_any a n c x m _).mono ?_
  rintro e w1 ⟨rfl, g1⟩
  rw [HE.out]
  go_wp2
  go_ret
  have G2 := G.trans g1
  exact ⟨_, rfl, HR.out.grew G2, grown_row (grown_of_below G2), fun k hk => .inl hk⟩
set_option maxHeartbeats 2000000 in
theorem list_leaf (B : Nat) (v : Value) (L : List En) (a : Option Addr) (c : Nat) (x m first : Int) (w : World) (R : RowE 51 3 encE w B v L) (hB : B ≤ w.heap.size) (hL : L.length ≤ 2000) (hx : emptyB 0 x m = false) :
    Calls Try.prog 47 #[v, nodeV (.slice a 0 c) x m, .int .i64 0, .int .i64 first] w (RetAq B v (L ++ [(first, (x, m))]) w) := by
  have O := Own.new w 26 #[.slice a 0 c, .int .i64 x, .int .i64 m]
  have G := (Grew.refl w).alloc (.cells #[.slice a 0 c, .int .i64 x, .int .i64 m] 26)
  have HE := Lib.hid hx
  have hL2 : L.length < 1000000 := by omega
  have HR := Lib.hid R
  have HB := Lib.hid hB
  have Ha := Lib.hid R.above
  clear hx hB R
  go_enter Try.func47, Try.ntmps47
  go_wp2_with fail
  with_reducible refine (rempty_any a 0 c x m _).mono ?_
  rintro e w1 ⟨rfl, g1⟩
  rw [HE.out]
  replace O := O.grew g1
  replace G := G.trans g1
  clear g1
  obtain ⟨O0, O1, O2, O3, O4, O5⟩ := O.three
  have R1 := Lib.hid (HR.out.grew G)
  have hB1 : B ≤ w1.heap.size := Nat.le_trans HB.out G.size
  have hb2 : ∀ o, B ≤ (w1.alloc o).heap.size := fun o => by simp; omega
  have HB2 := Lib.hid hb2
  have HG := Lib.hid G
  clear hb2 G hB1
  go_wp2_with (at_builtin; go_loud (refine wpList_append_row _ rfl (.tmp 15) (.tmp 22) 41 rfl B info_entry Try.underlying41 (by decide) (by decide) encE_len v L rfl (R1.out.alloc _) _ _ (first, (x, m)) rfl (Own.new _ _ _) encE_one hL2 (by decide) (HB2.out _) ?_; intro g cap w2 R2 G2 o2))
  go_ret
  refine ⟨_, rfl, R2, grown_own (grown_row (grown_of_below (HG.out.alloc _))) G2 (fun x e => .inl e), fun k hk => ?_⟩
  have hk2 : g = k := by simpa [Value.ownBlock] using hk
  subst hk2
  rcases o2 with o2 | o2
  · exact .inl o2
  · right
    have := HG.out.size
    rw [o2, World.size_alloc]
    omega
theorem num5k {k P q : Nat} (h : k * P = q) (hk : k < 4) (hP : P ≤ 256) : IntKind.i64.wrap ((k : Int) * (P : Int)) = (q : Int) := by
  have h3 := num3 h hk
  rw [← Int.natCast_mul, h]
  exact IntWalk.i64_in _ (by omega)
set_option maxHeartbeats 8000000 in
theorem list_node (B : Nat) (h : Nat) (hh : h ≤ 4) (ih : ∀ (v : Value) (L : List En) (f : Fen) (s : Value) (x m first : Int) (w : World), RowE 51 3 encE w B v L → B ≤ w.heap.size → L.length + p4 h ≤ 1024 → 0 ≤ first ∧ first + (p4 h : Nat) ≤ 2048 → NodeF w (fun b => b < B) h f s x m → GoodF f →
      Calls Try.prog 47 #[v, nodeV s x m, .int .i64 h, .int .i64 first] w (RetAq B v (L ++ entR h f first) w))
    (v : Value) (L : List En) (f : Fen) (g c : Nat) (m first : Int) (w : World) (R : RowE 51 3 encE w B v L) (hB : B ≤ w.heap.size) (hL : L.length + p4 (h + 1) ≤ 1024) (hfi : 0 ≤ first ∧ first + (p4 (h + 1) : Nat) ≤ 2048) (hg : g < B) (n2 : KidsF w (fun b => b < B) h f g) (hf : GoodF f) :
    Calls Try.prog 47 #[v, nodeV (.slice (some ⟨g, 0, none⟩) 4 c) 0 m, .int .i64 ((h : Int) + 1), .int .i64 first] w (RetAq B v (L ++ entR (h + 1) f first) w) := by
  have HR := Lib.hid R
  have HB := Lib.hid hB
  have HK := Lib.hid n2
  have HF := Lib.hid hf
  have IH := Lib.hid ih
  have e4 : p4 (h + 1) = 4 * p4 h := rfl
  have hp1 := p4_pos h
  have hp2 : p4 h ≤ 256 := p4_mono hh
  have HUl := Lib.hid (entUp_len h f first)
  have HU4 := Lib.hid (entUp_4 h f first)
  have HPQ := Lib.hid (fun w' => power_q h w' (by omega))
  have eE : emptyB 4 0 m = false := decide_eq_false fun e => by omega
  have e0 : ((h : Int) + 1 == 0) = false := by simp; omega
  have ha := R.above
  have hlt0 := R.lt
  obtain ⟨a0, c0, rfl⟩ := R.len
  have HA := Lib.hid ha
  have HLT := Lib.hid (fun k e => hlt0 k e)
  clear ha hlt0
  rw [e4] at hL hfi
  clear R hB n2 hf ih e4
  obtain ⟨P, hP⟩ : ∃ P, p4 h = P := ⟨_, rfl⟩
  have HP := Lib.hid hP
  simp only [hP] at IH HUl hL hfi hp1 hp2 HPQ
  clear hP
  have HFi := Lib.hid hfi
  have HLi := Lib.hid hL
  clear hfi hL hp1
  go_enter Try.func47, Try.ntmps47
  have O := Own.new w 26 #[.slice (some ⟨g, 0, none⟩) 4 c, .int .i64 0, .int .i64 m]
  have G := (Grew.refl w).alloc (.cells #[.slice (some ⟨g, 0, none⟩) 4 c, .int .i64 0, .int .i64 m] 26)
  go_wp2_with fail
  with_reducible refine (rempty_any (some ⟨g, 0, none⟩) 4 c 0 m _).mono ?_
  rintro e w1 ⟨rfl, g1⟩
  rw [eE]
  replace O := O.grew g1
  replace G := G.trans g1
  clear g1 eE
  have HO := Lib.hid O
  have HG := Lib.hid G
  clear O G
  go_wp2_with fail
  go_loopw [0, 9] (fun lv i wr => ∃ (k : Nat) (r : Value), r = lv ∧ i = .int .i64 k ∧ k ≤ 4 ∧ RowE 51 3 encE wr B r (L ++ entUp h f first k) ∧ w.grownBy wr (Value.slice a0 L.length c0).ownBlock ∧ (∀ k, r.ownBlock = some k → (Value.slice a0 L.length c0).ownBlock = some k ∨ w.heap.size + 1 ≤ k) ∧ w.heap.size + 1 ≤ wr.heap.size ∧ wr.cell? ⟨w.heap.size, 0, none⟩ = some (.slice (some ⟨g, 0, none⟩) 4 c)) (fun _ i _ => 4 - (intOf i).toNat)
  case atStart => exact ⟨0, _, rfl, rfl, by omega, by rw [entUp, List.append_nil]; exact HR.out.grew HG.out, grown_row (grown_of_below HG.out), fun k hk => .inl hk, HO.out.lt, HO.out.three.1⟩
  case round =>
    clear HR HO HG
    obtain ⟨k, r, rfl, rfl, hk4, R, Gw, hrb, hws, hbx⟩ := hrel
    have hsz : B ≤ wr.heap.size := Nat.le_trans HB.out Gw.size
    have Bw : Below B w wr := Below.grown (Below.refl B w) Gw HB.out (fun y e => HA.out y e)
    have HGw := Lib.hid Gw
    have HRb := Lib.hid hrb
    clear Gw hrb
    have hB' : B ≤ w.heap.size := HB.out
    by_cases hlt : k < 4
    · have kk : ∃ s' x' m', wr.cell? ⟨g, k * 3, none⟩ = some s' ∧ wr.cell? ⟨g, k * 3 + 1, none⟩ = some (.int .i64 x') ∧ wr.cell? ⟨g, k * 3 + 2, none⟩ = some (.int .i64 m') ∧ NodeF wr (fun b => b < B) h (sub h f k) s' x' m' := by
        obtain ⟨s', x', m', d0, d1, d2, n⟩ := HK.out k hlt
        have e := Below.block Bw g hg
        exact ⟨s', x', m', (World.cell?_of_block (a := ⟨g, k * 3, none⟩) e).trans d0, (World.cell?_of_block (a := ⟨g, k * 3 + 1, none⟩) e).trans d1, (World.cell?_of_block (a := ⟨g, k * 3 + 2, none⟩) e).trans d2,
          n.keep (fun _ a _ => a) (fun b hb _ => Below.block Bw b hb)⟩
      obtain ⟨s', x', m', d0, d1, d2, n⟩ := kk
      obtain ⟨a1, j1, c1', rfl⟩ := n.slice
      have HN2 := Lib.hid n
      have hk0 : (0 : Int) ≤ (k : Int) := by omega
      have hk1 : (k : Int) < 4 := by omega
      obtain ⟨q, hq⟩ : ∃ q, k * P = q := ⟨_, rfl⟩
      have hq1 : q ≤ 3 * P := num3 hq hlt
      have hmul : wrap64 ((k : Int) * (P : Int)) = (q : Int) := num4 hq hlt hp2
      have hmul2 : IntKind.i64.wrap ((k : Int) * (P : Int)) = (q : Int) := num5k hq hlt hp2
      have Hq := Lib.hid hq
      have HRr := Lib.hid R.drew
      have HBw := Lib.hid Bw
      have hlen : (L ++ entUp h f first k).length + P ≤ 1024 := by
        rw [List.length_append]
        have h1 := HUl.out k
        rw [hq] at h1
        exact num1 h1 hq1 HLi.out
      have Hlen := Lib.hid hlen
      have HUk := Lib.hid (show entUp h f first (k + 1) = entUp h f first k ++ entR h (sub h f k) (first + (k * p4 h : Nat)) from rfl)
      have Hn2 := Lib.hid (num2 HFi.out.1 HFi.out.2 hq1)
      have hadd : wrap64 (first + (q : Int)) = first + (q : Int) := IntWalk.wrap64_in _ (by have := Hn2.out; omega)
      have hadd2 : IntKind.i64.wrap (first + (q : Int)) = first + (q : Int) := IntWalk.i64_in _ (by have := Hn2.out; omega)
      have hsub : IntKind.i64.wrap (h : Int) = (h : Int) := IntWalk.i64_in _ (by omega)
      have hsz2 : B ≤ wr.drew.heap.size := hsz
      have hnb : r.ownBlock ≠ some w.heap.size := fun e => by
        rcases HRb.out _ e with e2 | e2
        · have := HLT.out _ e2; omega
        · omega
      have hng : r.ownBlock ≠ some g := fun e => by have := R.above _ e; omega
      have HNB := Lib.hid hnb
      have HNG := Lib.hid hng
      have HCC := Lib.hid (And.intro hbx (And.intro d0 (And.intro d1 d2)))
      clear n hq R hlen hq1 hp2 hnb hng Bw
      go_upto_region 8 with fail
      go_region_held3 (fun w' => w'.cell? ⟨w.heap.size, 0, none⟩ = some (.slice (some ⟨g, 0, none⟩) 4 c) ∧ w'.cell? ⟨g, k * 3, none⟩ = some (.slice a1 j1 c1') ∧ w'.cell? ⟨g, k * 3 + 1, none⟩ = some (.int .i64 x') ∧ w'.cell? ⟨g, k * 3 + 2, none⟩ = some (.int .i64 m'))
        (refine ⟨?_, ?_, ?_, ?_⟩ <;> (repeat (first | (with_reducible assumption) | (with_reducible refine far_drew ?_))))
        (first
        | (go_at_call 68; (with_reducible refine (HPQ.out _).mono ?_); rintro e w2 ⟨rfl, rfl⟩)
        | (go_at_call 47; (with_reducible refine Calls.mono (IH.out r (L ++ entUp h f first k) (sub h f k) (.slice a1 j1 c1') x' m' (first + (q : Int)) wr.drew HRr.out hsz2 Hlen.out Hn2.out (HN2.out.grew (Grew.refl wr).drew) (HF.out.sub _ _)) ?_); rintro e w2 ⟨v2, rfl, R2, G2, o2⟩
           have G2d : wr.grownBy w2 r.ownBlock := grown_trans (grown_drew (grown_refl wr _)) G2
           have k0 := cell_grown G2d HCC.out.1 HNB.out
           have k1 := cell_grown G2d HCC.out.2.1 HNG.out
           have k2 := cell_grown G2d HCC.out.2.2.1 HNG.out
           have k3 := cell_grown G2d HCC.out.2.2.2 HNG.out))
      all_goals go_wp2_with fail
      all_goals
        refine ⟨⟨k + 1, _, rfl, by go_num, by omega, ?_, grown_own HGw.out G2d (fun x e => (HRb.out x e).imp id (fun h => by omega)), fun x e => ?_, Nat.le_trans hws G2d.size, k0⟩, by simp [intOf]; omega⟩
        · rw [HUk.out, ← List.append_assoc, HP.out, Hq.out]; exact R2
        · rcases o2 x e with e2 | e2
          · exact HRb.out x e2
          · exact .inr (Nat.le_trans hws e2)
    · have hk : k = 4 := by omega
      subst hk
      go_wp2
      go_ret
      exact ⟨_, rfl, by rw [← HU4.out]; exact R, HGw.out, fun k e => (HRb.out k e).imp id (fun h => by omega)⟩
theorem list_q (B : Nat) : ∀ (h : Nat) (v : Value) (L : List En) (f : Fen) (s : Value) (x m first : Int) (w : World), h ≤ 4 → RowE 51 3 encE w B v L → B ≤ w.heap.size → L.length + p4 h ≤ 1024 → 0 ≤ first ∧ first + (p4 h : Nat) ≤ 2048 → NodeF w (fun b => b < B) h f s x m → GoodF f →
    Calls Try.prog 47 #[v, nodeV s x m, .int .i64 h, .int .i64 first] w (RetAq B v (L ++ entR h f first) w) := by
  intro h
  induction h with
  | zero =>
    intro v L f s x m first w _ R hB hL hfi n hf
    have h3 := (hf 0).2.2.2
    obtain ⟨⟨a, c, rfl⟩, e2, e3⟩ := n
    cases hv : emptyB 0 x m
    · have hx : valB x = false := decide_eq_false fun hx => by
        have : emptyB 0 x m = true := decide_eq_true ⟨rfl, hx, by rw [e3]; exact h3 (by rw [← e2, hx]; exact Int.le_refl _)⟩
        rw [hv] at this; cases this
      have := list_leaf B v L a c x m first w R hB (by omega) hv
      unfold entR
      rw [← e2, hx]
      rw [e2, e3] at this ⊢
      exact this
    · obtain ⟨-, hx, hm⟩ := of_decide_eq_true hv
      unfold entR
      rw [← e2, show valB x = true from decide_eq_true hx, List.append_nil]
      exact list_none B v L a 0 c x m 0 first w R hB hv
  | succ h ih =>
    intro v L f s x m first w hh R hB hL hfi n hf
    rw [show ((h + 1 : Nat) : Int) = (h : Int) + 1 from by omega]
    cases he : emp (h + 1) f
    · obtain ⟨g, c, rfl, rfl, hg, hk⟩ := n.kids he
      exact list_node B h (by omega) (fun v L f s x m first w R hB hL hfi n hf => ih v L f s x m first w (by omega) R hB hL hfi n hf) v L f g c m first w R hB hL hfi hg hk hf
    · rcases n.show_ hf with ⟨-, rfl, rfl, a, c, rfl⟩ | ⟨e2, -⟩
      · rw [entR_emp _ _ _ he, List.append_nil]
        exact list_none B v L a 0 c 0 0 _ first w R hB (by decide)
      · rw [he] at e2; cases e2
/-- The entries of a subtree as a new row. -/
theorem list_new (h : Nat) (f : Fen) (s : Value) (x m : Int) (w : World) (hh : h ≤ 4) (n : NodeF w AllP h f s x m) (hf : GoodF f) :
    Calls Try.prog 47 #[.slice none 0 0, nodeV s x m, .int .i64 h, .int .i64 0] w (fun e w' => ∃ v, e = .returned v ∧ RowE 51 3 encE w' w.heap.size v (entR h f 0) ∧ Grew w w') := by
  have h5 : p4 h ≤ 256 := p4_mono hh
  have := list_q w.heap.size h (.slice none 0 0) [] f s x m 0 w hh (RowE.nil _ _) (Nat.le_refl _) (by simp; omega) ⟨by omega, by omega⟩ n.old hf
  refine this.mono fun e w' ⟨v, e1, R, G, _⟩ => ⟨v, e1, by simpa using R, below_of_grown G⟩
end Go.Proofs.Ytdlhihllmidfeaa
