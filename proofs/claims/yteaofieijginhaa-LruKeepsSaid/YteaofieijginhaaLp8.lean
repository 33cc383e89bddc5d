/- The program's setOf, slices.Backward's iterator, and what Scan makes of the lists (layer 8). -/
import Derived.Test.YteaofieijginhaaLp5
import Derived.Test.YteaofieijginhaaLf7
import Derived.RangeFuncNested
import Derived.RangeFuncBound
import Derived.RangeFuncCalls
import Derived.RangeFuncLeaves
import Derived.Shelf.Abstract
import Derived.Shelf.RegionOpen
import Derived.OwnWalkIn
import Derived.TacticsInMore
import Derived.LoopNIn
import Derived.LoopIn
namespace Go.Proofs.Yteaofieijginhaa
open Go.RowKit Go.Mine Go.Shelf
attribute [local go_sem] Oper.semAt_some

/-! What the program makes of the lists, frame by frame: it asks the references as they were at first. -/
def psS (h : Int → Bool) (rr : List Int) (f : Int) (s : Lr × List Int) : Lr × List Int := match h f with
  | true => s
  | false => match decide (f ∈ rr) with
    | true => (⟨s.1.a, f :: wol s.1.i f, wol s.1.r f⟩, s.2)
    | false => (s.1, s.2 ++ [f])
def psL (h : Int → Bool) (rr : List Int) : List Int → Lr × List Int → Lr × List Int
  | [], s => s
  | f :: l, s => psL h rr l (psS h rr f s)
theorem psL_snoc {h : Int → Bool} {rr : List Int} : ∀ (l : List Int) (f : Int) (s : Lr × List Int), psL h rr (l ++ [f]) s = psS h rr f (psL h rr l s)
  | [], _, _ => rfl
  | g :: l, f, s => psL_snoc l f (psS h rr g s)
theorem psS_le {h : Int → Bool} {rr : List Int} {f : Int} {s : Lr × List Int} : s.2.length ≤ (psS h rr f s).2.length := by
  unfold psS
  cases h f
  · cases decide (f ∈ rr)
    · show s.2.length ≤ (s.2 ++ [f]).length
      simp
    · exact Nat.le_refl _
  · exact Nat.le_refl _
theorem psL_le {h : Int → Bool} {rr : List Int} : ∀ (l : List Int) (s : Lr × List Int), s.2.length ≤ (psL h rr l s).2.length
  | [], _ => Nat.le_refl _
  | _ :: l, _ => Nat.le_trans psS_le (psL_le l _)
/-- The frames ahead of place j are referenced as at first. -/
def PsI (L rr : List Int) (j : Nat) (s : Lr × List Int) : Prop := ∀ i, i < j → (L.getD i 0 ∈ s.1.r ↔ L.getD i 0 ∈ rr)
theorem nodup_ne {L : List Int} (hn : L.Nodup) {i j : Nat} (hij : i < j) (hj : j < L.length) : ¬L.getD i 0 = L.getD j 0 := by
  rw [List.getD, List.getD, List.getElem?_eq_getElem hj, List.getElem?_eq_getElem (by omega)]
  exact List.pairwise_iff_getElem.1 hn i j (by omega) hj hij
theorem psI_next {L rr : List Int} {h : Int → Bool} {j : Nat} {s : Lr × List Int} (hn : L.Nodup) (hj : j < L.length) (hI : PsI L rr (j + 1) s) : PsI L rr j (psS h rr (L.getD j 0) s) ∧ scnS h (L.getD j 0) s = psS h rr (L.getD j 0) s := by
  have e : decide (L.getD j 0 ∈ s.1.r) = decide (L.getD j 0 ∈ rr) := by rw [decide_eq_decide]; exact hI j (Nat.lt_succ_self _)
  refine ⟨fun i hi => ?_, by unfold scnS psS; rw [e]; cases h (L.getD j 0) <;> cases decide (L.getD j 0 ∈ rr) <;> rfl⟩
  have h1 := hI i (by omega)
  unfold psS
  cases h (L.getD j 0)
  · cases decide (L.getD j 0 ∈ rr)
    · exact h1
    · show L.getD i 0 ∈ wol s.1.r (L.getD j 0) ↔ _
      rw [mem_wol, and_iff_left (nodup_ne hn hi hj)]
      exact h1
  · exact h1
theorem take_rev {L : List Int} {j : Nat} (hj : j < L.length) : (L.take (j + 1)).reverse = L.getD j 0 :: (L.take j).reverse := by
  rw [take_getD1 hj, List.reverse_append]; rfl
theorem scn_done {L rr : List Int} {h : Int → Bool} {n : Int} (hn : L.Nodup) : ∀ (j : Nat) (s : Lr × List Int), j ≤ L.length → PsI L rr j s → ((psL h rr (L.take j).reverse s).2.length : Int) < n → scnN h L n j s = psL h rr (L.take j).reverse s
  | 0, _, _, _, _ => rfl
  | j + 1, s, hj, hI, hl => by
    rw [take_rev (by omega)] at hl ⊢
    obtain ⟨h1, h2⟩ := psI_next (h := h) hn (by omega) hI
    have := psL_le (h := h) (rr := rr) (L.getD j 0 :: (L.take j).reverse) s
    rw [scnN, if_pos (by omega), h2]
    exact scn_done hn j _ (by omega) h1 hl
theorem scn_full {L : List Int} {h : Int → Bool} {n : Int} (j : Nat) (s : Lr × List Int) (hl : ¬(s.2.length : Int) < n) : scnN h L n j s = s := by
  cases j
  · rfl
  · rw [scnN, if_neg hl]
theorem scn_stop {L rr : List Int} {h : Int → Bool} {n : Int} (hn : L.Nodup) : ∀ (j t : Nat) (s : Lr × List Int), j ≤ L.length → PsI L rr j s → t < j → ((psL h rr ((L.take j).reverse.take t) s).2.length : Int) < n →
    ¬((psL h rr ((L.take j).reverse.take (t + 1)) s).2.length : Int) < n → scnN h L n j s = psL h rr ((L.take j).reverse.take (t + 1)) s
  | 0, _, _, _, _, ht, _, _ => by omega
  | j + 1, 0, s, hj, hI, _, h1, h2 => by
    rw [take_rev (by omega)] at h1 h2 ⊢
    obtain ⟨-, h4⟩ := psI_next (h := h) hn (by omega) hI
    rw [scnN, if_pos (show (s.2.length : Int) < n from h1), h4]
    exact scn_full j _ h2
  | j + 1, t + 1, s, hj, hI, ht, h1, h2 => by
    rw [take_rev (by omega)] at h1 h2 ⊢
    obtain ⟨h3, h4⟩ := psI_next (h := h) hn (by omega) hI
    have := psL_le (h := h) (rr := rr) ((L.getD j 0 :: (L.take j).reverse).take (t + 1)) s
    rw [scnN, if_pos (by omega), h4]
    exact scn_stop hn j t _ (by omega) h3 (by omega) h1 h2
theorem scnF_done {x : Lr} {n : Int} {h : Int → Bool} (hok : OkP x) (h1 : 1 ≤ n) (hl : ((psL h x.r x.i.reverse (x, [])).2.length : Int) < n) : scnF x n h = psL h x.r x.i.reverse (x, []) := by
  unfold scnF
  rw [show okB x = true from decide_eq_true hok, decide_eq_true h1]
  have := scn_done (nodup_i hok) (rr := x.r) (h := h) (n := n) x.i.length (x, []) (Nat.le_refl _) (fun _ _ => Iff.rfl) (by rw [List.take_length]; exact hl)
  rw [List.take_length] at this
  exact this
theorem scnF_stop {x : Lr} {n : Int} {h : Int → Bool} (hok : OkP x) (h1 : 1 ≤ n) (t : Nat) (ht : t < x.i.length) (hl : ((psL h x.r (x.i.reverse.take t) (x, [])).2.length : Int) < n) (hl2 : ¬((psL h x.r (x.i.reverse.take (t + 1)) (x, [])).2.length : Int) < n) :
    scnF x n h = psL h x.r (x.i.reverse.take (t + 1)) (x, []) := by
  unfold scnF
  rw [show okB x = true from decide_eq_true hok, decide_eq_true h1]
  have := scn_stop (nodup_i hok) (rr := x.r) (h := h) (n := n) x.i.length t (x, []) (Nat.le_refl _) (fun _ _ => Iff.rfl) ht (by rw [List.take_length]; exact hl) (by rw [List.take_length]; exact hl2)
  rw [List.take_length] at this
  exact this

/-! The places of a list, from the last one on. -/
def rvF (m k : Nat) : List (Fin m) := (List.finRange m).reverse.take k
theorem rvF_len {m k : Nat} (hk : k ≤ m) : (rvF m k).length = k := by unfold rvF; simp; omega
theorem rvF_succ {m k : Nat} (hk : k < m) : rvF m (k + 1) = rvF m k ++ [⟨m - 1 - k, by omega⟩] := by
  unfold rvF
  rw [List.take_add_one, List.getElem?_eq_getElem (by simp; omega), List.getElem_reverse, List.getElem_finRange]
  simp
def frL (L : List Int) (pre : List (Fin L.length)) : List Int := pre.map fun j => L.getD j.val 0
theorem frL_rv (L : List Int) (k : Nat) : frL L (rvF L.length k) = L.reverse.take k := by
  unfold frL rvF
  rw [List.map_take, List.map_reverse]
  congr 2
  apply List.ext_getElem
  · simp
  · intro i h1 h2
    simp [List.getD]

/-- setOf. -/
def RetSet (H : List Int) (w : World) (e : Ending) (w' : World) : Prop := ∃ b, e = .returned (.map (some b)) ∧ BS w' b H.length (hlB H) ∧ Grew w w' ∧ w.heap.size ≤ b
set_option maxHeartbeats 1000000 in
theorem setOf_any {H : List Int} {B : Nat} (v : Value) (w : World) (R : RwI w B v H) (hl : H.length ≤ 10000) (hwf : ∀ y ∈ H, (Lit.int .i64 y).wf = true) : Calls Try.prog 47 #[v] w (RetSet H w) := by
  obtain ⟨a, c, rfl⟩ := R.len
  have hmm := @run_makeMap Try.prog
  obtain ⟨b, hb⟩ : ∃ b, w.heap.size = b := ⟨_, rfl⟩
  have K := (Grew.refl w).alloc (.map #[] 0)
  have S0 : BS (w.alloc (.map #[] 0)) b 0 f0B := ⟨0, hb ▸ BSet.made w Try.prog 3 4⟩
  have HR := Lib.hid (R.grew K)
  have HL := Lib.hid (R.lt)
  have HK := Lib.hid K
  have HS := Lib.hid S0
  have HW := Lib.hid hwf
  have HB := Lib.hid hb
  clear R K S0 hwf
  go_enter Try.func47, Try.ntmps47
  go_upto_region 2 with fail
  try rw [hb]
  generalize World.alloc w _ = wb at *
  clear hmm hb
  go_wp2_with fail
  go_loopw [9] (fun iv wr => ∃ k : Nat, iv = .int .i64 k ∧ k ≤ H.length ∧ BS wr b k (fun y => decide (y ∈ H.take k)) ∧ wb.grownBy wr (some b)) (fun iv _ => H.length - (intOf iv).toNat)
  case atStart => exact ⟨0, rfl, by omega, HS.out.congr (fun x => by simp [f0B]), grown_refl _ _⟩
  case round =>
    obtain ⟨k, rfl, hk, S, G⟩ := hrel
    obtain ⟨wo, rfl⟩ : ∃ wo : World, wo = wr := ⟨_, rfl⟩
    have HSk := Lib.hid S
    have HG := Lib.hid G
    clear HS S G
    by_cases hlt : k < H.length
    · obtain ⟨g, rfl, hg, x0⟩ := rowI_at HR.out hlt
      have hgb : ¬g = b := fun e => by have := HL.out g rfl; have := HB.out; omega
      have x1 : wo.cell? ⟨g, k, none⟩ = some (.int .i64 (H.getD k 0)) := (World.cell?_of_block (a := ⟨g, k, none⟩) (HG.out.block g hg (fun e => hgb (by injection e with e <;> omega)))).trans x0
      have hmt := Lib.hid (fun y => show y ∈ H.take (k + 1) ↔ y ∈ H.take k ∨ y = H.getD k 0 from by rw [take_getD1 hlt, List.mem_append, List.mem_singleton])
      have hwy := HW.out _ (getD_mem hlt)
      generalize H.getD k 0 = y at *
      have i0 : (0 : Int) ≤ (k : Int) := by omega
      have i1 : (k : Int) < (H.length : Int) := by omega
      obtain ⟨w2, hup, S2, G2⟩ := HSk.out.store (by omega) hwy
      have HS2 := Lib.hid S2
      have HG2 := Lib.hid (grown_trans HG.out G2)
      clear x0 S2 G2 hwy
      go_wp2
      refine ⟨⟨k + 1, by go_num, by omega, HS2.out.congr (fun z => ?_), HG2.out⟩, by simp [intOf]; omega⟩
      rw [Bool.eq_iff_iff, Bool.or_eq_true, decide_eq_true_iff, decide_eq_true_iff, decide_eq_true_iff]
      exact (hmt.out z).symm
    · have hkn : k = H.length := by omega
      subst hkn
      have hS := HSk.out
      simp only [List.take_length] at hS
      have HS2 := Lib.hid hS
      clear hS HSk
      go_wp2
      go_ret
      exact ⟨_, rfl, HS2.out, HK.out.keptA HG.out (B := b) (fun y e => by injection e with e <;> omega) (by have := HB.out; omega), by have := HB.out; omega⟩

/-! slices.Backward. -/
/-- What a round keeps: what lay below n₀, and the iterator's own slice. -/
def KpB (n₀ bs : Nat) (W W' : World) : Prop := Below n₀ W W' ∧ W'.heap[bs]? = W.heap[bs]?
theorem kpB_t {n₀ bs : Nat} {A B C : World} (h : KpB n₀ bs A B) (k : KpB n₀ bs B C) : KpB n₀ bs A C := ⟨h.1.trans k.1, k.2.trans h.2⟩
theorem kpB_b {n₀ bs : Nat} {w : World} (hn : n₀ ≤ w.heap.size) (hb : bs < w.heap.size) (W : World) (l : Nat) (o o' : Obj) (hl : w.heap.size ≤ l) (h : W.heap[l]? = some o) (hc : o.isCells = false) (hk : o.isWalk = false) : KpB n₀ bs W (W.putObj l o') :=
  ⟨belowK_b hn W l o o' hl h hc hk, (grownBy_putObj' W l o').block bs (by have := (Array.getElem?_eq_some_iff.1 h).1; omega) (fun e => by injection e with e <;> omega)⟩
theorem bk_any (a : Option Addr) (n c : Nat) (w : World) : Calls Try.prog 48 #[.slice a n c] w fun e w' => e = .returned (.func (.func 56) #[] #[.pointer (some ⟨w.heap.size, 0, none⟩)]) ∧ w' = w.alloc (.cells #[.slice a n c] 22) := by
  go_enter Try.func48, Try.ntmps48
  go_wp2
  go_ret
  exact ⟨rfl, rfl⟩
def encF (L : List Int) (j : Fin L.length) : Array Value := #[.int .i64 (j.val : Int), .int .i64 (L.getD j.val 0)]
set_option maxRecDepth 100000 in
set_option maxHeartbeats 2000000 in
theorem bk_stops {L : List Int} {B bs n₀ : Nat} (v : Value) (w : World) (R : RwI w B v L) (hv : ∀ k, v.ownBlock = some k → k < n₀) (hl : L.length ≤ 1000) (hbs : Mine.Own w bs 22 #[v]) :
    SeqStopsK Fence.wide 5 Try.prog 56 #[.pointer (some ⟨bs, 0, none⟩)] (encF L) (KpB n₀ bs) (fun ys => ys = rvF L.length L.length) (fun pre => ∃ k, k ≤ L.length ∧ pre = rvF L.length k) L.length w := fun l J Jx W hW hJ hJx hY h0 => by
  obtain ⟨a, n, c, rfl, hn, hcell⟩ := (R.below hW (fun k e => R.lt k e)).ints
  have hO := hbs.below hW hbs.lt
  subst hn
  have HC := Lib.hid hcell
  have HV := Lib.hid hv
  have hbl : bs < W.heap.size := hO.lt
  obtain ⟨p0, -⟩ := hO.one
  have HO := Lib.hid hO
  clear hcell hv R hbs hO hJ hJx
  refine callsIn_of_wp Try.func56 rfl trivial ?_ rfl
  simp only [Try.ntmps56, List.size_toArray, List.length_cons, List.length_nil, Nat.reduceAdd, Nat.reduceSub, Array.replicate_succ, Array.replicate_zero, List.push_toArray, List.append_toArray, List.nil_append, List.cons_append]
  gi_wp2
  gi_loopw [3] (fun iv wr => ∃ q k : Nat, iv = .int .i64 ((q : Int) - 1) ∧ q + k = L.length ∧ J (rvF L.length k) wr ∧ KpB n₀ bs W wr) (fun iv _ => (intOf iv + 1).toNat)
  case atStart => exact ⟨L.length, 0, rfl, rfl, h0, Below.refl _ _, rfl⟩
  case round =>
    obtain ⟨q, k, rfl, hq, hJs, hK⟩ := hrel
    have HK := Lib.hid hK
    have p1 : wr.cell? ⟨bs, 0, none⟩ = some (.slice a L.length c) := (World.cell?_of_block (a := ⟨bs, 0, none⟩) hK.2).trans p0
    clear hK
    by_cases hlt : 0 < q
    · obtain ⟨j, rfl⟩ : ∃ j, q = j + 1 := ⟨q - 1, by omega⟩
      rw [show (((j + 1 : Nat) : Int) - 1) = (j : Int) from by omega]
      obtain ⟨g, rfl, hg, ho, x0⟩ := HC.out j (by omega)
      have x1 : wr.cell? ⟨g, j, none⟩ = some (.int .i64 (L.getD j 0)) := (World.cell?_of_block (a := ⟨g, j, none⟩) (Below.block HK.out.1 g (HV.out g ho))).trans x0
      obtain ⟨fn, tmps, assign, body, hy, hR⟩ := hY (rvF L.length k) ⟨j, by omega⟩ wr hJs (by rw [rvF_len (by omega)]; omega)
      have hyy : (Instr.yield l #[.int .i64 (j : Int), .int .i64 (L.getD j 0)]).run Try.prog wr = .ok (.round l fn tmps assign body) wr := hy
      have HRV := Lib.hid (show rvF L.length (k + 1) = rvF L.length k ++ [⟨j, by omega⟩] from by rw [rvF_succ (by omega)]; congr 3; omega)
      generalize L.getD j 0 = y at *
      have j0 : (0 : Int) ≤ (j : Int) := by omega
      have j1 : (j : Int) < (L.length : Int) := by omega
      clear hy x0 p0 hJs h0
      gi_wp2
      refine hR.mono ?_
      rintro e W3 (⟨rfl, hJ3, hk3⟩ | ⟨rfl, hJx3⟩)
      · have HJ3 := Lib.hid hJ3
        have HK3 := Lib.hid (kpB_t HK.out hk3)
        clear hJ3 hk3
        gi_wp2
        go_roundw
        case rel => exact ⟨j, k + 1, rfl, by omega, by rw [HRV.out]; exact HJ3.out, HK3.out⟩
        case measure => simp [intOf]
      · gi_wp2
        refine bodyPost_ret (results_none rfl _ _ _) rfl ?_
        exact ⟨⟨_, rfl⟩, .inr ⟨_, ⟨k + 1, by omega, HRV.out.symm⟩, hJx3⟩⟩
    · obtain rfl : q = 0 := by omega
      obtain rfl : k = L.length := by omega
      rw [show (((0 : Nat) : Int) - 1) = -1 from rfl]
      gi_wp2
      go_end0
      exact ⟨⟨_, rfl⟩, .inl ⟨_, rfl, hJs⟩⟩
end Go.Proofs.Yteaofieijginhaa
