/- Page tables (layer 17): the iterator over the entries of a frame. -/
import Derived.Test.YtjkkhfionmdmpaaPt4
import Derived.Test.YtjkkhfionmdmpaaRfAt
import Derived.Test.YtjkkhfionmdmpaaRoundReg
import Derived.Maps.OwnIn
import Derived.Shelf.RegionOpen
import Derived.OwnWalkIn
import Derived.TacticsInMore
import Derived.LoopNIn
import Derived.LoopIn
namespace Go.Mine
open Go Go.RowKit
def nE (L : List Pt) : Nat := match okT L with | true => L.length | false => 0
theorem nE_1 {L : List Pt} (h : okT L = true) : nE L = L.length := by unfold nE; rw [h]
theorem nE_0 {L : List Pt} (h : okT L = false) : nE L = 0 := by unfold nE; rw [h]
theorem nE_le (L : List Pt) : nE L ≤ L.length := by
  unfold nE
  cases okT L
  · exact Nat.zero_le _
  · exact Nat.le_refl _
def encE (L : List Pt) (i : Nat) : Array Value := #[.int .i64 (i : Int), ptV (L.getD i zT)]
def htE (L : List Pt) (f : Int) (i : Nat) : Bool := decide ((L.getD i zT).f = f)
/-- What a round keeps: what lay below n₀, and the iterator's own two boxes. -/
def KpE (n₀ bs : Nat) (W W' : World) : Prop := Below n₀ W W' ∧ W'.heap[bs]? = W.heap[bs]? ∧ W'.heap[bs + 1]? = W.heap[bs + 1]?
theorem kpE_t {n₀ bs : Nat} {A B C : World} (h : KpE n₀ bs A B) (k : KpE n₀ bs B C) : KpE n₀ bs A C := ⟨h.1.trans k.1, k.2.1.trans h.2.1, k.2.2.trans h.2.2⟩
theorem kpE_b {n₀ bs : Nat} {w : World} (hn : n₀ ≤ w.heap.size) (hb : bs + 1 < w.heap.size) (W : World) (l : Nat) (o o' : Obj) (hl : w.heap.size ≤ l) (h : W.heap[l]? = some o) (hc : o.isCells = false) (hk : o.isWalk = false) : KpE n₀ bs W (W.putObj l o') :=
  ⟨belowK_b hn W l o o' hl h hc hk, (grownBy_putObj' W l o').block bs (by have := (Array.getElem?_eq_some_iff.1 h).1; omega) (fun e => by injection e with e; omega), (grownBy_putObj' W l o').block (bs + 1) (by have := (Array.getElem?_eq_some_iff.1 h).1; omega) (fun e => by injection e with e; omega)⟩
theorem kpE_refl (n₀ bs : Nat) (W : World) : KpE n₀ bs W W := ⟨Below.refl _ _, rfl, rfl⟩
theorem KpE.by_ {n₀ bs : Nat} {W W1 W2 : World} (h : KpE n₀ bs W W1) {r : Option Nat} (g : W1.grownBy W2 r) (hr : ∀ k, r = some k → n₀ ≤ k ∧ k ≠ bs ∧ k ≠ bs + 1) (hn : n₀ ≤ W1.heap.size) (hb : bs + 1 < W1.heap.size) : KpE n₀ bs W W2 :=
  ⟨h.1.trans ((Below.refl n₀ W1).grown g hn (fun k e => (hr k e).1)), (g.block bs (by omega) (fun e => (hr bs e.symm).2.1 rfl)).trans h.2.1, (g.block (bs + 1) hb (fun e => (hr _ e.symm).2.2 rfl)).trans h.2.2⟩
theorem KpE.grew {n₀ bs : Nat} {W W1 W2 : World} (h : KpE n₀ bs W W1) (g : Grew W1 W2) (hn : n₀ ≤ W1.heap.size) (hb : bs + 1 < W1.heap.size) : KpE n₀ bs W W2 := h.by_ g.grown (fun k e => by cases e) hn hb
theorem KpE.set {n₀ bs : Nat} {W W1 : World} (h : KpE n₀ bs W W1) {p : Addr} (u : Value) (hp : n₀ ≤ p.block) (h1 : p.block ≠ bs) (h2 : p.block ≠ bs + 1) : KpE n₀ bs W (W1.setCell p u) :=
  ⟨h.1.setCell hp u, (Below.heap_setCell W1 p u bs (fun e => h1 e.symm)).trans h.2.1, (Below.heap_setCell W1 p u (bs + 1) (fun e => h2 e.symm)).trans h.2.2⟩
theorem KpE.drew {n₀ bs : Nat} {W W1 : World} (h : KpE n₀ bs W W1) : KpE n₀ bs W W1.drew := ⟨Below.drew h.1, h.2.1, h.2.2⟩
theorem own_onlyT {w : World} {g : Nat} {t : TypeId} {cs : Array Value} (h : Own w g t cs) : ∀ o, w.heap[g]? = some o → o.isCells = true := fun o ho => by
  have h' : w.heap[g]? = some (.cells cs t (0, 0)) := h
  rw [h'] at ho
  cases ho
  rfl
theorem Own.belowT {C : Nat} {w w' : World} {g : Nat} {t : TypeId} {cs : Array Value} (h : Own w g t cs) (k : Below C w w') (hg : g < C) : Own w' g t cs := h.since (Below.block k g hg)
/-- Where the row lies. -/
theorem rowT_block {T : TypeId} {w : World} {B : Nat} {v : Value} {L : List Pt} (h : RowE T 5 encT w B v L) {k : Nat} (hk : v.ownBlock = some k) : ∃ cur, Own w k T cur := by
  obtain ⟨-, h2 | ⟨g0, cap, cur, e, -, hg, -⟩⟩ := h
  · rw [h2.1] at hk; cases hk
  · subst e
    injection hk with hk
    exact ⟨cur, hk ▸ hg⟩
theorem own_by {w w' : World} {g : Nat} {t : TypeId} {cs : Array Value} {r : Option Nat} (h : Own w g t cs) (k : w.grownBy w' r) (hr : ∀ q, r = some q → ∃ o : Obj, w.heap[q]? = some o ∧ o.isCells = false) : Own w' g t cs :=
  h.keptN k (fun e => by
    obtain ⟨o, h1, h2⟩ := hr g e
    rw [own_onlyT h o h1] at h2
    cases h2)
theorem rowT_by {T : TypeId} {w w' : World} {B : Nat} {v : Value} {L : List Pt} {r : Option Nat} (h : RowE T 5 encT w B v L) (k : w.grownBy w' r) (hr : ∀ q, r = some q → ∃ o : Obj, w.heap[q]? = some o ∧ o.isCells = false) : RowE T 5 encT w' B v L :=
  RowE.keptG h k (fun q e ho => by
    obtain ⟨cs, hO⟩ := rowT_block h ho
    obtain ⟨o, h1, h2⟩ := hr q e
    rw [own_onlyT hO o h1] at h2
    cases h2)
theorem grew_putT {a w : World} {D : Nat} (h : Grew a w) (o' : Obj) (hD : a.heap.size ≤ D) : Grew a (w.putObj D o') :=
  h.keptA (grownBy_putObj' w D o') (B := D) (fun x e => by injection e with e; omega) hD
/-! Lists of which the first i entries have turned. -/
def mixT (g : Pt → Pt) (L : List Pt) (i : Nat) : List Pt := (L.take i).map g ++ L.drop i
theorem mixT_0 (g : Pt → Pt) (L : List Pt) : mixT g L 0 = L := rfl
theorem mixT_len (g : Pt → Pt) (L : List Pt) (i : Nat) : (mixT g L i).length = L.length := by
  unfold mixT
  rw [List.length_append, List.length_map, List.length_take, List.length_drop]; omega
theorem mixT_all (g : Pt → Pt) (L : List Pt) : mixT g L L.length = L.map g := by unfold mixT; rw [List.take_length, List.drop_length, List.append_nil]
theorem mixT_get {g : Pt → Pt} {L : List Pt} {i k : Nat} (h : i ≤ k) (hk : k < L.length) : (mixT g L i).getD k zT = L.getD k zT := by
  rw [tD (by rw [mixT_len]; exact hk), tD hk]
  unfold mixT
  rw [List.getElem_append_right (by rw [List.length_map, List.length_take]; omega)]
  simp only [List.length_map, List.length_take, List.getElem_drop]
  congr 1
  omega
theorem mixT_step {g : Pt → Pt} {L : List Pt} {i : Nat} (hi : i < L.length) : mixT g L (i + 1) = (mixT g L i).set i (g (L.getD i zT)) := by
  unfold mixT
  have e1 : L.drop i = L.getD i zT :: L.drop (i + 1) := by rw [tD hi]; exact List.drop_eq_getElem_cons hi
  have e2 : L.take (i + 1) = L.take i ++ [L.getD i zT] := by rw [List.take_add_one, List.getElem?_eq_getElem hi, tD hi]; rfl
  have e3 : ((L.take i).map g).length = i := by rw [List.length_map, List.length_take]; omega
  rw [e1, e2, List.map_append, List.append_assoc, List.set_append_right _ _ (by omega), e3, Nat.sub_self]
  rfl
theorem mixT_skip {g : Pt → Pt} {L : List Pt} {i : Nat} (hi : i < L.length) (h : g (L.getD i zT) = L.getD i zT) : mixT g L (i + 1) = mixT g L i := by
  rw [mixT_step hi, h]
  conv => lhs; rw [← mixT_get (g := g) (Nat.le_refl i) hi]
  rw [tD (by rw [mixT_len]; exact hi), List.set_getElem_self]
end Go.Mine
namespace Go.Proofs.Ytjkkhfionmdmpaa
open Go.RowKit Go.Mine Go.Shelf
attribute [local go_sem] Oper.semAt_some

theorem entries_p (a : Option Addr) (n c : Nat) (f : Int) (w : World) : Calls Try.prog 37 #[.slice a n c, .int .i64 f] w fun e w' => e = .returned (.func (.func 45) #[] #[.pointer (some ⟨w.heap.size, 0, none⟩), .pointer (some ⟨w.heap.size + 1, 0, none⟩)]) ∧
    w' = (w.alloc (.cells #[.slice a n c] 26)).alloc (.cells #[.int .i64 f] 3) := by
  go_enter Try.func37, Try.ntmps37
  go_wp2
  go_ret
  exact ⟨rfl, rfl⟩
set_option maxRecDepth 100000 in
set_option maxHeartbeats 2000000 in
theorem entries_at {B bs : Nat} {v : Value} {L : List Pt} {f : Int} {w0 w : World} (h : RdS 5 encT w0 B v L) (hl : L.length ≤ 1000) (hw0 : Below w0.heap.size w0 w) (o1 : Mine.Own w bs 26 #[v]) (o2 : Mine.Own w (bs + 1) 3 #[.int .i64 f]) :
    SeqAt Fence.wide 5 Try.prog 45 #[.pointer (some ⟨bs, 0, none⟩), .pointer (some ⟨bs + 1, 0, none⟩)] (encE L) (htE L f) (nE L) (KpE w0.heap.size bs) w := fun l J W hW hJ hY hS h0 => by
  have hWW : Below w0.heap.size w0 W := hw0.trans (hW.mono hw0.size)
  obtain ⟨a, c, rfl, -, -⟩ := h.slice
  have HR := Lib.hid (h.below hWW (Nat.le_refl _))
  have O1 := o1.belowT hW o1.lt
  have O2 := o2.belowT hW o2.lt
  have JG : ∀ i A B, J i A → Grew A B → J i B := fun i A B hj g => hJ i A B none hj g.grown (fun r e => by cases e)
  obtain ⟨p0, -⟩ := O1.one
  obtain ⟨q0, -⟩ := O2.one
  have HO1 := Lib.hid O1
  have HO2 := Lib.hid O2
  clear O1 O2 o1 o2 hJ
  obtain ⟨n, hn⟩ : ∃ n, L.length = n := ⟨_, rfl⟩
  have HN := Lib.hid hn
  rw [hn] at HR hl p0 HO1
  cases hk : okT L
  · have HK := Lib.hid hk
    rw [nE_0 hk]
    clear hk hY hS
    have HJ := Lib.hid (fun B => JG 0 W B h0)
    clear JG h0
    have hl2 : L.length ≤ 1000 := by rw [HN.out]; exact hl
    clear hn
    refine callsIn_of_wp Try.func45 rfl trivial ?_ rfl
    simp only [Try.ntmps45, List.size_toArray, List.length_cons, List.length_nil, Nat.reduceAdd, Nat.reduceSub, Array.replicate_succ, Array.replicate_zero, List.push_toArray, List.append_toArray, List.nil_append, List.cons_append]
    gi_wp2_with fail
    refine ⟨trivial, ?_⟩
    with_reducible refine (callsIn_wide.2 (check_p HR.out hl2 HK.out)).mono ?_
    rintro e W2 ⟨rfl, g2⟩
    gi_wp2
    refine bodyPost_ret (results_none rfl _ _ _) rfl ?_
    exact ⟨⟨_, rfl⟩, HJ.out _ g2⟩
  · have HK := Lib.hid hk
    rw [nE_1 hk, HN.out] at hY hS ⊢
    have hl2 : L.length ≤ 1000 := by rw [HN.out]; exact hl
    clear hk hn
    refine callsIn_of_wp Try.func45 rfl trivial ?_ rfl
    simp only [Try.ntmps45, List.size_toArray, List.length_cons, List.length_nil, Nat.reduceAdd, Nat.reduceSub, Array.replicate_succ, Array.replicate_zero, List.push_toArray, List.append_toArray, List.nil_append, List.cons_append]
    gi_wp2_with fail
    refine ⟨trivial, ?_⟩
    with_reducible refine (callsIn_wide.2 (check_p HR.out hl2 HK.out)).mono ?_
    rintro e W2 ⟨rfl, g2⟩
    have h2 := JG 0 W W2 h0 g2
    have HR2 := Lib.hid (HR.out.grew g2)
    replace HO1 := Lib.hid (HO1.out.grew g2)
    replace HO2 := Lib.hid (HO2.out.grew g2)
    have hz2 := Nat.le_trans hWW.size g2.size
    have hWB := Lib.hid (hWW.trans ((Below.mono g2 hWW.size)))
    clear p0 q0 HR g2 h0
    obtain ⟨p0, -⟩ := HO1.out.one
    gi_wp2
    gi_loopw [11] (fun iv wr => ∃ i : Nat, iv = .int .i64 i ∧ i ≤ n ∧ J i wr ∧ Hid (Below w0.heap.size w0 wr) ∧ Hid (Mine.Own wr bs 26 #[.slice a n c]) ∧ Hid (Mine.Own wr (bs + 1) 3 #[.int .i64 f])) (fun iv _ => n - (intOf iv).toNat)
    case atStart => exact ⟨0, rfl, Nat.zero_le _, h2, hWB, HO1, HO2⟩
    case round =>
      clear p0 h2 hWB HO1 HO2 HR2 hz2
      obtain ⟨i, rfl, hi, hJ, HB, HO1, HO2⟩ := hrel
      obtain ⟨wo, rfl⟩ : ∃ wo : World, wo = wr := ⟨_, rfl⟩
      by_cases hlt : i < n
      · have hiL : i < L.length := by rw [HN.out]; exact hlt
        have hh := h.below HB.out (Nat.le_refl _)
        rw [HN.out] at hh
        obtain ⟨g, o, rfl, -, hg, c0, c1, c2, c3, c4⟩ := hh.atT hiL
        have HHT : Hid (∀ b, decide ((L.getD i zT).f = f) = b → htE L f i = b) := Lib.hid (fun b h => h)
        have HY2 := Lib.hid (hY i)
        have HEN : Hid (encE L i = #[.int .i64 (i : Int), ptV (L.getD i zT)]) := Lib.hid rfl
        generalize L.getD i zT = d at *
        have hJ2 := JG i _ _ hJ ((Grew.refl wo).alloc (.cells #[.int .i64 d.p, .int .i64 d.v, .int .i64 d.f, .bool d.w, .bool d.a] 30))
        have HB2 := Lib.hid (HB.out.alloc HB.out.size (.cells #[.int .i64 d.p, .int .i64 d.v, .int .i64 d.f, .bool d.w, .bool d.a] 30))
        have HP1 := Lib.hid (HO1.out.alloc (.cells #[.int .i64 d.p, .int .i64 d.v, .int .i64 d.f, .bool d.w, .bool d.a] 30))
        have HP2 := Lib.hid (HO2.out.alloc (.cells #[.int .i64 d.p, .int .i64 d.v, .int .i64 d.f, .bool d.w, .bool d.a] 30))
        obtain ⟨p0, -⟩ := HO1.out.one
        obtain ⟨q0, -⟩ := HP2.out.one
        have hi0 : (0 : Int) ≤ (i : Int) := by omega
        have hi1 : (i : Int) < (n : Int) := by omega
        clear hh hJ HB HO1
        by_cases hf : d.f = f
        · have e1 : (d.f == f) = true := by simp [hf]
          obtain ⟨fn, tmps, assign, body, hy, hR⟩ := HY2.out _ hlt (HHT.out true (decide_eq_true hf)) hJ2
          rw [HEN.out] at hy
          have hyy : (Instr.yield l #[.int .i64 (i : Int), .agg #[.int .i64 d.p, .int .i64 d.v, .int .i64 d.f, .bool d.w, .bool d.a]]).run Try.prog (wo.alloc (.cells #[.int .i64 d.p, .int .i64 d.v, .int .i64 d.f, .bool d.w, .bool d.a] 30)) = .ok (.round l fn tmps assign body) (wo.alloc (.cells #[.int .i64 d.p, .int .i64 d.v, .int .i64 d.f, .bool d.w, .bool d.a] 30)) := hy
          clear hy hf hY hS HY2 HHT JG hJ2
          gi_wp2
          refine hR.mono ?_
          rintro e W3 ⟨rfl, hJ3, hk3⟩
          have HJ3 := Lib.hid hJ3
          have HB3 := Lib.hid (HB2.out.trans hk3.1)
          have HQ1 := Lib.hid (HP1.out.since hk3.2.1)
          have HQ2 := Lib.hid (HP2.out.since hk3.2.2)
          clear hJ3 hk3
          gi_wp2
          exact ⟨⟨i + 1, by go_num, by omega, HJ3.out, HB3, HQ1, HQ2⟩, by simp [intOf] <;> omega⟩
        · have e1 : (d.f == f) = false := by simp [hf]
          have HJ3 := Lib.hid (hS i _ hlt (HHT.out false (decide_eq_false hf)) hJ2)
          clear hf hY hS HY2 HHT JG hJ2
          gi_wp2
          refine ⟨fun _ h => (by cases h), ?_⟩
          gi_wp2
          exact ⟨⟨i + 1, by go_num, by omega, HJ3.out, HB2, HP1, HP2⟩, by simp [intOf] <;> omega⟩
      · obtain rfl : i = n := by omega
        have HJ3 := Lib.hid hJ
        clear hJ JG hY hS
        gi_wp2
        go_end0
        exact ⟨⟨_, rfl⟩, HJ3.out⟩
end Go.Proofs.Ytjkkhfionmdmpaa
