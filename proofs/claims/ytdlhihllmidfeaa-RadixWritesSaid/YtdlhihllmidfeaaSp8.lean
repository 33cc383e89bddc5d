/- Package radix at any tree: what it answers is told by the list of the entries, as the reference's answers are. -/
import Derived.Test.YtdlhihllmidfeaaSp7
import Derived.Test.YtdlhihllmidfeaaRx13
namespace Go.Proofs.Ytdlhihllmidfeaa
open Go.RowKit Go.Mine

set_option maxHeartbeats 4000000 in
theorem next_neg (h : Nat) (f : Fen) (s : Value) (x m mk : Int) (fr : Int) (hfr : fr < 0) (p : Nat → Prop) (w : World) (n : TreeF w p h f s x m) (hs : srchB mk = true) :
    Calls Try.prog 13 #[treeV h s x m, .int .i64 fr, .int .i64 mk] w (RetO (ffR mk h f 0) w) := by
  obtain ⟨a, j, c, rfl⟩ := n.node.slice
  have HN := Lib.hid n
  have h5 := n.le
  clear n
  go_enter Try.func13, Try.ntmps13
  have T := Own.new w 28 #[.int .i64 h, .slice a j c, .int .i64 x, .int .i64 m]
  have G := (Grew.refl w).alloc (.cells #[.int .i64 h, .slice a j c, .int .i64 x, .int .i64 m] 28)
  go_wp2_with fail
  with_reducible refine (canSearch_f h f _ _ _ mk p _ (HN.out.grew G)).mono ?_
  rintro e w1 ⟨rfl, g1⟩
  rw [hs]
  replace T := T.grew g1
  replace G := G.trans g1
  clear g1
  obtain ⟨T0, T1, T2, T3, -⟩ := T.four
  have hf1 : (if fr < 0 then (0 : Int) else fr) = 0 := if_pos hfr
  go_upto_region 3 with fail
  go_region_held3 (fun w' => w'.cell? ⟨w.heap.size, 0, none⟩ = some (.int .i64 h) ∧ w'.cell? ⟨w.heap.size, 1, none⟩ = some (.slice a j c) ∧ w'.cell? ⟨w.heap.size, 2, none⟩ = some (.int .i64 x) ∧ w'.cell? ⟨w.heap.size, 3, none⟩ = some (.int .i64 m))
    (refine ⟨?_, ?_, ?_, ?_⟩ <;> (repeat (first | (with_reducible assumption) | (with_reducible refine far_drew ?_))))
    (first
    | (go_at_call 42; (with_reducible refine (width_any h _ h5).mono ?_); rintro e w2 ⟨rfl, rfl⟩)
    | (go_at_call 41; (with_reducible refine Calls.mono (ff_f mk h f (.slice a j c) x m 0 p w1.drew h5 (HN.out.node.grew G.drew) HN.out.good) ?_); intro e w2 hq; obtain ⟨he, g2⟩ : e = .returned (.tuple #[.int .i64 (ffR mk h f 0).1, .bool (ffR mk h f 0).2]) ∧ Grew w1.drew w2 := hq; subst he; have TT2 := T.drew.grew g2; have G2 := G.drew.trans g2; clear T0 T1 T2 T3; obtain ⟨T0, T1, T2, T3, -⟩ := TT2.four))
  all_goals go_wp2
  all_goals exact bodyPost_ret (v := .tuple #[.int .i64 (ffR mk h f 0).1, .bool (ffR mk h f 0).2]) (by simp [results, Try.results13, go_sem]) rfl ⟨rfl, G2⟩

theorem entS_in {f : Fen} {i : Nat} (hi : (f i).1 ≠ 0) : ∀ {n : Nat}, i < n → ((i : Int), f i) ∈ entS f 0 n
  | n + 1, h => by
    rw [entS, List.mem_append]
    by_cases e : i = n
    · subst e
      rw [if_neg hi]
      exact .inr (by simp)
    · exact .inl (entS_in hi (by omega))
theorem entS_asc (f : Fen) : ∀ n, (entS f 0 n).Pairwise fun a b => a.1 < b.1
  | 0 => List.Pairwise.nil
  | n + 1 => by
    rw [entS]
    refine List.pairwise_append.2 ⟨entS_asc f n, ?_, ?_⟩
    · split
      · exact List.Pairwise.nil
      · exact List.pairwise_singleton _ _
    · intro a ha b hb
      obtain ⟨i, hi, rfl, -⟩ := entS_mem ha
      split at hb
      · exact absurd hb (by simp)
      · rw [List.mem_singleton] at hb
        subst hb
        show (0 : Int) + (i : Nat) < 0 + (n : Nat)
        omega
theorem ents_at {h : Nat} {f : Fen} {k : Nat} (hk : k < (entR h f 0).length) : ∃ j : Nat, j < p4 h ∧ (entR h f 0).getD k eZ = ((j : Int), f j) ∧ (f j).1 ≠ 0 := ent_at hk
theorem ents_pos {h : Nat} {f : Fen} {i : Nat} (hi : (f i).1 ≠ 0) (hp : i < p4 h) : ∃ k, k < (entR h f 0).length ∧ (entR h f 0).getD k eZ = ((i : Int), f i) := by
  have hm : ((i : Int), f i) ∈ entR h f 0 := by rw [entR_S]; exact entS_in hi hp
  obtain ⟨k, hk, e⟩ := List.getElem_of_mem hm
  exact ⟨k, hk, by rw [List.getD, List.getElem?_eq_getElem hk, e]; rfl⟩
theorem ents_asc {h : Nat} {f : Fen} {j k : Nat} (hjk : j < k) (hk : k < (entR h f 0).length) : ((entR h f 0).getD j eZ).1 < ((entR h f 0).getD k eZ).1 := by
  have hP := entS_asc f (p4 h)
  rw [← entR_S] at hP
  have := (List.pairwise_iff_getElem.1 hP) j k (by omega) hk hjk
  rw [List.getD, List.getD, List.getElem?_eq_getElem (show j < (entR h f 0).length by omega), List.getElem?_eq_getElem hk]
  exact this
theorem srch_4 {mk : Int} (h : srchB mk = true) : mk4 mk := by
  unfold srchB at h
  by_cases h0 : mk = 0
  · exact .inl h0
  · rw [decide_eq_false h0] at h
    have := of_decide_eq_true h
    unfold mk4
    omega
theorem raw_hit {mk : Int} {f : Fen} {j : Nat} (hm : mk4 mk) (hf : GoodF f) : rawB mk ((j : Int), f j) = hitB mk (f j) := by
  unfold rawB hitB
  rw [hit_test hm (hf j).2.1 (hf j).2.2.1]
  by_cases h0 : mk = 0
  · subst h0; rfl
  · have e0 : (mk == 0) = false := by simpa using h0
    have e1 : markB mk = true := decide_eq_true (by unfold mk4 at hm; omega)
    rw [e0, e1]
    rfl
theorem raw_no {mk : Int} (h : srchB mk = false) (e : En) : rawB mk e = false := by
  unfold srchB at h
  by_cases h0 : mk = 0
  · rw [decide_eq_true h0] at h; cases h
  · rw [decide_eq_false h0] at h
    exact raw_3 (by simpa using h0) h
theorem told {w : World} {H : Int} {s : Value} {x m : Int} {L : List En} (t : TreeL w H s x m L) : ∃ f : Fen, ∀ k, k < L.length → ∃ j : Nat, L.getD k eZ = ((j : Int), f j) := by
  rcases t with ⟨h, f, rfl, n, rfl⟩ | ⟨b, rfl⟩
  · exact ⟨f, fun k hk => by obtain ⟨j, -, e, -⟩ := ents_at hk; exact ⟨j, e⟩⟩
  · exact ⟨fZ, fun k hk => absurd hk (by simp)⟩
theorem GetP.uniq {w : World} {H : Int} {s : Value} {x m : Int} {L : List En} (t : TreeL w H s x m L) {i u v : Int} (h : GetP L i u) (h' : GetP L i v) : u = v := by
  obtain ⟨f, ht⟩ := told t
  rcases h with ⟨k, hk, e1, e2⟩ | ⟨e1, e2⟩ <;> rcases h' with ⟨k', hk', e3, e4⟩ | ⟨e3, e4⟩
  · obtain ⟨j, e5⟩ := ht k hk
    obtain ⟨j', e6⟩ := ht k' hk'
    rw [e5] at e1 e2
    rw [e6] at e3 e4
    have : j = j' := by have h1 : (j : Int) = i := e1; have h2 : (j' : Int) = i := e3; omega
    rw [e2, e4, this]
  · exact absurd e1 (e4 k hk)
  · exact absurd e3 (e2 k' hk')
  · rw [e1, e3]
theorem MkdP.uniq {w : World} {H : Int} {s : Value} {x m : Int} {L : List En} (t : TreeL w H s x m L) {i mk : Int} {u v : Bool} (h : MkdP L i mk u) (h' : MkdP L i mk v) : u = v := by
  obtain ⟨f, ht⟩ := told t
  rcases h with ⟨k, hk, e1, e2⟩ | ⟨e1, e2⟩ <;> rcases h' with ⟨k', hk', e3, e4⟩ | ⟨e3, e4⟩
  · obtain ⟨j, e5⟩ := ht k hk
    obtain ⟨j', e6⟩ := ht k' hk'
    rw [e5] at e1 e2
    rw [e6] at e3 e4
    have : j = j' := by have h1 : (j : Int) = i := e1; have h2 : (j' : Int) = i := e3; omega
    rw [e2, e4, this]
  · exact absurd e1 (e4 k hk)
  · exact absurd e3 (e2 k' hk')
  · rw [e1, e3]
theorem NxP.uniq {mk fr : Int} {L : List En} {u v : Int × Bool} (h : NxP mk fr L u) (h' : NxP mk fr L v) : u = v := by
  rcases h with ⟨k, hk, a1, a2, a3, a4⟩ | ⟨a1, a2⟩ <;> rcases h' with ⟨k', hk', b1, b2, b3, b4⟩ | ⟨b1, b2⟩
  · have : k = k' := by
      rcases Nat.lt_trichotomy k k' with h | h | h
      · have := b3 k h a1; rw [a2] at this; cases this
      · exact h
      · have := a3 k' h b1; rw [b2] at this; cases this
    rw [a4, b4, this]
  · have := b2 k hk a1; rw [a2] at this; cases this
  · have := a2 k' hk' b1; rw [b2] at this; cases this
  · rw [a1, b1]
theorem no_ent {h : Nat} {f : Fen} {i : Int} (hi : ∀ j : Nat, j < p4 h → (f j).1 ≠ 0 → ¬(j : Int) = i) : ∀ k, k < (entR h f 0).length → ¬((entR h f 0).getD k eZ).1 = i := fun k hk e => by
  obtain ⟨j, h1, h2, h3⟩ := ents_at hk
  rw [h2] at e
  exact hi j h1 h3 e
/-! The program. -/
theorem get_l (H : Int) (s : Value) (x m i : Int) (L : List En) (w : World) (t : TreeL w H s x m L) : Calls Try.prog 17 #[treeI H s x m, .int .i64 i] w (fun e w' => ∃ v, e = .returned (.int .i64 v) ∧ GetP L i v ∧ Grew w w') := by
  obtain ⟨a, n, c, rfl⟩ := t.slice
  rcases t with ⟨h, f, rfl, n, rfl⟩ | ⟨b, rfl⟩
  · cases hi : rangeI i
    · refine (get_no h a _ c x m i 2 w (chkNo_out n hi) rfl).mono fun e w' ⟨e1, G⟩ => ⟨0, e1, .inr ⟨rfl, no_ent fun j h1 _ e => ?_⟩, G⟩
      have := of_decide_eq_false hi
      have h4 : p4 h ≤ 256 := p4_mono n.le
      omega
    · obtain ⟨i0, i1⟩ := of_decide_eq_true hi
      obtain ⟨ii, rfl⟩ := Int.eq_ofNat_of_zero_le i0
      refine (get_f h f _ x m ii AllP w n (by omega)).mono fun e w' ⟨e1, G⟩ => ⟨_, e1, ?_, G⟩
      by_cases h0 : (f ii).1 = 0
      · exact .inr ⟨h0, no_ent fun j _ h3 e => h3 (by rw [show j = ii by omega]; exact h0)⟩
      · have hp : ii < p4 h := Classical.byContradiction fun e => h0 (by rw [n.out ii (by omega)])
        obtain ⟨k, hk, e2⟩ := ents_pos h0 hp
        exact .inl ⟨k, hk, by rw [e2], by rw [e2]⟩
  · exact (get_no H a n c x m i 1 w (chkNo_bad b i) rfl).mono fun e w' ⟨e1, G⟩ => ⟨0, e1, .inr ⟨rfl, fun k hk => absurd hk (by simp)⟩, G⟩
theorem marked_l (H : Int) (s : Value) (x m i mk : Int) (L : List En) (w : World) (t : TreeL w H s x m L) : Calls Try.prog 19 #[treeI H s x m, .int .i64 i, .int .i64 mk] w (fun e w' => ∃ b, e = .returned (.bool b) ∧ MkdP L i mk b ∧ Grew w w') := by
  obtain ⟨a, n, c, rfl⟩ := t.slice
  rcases t with ⟨h, f, rfl, n, rfl⟩ | ⟨b, rfl⟩
  · cases hm : markB mk
    · refine (marked_none h a _ c x m i w mk hm).mono fun e w' ⟨e1, G⟩ => ⟨false, e1, ?_, G⟩
      by_cases hk : ∃ k, k < (entR h f 0).length ∧ ((entR h f 0).getD k eZ).1 = i
      · obtain ⟨k, hk, e⟩ := hk
        exact .inl ⟨k, hk, e, by rw [hm]; rfl⟩
      · exact .inr ⟨rfl, fun k h1 h2 => hk ⟨k, h1, h2⟩⟩
    · cases hi : rangeI i
      · refine (marked_no h a _ c x m i 2 w mk (chkNo_out n hi) rfl).mono fun e w' ⟨e1, G⟩ => ⟨false, e1, .inr ⟨rfl, no_ent fun j h1 _ e => ?_⟩, G⟩
        have := of_decide_eq_false hi
        have h4 : p4 h ≤ 256 := p4_mono n.le
        omega
      · obtain ⟨i0, i1⟩ := of_decide_eq_true hi
        obtain ⟨ii, rfl⟩ := Int.eq_ofNat_of_zero_le i0
        refine (marked_f h f _ x m mk ii AllP w n (by omega) hm).mono fun e w' ⟨e1, G⟩ => ⟨_, e1, ?_, G⟩
        by_cases h0 : (f ii).1 = 0
        · refine .inr ⟨?_, no_ent fun j _ h3 e => h3 (by rw [show j = ii by omega]; exact h0)⟩
          unfold markedB
          rw [(n.good ii).2.2.2 (by omega)]
          have := of_decide_eq_true hm
          rcases this with rfl | rfl | rfl <;> decide
        · have hp : ii < p4 h := Classical.byContradiction fun e => h0 (by rw [n.out ii (by omega)])
          obtain ⟨k, hk, e2⟩ := ents_pos h0 hp
          exact .inl ⟨k, hk, by rw [e2], by rw [e2, hm]; rfl⟩
  · exact (marked_no H a n c x m i 1 w mk (chkNo_bad b i) rfl).mono fun e w' ⟨e1, G⟩ => ⟨false, e1, .inr ⟨rfl, fun k hk => absurd hk (by simp)⟩, G⟩
theorem finds_nx {mk fr : Int} {h : Nat} {f : Fen} (hf : GoodF f) (hm : mk4 mk) {o : Int × Bool} (hF : Finds mk f (p4 h) fr.toNat o) : NxP mk fr (entR h f 0) o := by
  rcases hF with ⟨h2, i, h1, hi, hin, hh, hno⟩ | ⟨h2, h1, hno⟩
  · have h0 : (f i).1 ≠ 0 := fun e => by
      unfold hitB frB at hh
      rw [e] at hh
      exact absurd hh (by simp)
    obtain ⟨k, hk, e⟩ := ents_pos h0 hin
    refine .inl ⟨k, hk, by rw [e]; show fr ≤ (i : Int); omega, by rw [e, raw_hit hm hf]; exact hh, fun j hj hfj => ?_, Prod.ext (by rw [h1, e]) (by rw [h2])⟩
    obtain ⟨jj, hj1, hj2, hj3⟩ := ents_at (h := h) (f := f) (k := j) (by omega)
    have ha := ents_asc hj hk
    rw [hj2] at hfj ha ⊢
    rw [e] at ha
    rw [raw_hit hm hf]
    exact hno jj (by have : fr ≤ (jj : Int) := hfj; omega) (by have : (jj : Int) < (i : Int) := ha; omega)
  · refine .inr ⟨Prod.ext h1 h2, fun j hj hfj => ?_⟩
    obtain ⟨jj, hj1, hj2, hj3⟩ := ents_at (h := h) (f := f) (k := j) (by omega)
    rw [hj2] at hfj ⊢
    rw [raw_hit hm hf]
    exact hno jj (by have : fr ≤ (jj : Int) := hfj; omega) hj1
theorem next_l (H : Int) (s : Value) (x m fr mk : Int) (L : List En) (w : World) (t : TreeL w H s x m L) : Calls Try.prog 13 #[treeI H s x m, .int .i64 fr, .int .i64 mk] w (fun e w' => ∃ o, e = .returned (.tuple #[.int .i64 o.1, .bool o.2]) ∧ NxP mk fr L o ∧ Grew w w') := by
  obtain ⟨a, n, c, rfl⟩ := t.slice
  rcases t with ⟨h, f, rfl, n, rfl⟩ | ⟨b, rfl⟩
  · cases hs : srchB mk
    · exact (next_no h a _ c x m w mk fr (srchNo_none n hs)).mono fun e w' ⟨e1, G⟩ => ⟨_, e1, .inr ⟨rfl, fun j _ _ => raw_no hs _⟩, G⟩
    · by_cases hfr : fr < 0
      · refine (next_neg h f _ x m mk fr hfr AllP w n hs).mono fun e w' ⟨e1, G⟩ => ⟨_, e1, finds_nx n.good (srch_4 hs) ?_, G⟩
        rw [show fr.toNat = 0 by omega]
        exact ffR_finds (srch_4 hs) h f 0 n.good
      · obtain ⟨q, rfl⟩ := Int.eq_ofNat_of_zero_le (show 0 ≤ fr by omega)
        refine (next_f h f _ x m mk q AllP w n hs).mono fun e w' ⟨e1, G⟩ => ⟨_, e1, finds_nx n.good (srch_4 hs) ?_, G⟩
        rw [show ((q : Nat) : Int).toNat = q by omega]
        exact ffR_finds (srch_4 hs) h f q n.good
  · exact (next_no H a n c x m w mk fr (srchNo_bad b mk)).mono fun e w' ⟨e1, G⟩ => ⟨_, e1, .inr ⟨rfl, fun j hj _ => absurd hj (by simp)⟩, G⟩
theorem count_l (H : Int) (s : Value) (x m mk : Int) (L : List En) (w : World) (t : TreeL w H s x m L) : Calls Try.prog 21 #[treeI H s x m, .int .i64 mk] w (fun e w' => e = .returned (.int .i64 (cntL mk L)) ∧ Grew w w') := by
  obtain ⟨a, n, c, rfl⟩ := t.slice
  rcases t with ⟨h, f, rfl, n, rfl⟩ | ⟨b, rfl⟩
  · cases hs : srchB mk
    · refine (count_no h a _ c x m w mk (srchNo_none n hs)).mono fun e w' ⟨e1, G⟩ => ⟨e1.trans (ret_int ?_), G⟩
      unfold cntL
      rw [List.filter_eq_nil_iff.2 fun e _ => by rw [raw_no hs e]; decide]
      rfl
    · refine (Count_f h f _ x m mk AllP w n hs).mono fun e w' ⟨e1, G⟩ => ⟨e1.trans (ret_int ?_), G⟩
      rw [cntR_hit (srch_4 hs) h f n.good, ← hitS_len, ← selE_R]
      unfold selE cntL
      rw [List.length_map]
      congr 2
      refine List.filter_congr fun e he => ?_
      rw [entR_S] at he
      obtain ⟨i, -, rfl, -⟩ := entS_mem he
      rw [Int.zero_add, raw_hit (srch_4 hs) n.good]
  · exact (count_no H a n c x m w mk (srchNo_bad b mk)).mono fun e w' ⟨e1, G⟩ => ⟨e1, G⟩
theorem entries_l (H : Int) (s : Value) (x m : Int) (L : List En) (w : World) (t : TreeL w H s x m L) :
    Calls Try.prog 24 #[treeI H s x m] w (fun e w' => ∃ v, e = .returned v ∧ RowE 51 3 encE w' w.heap.size v L ∧ Grew w w') := by
  obtain ⟨a, n, c, rfl⟩ := t.slice
  rcases t with ⟨h, f, rfl, n, rfl⟩ | ⟨b, rfl⟩
  · exact entries_f h f _ x m AllP w n
  · exact (entries_no H a n c x m w b).mono fun e w' ⟨e1, G⟩ => ⟨_, e1, RowE.nil _ _, G⟩
theorem valid_l (H : Int) (s : Value) (x m : Int) (L : List En) (w : World) (t : TreeL w H s x m L) : ∃ b : Bool, ∀ w', Grew w w' → Calls Try.prog 15 #[treeI H s x m] w' (RetG (.bool b) w') ∧ Calls Try.prog 16 #[treeI H s x m] w' (RetG (.bool b) w') := by
  rcases t with ⟨h, f, rfl, n, rfl⟩ | ⟨b, rfl⟩
  · refine ⟨true, fun w' G => ⟨?_, ?_⟩⟩
    · have := valid_f h f s x m AllP w' (n.node.grew G) n.good n.le
      rw [n.valid] at this
      exact this
    · have := validq_node h f s x m w' n.le (n.node.grew G) n.good
      rw [n.valid] at this
      exact this
  · exact ⟨false, fun w' G => ⟨valid_bad H s x m w' (b.grew G), validq_bad H s x m w' (b.grew G)⟩⟩
end Go.Proofs.Ytdlhihllmidfeaa
