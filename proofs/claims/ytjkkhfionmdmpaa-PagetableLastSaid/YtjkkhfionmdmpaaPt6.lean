/- Page tables (layer 17): Of of the program. -/
import Derived.Test.YtjkkhfionmdmpaaPt5
namespace Go.Mine
open Go Go.RowKit
/-- append of one entry onto a row, within a round. -/
theorem wpListIn_rowT {F : Fence} {nF : Nat} {P : Program} (w : World) {ops : Array Oper} {rest : List Oper} {o : Oper} {a : Act} {Q : Exit → Act → World → Prop} (hgd : o.guard = none) (s x : Operand) (t : TypeId)
    (ho : o.op = .call { callee := .builtin .append, args := #[s, x], argTypes := #[t, t] }) (B : Nat) {T : TypeId} {z : Value} {bytes : Nat}
    (hinfo : (P.info? T).map (fun i => (i.zero, i.size, i.bytes)) = some (some z, 5, bytes)) (ht : P.underlying t = some (.slice T)) (hzs : z.cells.size = 5)
    (v : Value) (L : List Pt) (hs : a.eval s = v) (hown : RowE T 5 encT w B v L) (G c : Nat) (y : Pt) (hx : a.eval x = .slice (some ⟨G, 0, none⟩) 1 c) (hnew : Own w G T (encT y).toArray)
    (hlen : L.length < 1000000) (hby : bytes ≤ 1000) (hB : B ≤ w.heap.size)
    (h : ∀ g cap w', RowE T 5 encT w' B (.slice (some ⟨g, 0, none⟩) (L.length + 1) cap) (L ++ [y]) → w.grownBy w' v.ownBlock → (v.ownBlock = some g ∨ w.heap.size ≤ g) → wpListIn F nF P ops Q rest (a.put o.dst (.slice (some ⟨g, 0, none⟩) (L.length + 1) cap)) w') :
    wpListIn F nF P ops Q (o :: rest) a w := by
  obtain ⟨i0, hi, hz0, hz1, hz2⟩ := info_parts hinfo
  refine wpListIn_append_own_at w hgd s x t ho B T i0 z 5 bytes ht hi hz0 hz1 hz2 hzs (by omega) v L.length _ hs hown ⟨G, 0, none⟩ 1 c (encT y) hx rfl (own_news hnew) encT_one (by unfold maxLen; omega)
    (Nat.le_trans (Nat.mul_le_mul (show L.length + 1 ≤ 1000000 by omega) hby) (by decide)) hB ?_
  intro v' w' r1 r2 _ r4
  have R := RowE.snoc r1
  rcases R.shape encT_len with ⟨-, e⟩ | ⟨g, cap, rfl, -⟩
  · simp at e
  · rw [List.length_append, List.length_singleton] at R ⊢
    exact h g cap w' R r2 (r4.elim (fun e => .inl e.symm) (fun e => .inr (Nat.le_of_eq (Option.some.inj e).symm)))
theorem take_succT {L : List Pt} {i : Nat} (hi : i < L.length) : L.take (i + 1) = L.take i ++ [L.getD i zT] := by rw [List.take_add_one, List.getElem?_eq_getElem hi, tD hi]; rfl
def flT (L : List Pt) (f : Int) (i : Nat) : List Pt := (L.take i).filter fun x => decide (x.f = f)
theorem flT_len (L : List Pt) (f : Int) (i : Nat) : (flT L f i).length ≤ i := by
  refine Nat.le_trans (List.length_filter_le _ _) ?_
  rw [List.length_take]; omega
theorem flT_hit {L : List Pt} {f : Int} {i : Nat} (hi : i < L.length) (h : htE L f i = true) : flT L f (i + 1) = flT L f i ++ [L.getD i zT] := by
  unfold flT
  unfold htE at h
  rw [take_succT hi, List.filter_append, List.filter_cons_of_pos (by exact h)]; rfl
theorem flT_miss {L : List Pt} {f : Int} {i : Nat} (hi : i < L.length) (h : htE L f i = false) : flT L f (i + 1) = flT L f i := by
  unfold flT
  rw [take_succT hi, List.filter_append, List.filter_cons_of_neg (by unfold htE at h; rw [h]; decide)]
  exact List.append_nil _
theorem flT_end (L : List Pt) (f : Int) : flT L f (nE L) = ofT L f := by
  unfold flT ofT
  cases h : okT L
  · rw [nE_0 h]; rfl
  · rw [nE_1 h, List.take_length]
/-- What a round has kept so far. -/
def TrE (n₀ bs : Nat) (W W' : World) : Prop := KeepsOthers W W' ∧ KpE n₀ bs W W'
section
variable {n₀ bs : Nat} {W W1 W2 : World}
theorem TrE.refl (n₀ bs : Nat) (W : World) : TrE n₀ bs W W := ⟨KeepsOthers.refl W, kpE_refl _ _ _⟩
theorem TrE.by_ (h : TrE n₀ bs W W1) {r : Option Nat} (g : W1.grownBy W2 r) (hc : ∀ k, r = some k → n₀ ≤ k ∧ k ≠ bs ∧ k ≠ bs + 1 ∧ ∀ o, W1.heap[k]? = some o → o.isCells = true) (hn : n₀ ≤ W1.heap.size) (hb : bs + 1 < W1.heap.size) : TrE n₀ bs W W2 :=
  ⟨h.1.trans (KeepsOthers.of_grownBy g fun j o e ho => (hc j e).2.2.2 o ho), h.2.by_ g (fun k e => ⟨(hc k e).1, (hc k e).2.1, (hc k e).2.2.1⟩) hn hb⟩
theorem TrE.grew (h : TrE n₀ bs W W1) (g : Grew W1 W2) (hn : n₀ ≤ W1.heap.size) (hb : bs + 1 < W1.heap.size) : TrE n₀ bs W W2 := h.by_ g.grown (fun k e => by cases e) hn hb
theorem TrE.row {T : TypeId} {B : Nat} {v : Value} {L : List Pt} (h : TrE n₀ bs W W1) (hR : RowE T 5 encT W1 B v L) (g : W1.grownBy W2 v.ownBlock) (hB : n₀ ≤ B) (hb2 : bs + 1 < B) (hn : n₀ ≤ W1.heap.size) (hb : bs + 1 < W1.heap.size) : TrE n₀ bs W W2 :=
  h.by_ g (fun k e => by
    have := hR.above k e
    obtain ⟨cs, hO⟩ := rowT_block hR e
    exact ⟨by omega, by omega, by omega, own_onlyT hO⟩) hn hb
theorem TrE.set (h : TrE n₀ bs W W1) {p : Addr} (u : Value) (hp : n₀ ≤ p.block) (h1 : p.block ≠ bs) (h2 : p.block ≠ bs + 1) : TrE n₀ bs W (W1.setCell p u) := ⟨h.1.trans (KeepsOthers.setCell _ _ _), h.2.set u hp h1 h2⟩
theorem TrE.drew (h : TrE n₀ bs W W1) : TrE n₀ bs W W1.drew := ⟨h.1.trans (KeepsOthers.drew _), h.2.drew⟩
end
/-- Between two rounds of Of. -/
def OfI (w : World) (TS TP : TypeId) (vb e0 : Nat) (L : List Pt) (f : Int) (i : Nat) (W : World) : Prop := ∃ r, Own W vb TS #[r] ∧ RowE TP 5 encT W e0 r (flT L f i) ∧ Grew w W ∧ e0 ≤ W.heap.size
/-- In a round of Of, ahead of its body. -/
def OfM (w : World) (TS TP : TypeId) (vb e0 : Nat) (L : List Pt) (f : Int) (i : Nat) (a' : Act) (W : World) : Prop := ∃ bx u0 u1 u2 u3 u4 u6 u8 u9 u10 u11 u12 u13 u14 u15 u16 u17, e0 ≤ bx ∧ Own W bx TP (encT (L.getD i zT)).toArray ∧ OfI w TS TP vb e0 L f i W ∧
  a' = { tmps := #[u0, u1, u2, u3, u4, .pointer (some ⟨vb, 0, none⟩), u6, .pointer (some ⟨bx, 0, none⟩), u8, u9, u10, u11, u12, u13, u14, u15, u16, u17], defers := [] }
theorem ofI_own {w : World} {TS TP : TypeId} {vb e0 B : Nat} {L : List Pt} {f : Int} (hB : e0 ≤ B) (hw : w.heap.size ≤ e0) : OwnFrom B (OfI w TS TP vb e0 L f) := by
  rintro i W W' r ⟨v, h1, h2, h3, h4⟩ g hr
  have hr2 := fun q e => (hr q e).2
  exact ⟨v, own_by h1 g hr2, rowT_by h2 g hr2, h3.keptA g (fun x e => Nat.le_trans hB (hr x e).1) hw, Nat.le_trans h4 g.size⟩
theorem ofM_own {w : World} {TS TP : TypeId} {vb e0 B : Nat} {L : List Pt} {f : Int} (hB : e0 ≤ B) (hw : w.heap.size ≤ e0) (a' : Act) : OwnFrom B (fun i W => OfM w TS TP vb e0 L f i a' W) := by
  rintro i W W' r ⟨bx, u0, u1, u2, u3, u4, u6, u8, u9, u10, u11, u12, u13, u14, u15, u16, u17, h1, h2, h3, h4⟩ g hr
  have hr2 := fun q e => (hr q e).2
  exact ⟨bx, u0, u1, u2, u3, u4, u6, u8, u9, u10, u11, u12, u13, u14, u15, u16, u17, h1, own_by h2 g hr2, ofI_own hB hw i W W' r h3 g hr, h4⟩
end Go.Mine
namespace Go.Proofs.Ytjkkhfionmdmpaa
open Go.RowKit Go.Mine Go.Shelf
attribute [local go_sem] Oper.semAt_some
set_option maxRecDepth 100000 in
set_option maxHeartbeats 2000000 in
theorem of_p {B : Nat} {v : Value} {L : List Pt} {f : Int} {w : World} (h : RdS 5 encT w B v L) (hl : L.length ≤ 1000) : Calls Try.prog 21 #[v, .int .i64 f] w (RetPt (ofT L f) w) := by
  obtain ⟨a, c, rfl, -, -⟩ := h.slice
  have HZ := Lib.hid h
  have hl2 := hl
  obtain ⟨n, hn⟩ : ∃ n, L.length = n := ⟨_, rfl⟩
  have HN := Lib.hid hn
  rw [hn] at hl HZ ⊢
  clear h hn
  refine (callsIn_wide (n := 6)).1 ?_
  refine callsIn_of_wp_marks Try.func21 rfl trivial ?_ rfl
  simp only [Try.ntmps21, List.size_toArray, List.length_cons, List.length_nil, Nat.reduceAdd, Nat.reduceSub, Array.replicate_succ, Array.replicate_zero, List.push_toArray, List.append_toArray, List.nil_append, List.cons_append]
  refine wpIn_wide.2 ?_
  go_upto_region 2 with fail
  go_wp2_with fail
  with_reducible refine (entries_p _ _ _ _ _).mono ?_
  rintro e w2 ⟨rfl, rfl⟩
  have OV := ((Mine.Own.new w 26 #[.slice none 0 0]).alloc (.cells #[.slice a n c] 26)).alloc (.cells #[.int .i64 f] 3)
  have O1 := (Mine.Own.new (w.alloc (.cells #[.slice none 0 0] 26)) 26 #[.slice a n c]).alloc (.cells #[.int .i64 f] 3)
  have O2 := Mine.Own.new ((w.alloc (.cells #[.slice none 0 0] 26)).alloc (.cells #[.slice a n c] 26)) 3 #[.int .i64 f]
  have G := ((((Grew.refl w).alloc (.cells #[.slice none 0 0] 26)).alloc (.cells #[.slice a n c] 26)).alloc (.cells #[.int .i64 f] 3))
  have hz1 : (w.alloc (.cells #[.slice none 0 0] 26)).heap.size = w.heap.size + 1 := by simp
  have hz2 : ((w.alloc (.cells #[.slice none 0 0] 26)).alloc (.cells #[.slice a n c] 26)).heap.size = w.heap.size + 1 + 1 := by simp
  have hz3 : (((w.alloc (.cells #[.slice none 0 0] 26)).alloc (.cells #[.slice a n c] 26)).alloc (.cells #[.int .i64 f] 3)).heap.size = w.heap.size + 3 := by simp
  rw [hz1] at O1
  rw [hz2] at O2
  try rw [hz1]
  generalize World.alloc (World.alloc (World.alloc w _) _) _ = w2 at *
  clear hz1 hz2
  go_wp2_with fail
  refine wpIn_wide.1 (wpIn_rangeAt (n := 6) rfl (by decide) (gf := 45) (lb := #[.pointer (some ⟨w.heap.size + 1, 0, none⟩), .pointer (some ⟨w.heap.size + 1 + 1, 0, none⟩)]) rfl trivial (enters_of Try.func45 (by kernel_rfl) rfl)
    (entries_at (w0 := w) (B := B) (L := L) (f := f) (bs := w.heap.size + 1) HZ.out hl2 G O1 O2) kpE_t (kpE_b (by omega) (by omega)) (fun _ => rfl)
    (OfI w 26 30 w.heap.size (w.heap.size + 3) L f) (ofI_own (by omega) (by omega)) ?skip ⟨_, OV, RowE.nil _ _, G, by omega⟩ (OfM w 26 30 w.heap.size (w.heap.size + 3) L f) (ofM_own (by omega) (by omega)) ?assign ?body ?done)
  case skip =>
    rintro i W hi hh ⟨r, h1, h2, h3⟩
    exact ⟨r, h1, by rw [flT_miss (Nat.lt_of_lt_of_le hi (nE_le L)) hh]; exact h2, h3⟩
  case assign =>
    rintro l i W K hi hh ⟨r, h1, h2, h3, h4⟩ hK
    have hs := h3.size
    revert hK
    unfold encE OfM
    dsimp only
    generalize L.getD i zT = d
    intro hK
    gi_wp2
    exact hK _ _ ((KeepsOthers.alloc _ _).from _) ((TrE.refl w.heap.size (w.heap.size + 1) W).grew ((Grew.refl W).alloc _) hs (by omega)).2
      ⟨W.heap.size, _, _, _, _, _, _, _, _, _, _, _, _, _, _, _, _, h4, Mine.Own.new W _ _, ⟨r, h1.alloc _, h2.alloc _, h3.alloc _, by simp; omega⟩, rfl⟩
  case body =>
    rintro l i a' W hi hh ⟨bx, u0, u1, u2, u3, u4, u6, u8, u9, u10, u11, u12, u13, u14, u15, u16, u17, hbx, OX, ⟨r, h1, h2, h3, h4⟩, rfl⟩
    have hiL := Nat.lt_of_lt_of_le hi (nE_le L)
    have HE := Lib.hid (flT_hit hiL hh)
    have hfl := flT_len L f i
    have hiL2 : i < n := by rw [← HN.out]; exact hiL
    generalize L.getD i zT = d at *
    obtain ⟨M, hM⟩ : ∃ M, flT L f i = M := ⟨_, rfl⟩
    rw [hM] at HE h2 hfl
    obtain ⟨ra, rc, rfl⟩ := h2.len
    have hs := h3.size
    have HR := Lib.hid (h2.alloc (.cells #[.int .i64 d.p, .int .i64 d.v, .int .i64 d.f, .bool d.w, .bool d.a] 30))
    have HO := Lib.hid (show Mine.Own (W.alloc (.cells #[.int .i64 d.p, .int .i64 d.v, .int .i64 d.f, .bool d.w, .bool d.a] 30)) W.heap.size 30 (encT d).toArray from Mine.Own.new W _ _)
    have HV := Lib.hid (h1.alloc (.cells #[.int .i64 d.p, .int .i64 d.v, .int .i64 d.f, .bool d.w, .bool d.a] 30))
    have HG := Lib.hid (h3.alloc (.cells #[.int .i64 d.p, .int .i64 d.v, .int .i64 d.f, .bool d.w, .bool d.a] 30))
    have HT := Lib.hid ((TrE.refl w.heap.size (w.heap.size + 1) W).grew ((Grew.refl W).alloc (.cells #[.int .i64 d.p, .int .i64 d.v, .int .i64 d.f, .bool d.w, .bool d.a] 30)) hs (by omega))
    have hz9 : w.heap.size + 3 ≤ (W.alloc (.cells #[.int .i64 d.p, .int .i64 d.v, .int .i64 d.f, .bool d.w, .bool d.a] 30)).heap.size := by simp; omega
    have hx6 : M.length < 1000000 := by omega
    obtain ⟨x0, x1, x2, x3, x4⟩ := OX.fiveT
    obtain ⟨v0, v1⟩ := h1.one
    clear h2 h3 h1 hM hh OX hi HN hiL
    gi_wp2_with (gi_at_builtin; refine wpListIn_rowT _ rfl (.tmp 13) (.tmp 15) 26 rfl (w.heap.size + 3) info_pt Try.underlying26 (by decide) _ M rfl HR.out _ 1 d rfl HO.out hx6 (by decide) hz9 ?_; intro g9 cap9 W4 R4 G4 o4; have HT4 := Lib.hid (HT.out.row HR.out G4 (by omega) (by omega) (by omega) (by omega)); have HR4 := Lib.hid R4; have HG4 := Lib.hid (Grew.keptA (B := w.heap.size) HG.out G4 (fun x e => by have := HR.out.above x e; omega) (Nat.le_refl _)); have HV4 := Lib.hid (HV.out.keptN G4 (fun e => by have := HR.out.above _ e; omega)); have hz4 := G4.size; clear v0 v1 R4 G4; obtain ⟨v0, v1⟩ := HV4.out.one)
    have hgN : g9 ≠ w.heap.size := fun e => by have := HR4.out.above g9 rfl; omega
    refine ⟨KeepsOthers.from (HT4.out.set _ (Nat.le_refl _) (by show w.heap.size ≠ _; omega) (by show w.heap.size ≠ _; omega)).1 _, (HT4.out.set _ (Nat.le_refl _) (by show w.heap.size ≠ _; omega) (by show w.heap.size ≠ _; omega)).2, _, HV4.out.set 0 _, ?_, HG4.out.set (p := ⟨w.heap.size, 0, none⟩) (Nat.le_refl _) _, by show _ ≤ (W4.setCell _ _).heap.size; simp [World.setCell]; omega⟩
    rw [HE.out]
    exact HR4.out.set (p := ⟨w.heap.size, 0, none⟩) (fun e => hgN (by injection e)) _
  case done =>
    rintro D W hD ⟨r, h1, h2, h3, h4⟩ hK
    rw [flT_end] at h2
    have HR := Lib.hid h2
    have HG := Lib.hid h3
    obtain ⟨v0, v1⟩ := h1.one
    obtain ⟨ra, rc, rfl⟩ := h2.len
    clear h1 h2 h3
    go_wp2
    refine ⟨by simp, .inl ⟨_, _, rfl, run_takeDeferred hK, .slice ra (ofT L f).length rc, by simp [results, Try.results21, go_sem], _, rfl, ?_, grew_putT HG.out _ (by omega)⟩⟩
    exact (RowE.rdS encT_len (rowT_by HR.out (grownBy_putObj' W D (.deferred none)) (fun q e => by injection e with e; subst e; exact ⟨_, hK, rfl⟩))).wider (by omega)
end Go.Proofs.Ytjkkhfionmdmpaa
