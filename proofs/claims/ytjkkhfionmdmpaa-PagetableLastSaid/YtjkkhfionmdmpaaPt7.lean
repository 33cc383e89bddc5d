/- Page tables (layer 17): Protect and Young of the program. -/
import Derived.Test.YtjkkhfionmdmpaaPt6
namespace Go.Mine
open Go Go.RowKit
theorem prX_hit {f : Int} {d : Pt} (h : d.f = f) : prX f d = ⟨d.p, d.v, d.f, false, d.a⟩ := by unfold prX; rw [decide_eq_true h]
theorem prX_miss {f : Int} {d : Pt} (h : ¬d.f = f) : prX f d = d := by unfold prX; rw [decide_eq_false h]
theorem yoX_hit {f : Int} {d : Pt} (h : d.f = f) : yoX f d = ⟨d.p, d.v, d.f, d.w, false⟩ := by unfold yoX; rw [decide_eq_true h]
theorem yoX_miss {f : Int} {d : Pt} (h : ¬d.f = f) : yoX f d = d := by unfold yoX; rw [decide_eq_false h]
theorem htE_1 {L : List Pt} {f : Int} {i : Nat} (h : htE L f i = true) : (L.getD i zT).f = f := of_decide_eq_true h
theorem htE_0 {L : List Pt} {f : Int} {i : Nat} (h : htE L f i = false) : ¬(L.getD i zT).f = f := of_decide_eq_false h
theorem mixT_end (g : Pt → Pt) (L : List Pt) : mixT g L (nE L) = match okT L with | true => L.map g | false => L := by
  cases h : okT L
  · rw [nE_0 h]; rfl
  · rw [nE_1 h, mixT_all]
def acT (L : List Pt) (f : Int) (i : Nat) : Bool := (L.take i).any (yoB f)
theorem acT_hit {L : List Pt} {f : Int} {i : Nat} (hi : i < L.length) (h : htE L f i = true) : acT L f (i + 1) = (acT L f i || (L.getD i zT).a) := by
  unfold acT
  rw [take_succT hi, List.any_append]
  congr 1
  show (yoB f (L.getD i zT) || false) = _
  unfold yoB htE at *
  rw [h]
  simp
theorem acT_miss {L : List Pt} {f : Int} {i : Nat} (hi : i < L.length) (h : htE L f i = false) : acT L f (i + 1) = acT L f i := by
  unfold acT
  rw [take_succT hi, List.any_append]
  show ((L.take i).any (yoB f) || (yoB f (L.getD i zT) || false)) = _
  unfold yoB htE at *
  rw [h]
  simp
theorem acT_end (L : List Pt) (f : Int) : (match okT L with | true => L.any (yoB f) | false => false) = acT L f (nE L) := by
  unfold acT
  cases h : okT L
  · rw [nE_0 h]; rfl
  · rw [nE_1 h, List.take_length]
/-- Between two rounds of Protect. -/
def PrI (w : World) (TS TP : TypeId) (vb : Nat) (v : Value) (g : Pt → Pt) (L : List Pt) (i : Nat) (W : World) : Prop := Own W vb TS #[v] ∧ RowE TP 5 encT W w.heap.size v (mixT g L i) ∧ Grew w W ∧ vb + 3 ≤ W.heap.size
def PrM (w : World) (TS TP : TypeId) (vb : Nat) (v : Value) (g : Pt → Pt) (L : List Pt) (i : Nat) (a' : Act) (W : World) : Prop := ∃ u0 u1 u2 u3 u4 u7 u8 u9 u10 u11 u12 u13 u14 u15 u16 u17 u18, PrI w TS TP vb v g L i W ∧ a' = { tmps := #[u0, u1, u2, u3, u4, .pointer (some ⟨vb, 0, none⟩), .int .i64 (i : Int), u7, u8, u9, u10, u11, u12, u13, u14, u15, u16, u17, u18], defers := [] }
theorem prI_own {w : World} {TS TP : TypeId} {vb B : Nat} {v : Value} {g : Pt → Pt} {L : List Pt} (hB : w.heap.size ≤ B) : OwnFrom B (PrI w TS TP vb v g L) := by
  rintro i W W' r ⟨h1, h2, h3, h4⟩ k hr
  have hr2 := fun q e => (hr q e).2
  exact ⟨own_by h1 k hr2, rowT_by h2 k hr2, h3.keptA k (fun x e => (hr x e).1) hB, Nat.le_trans h4 k.size⟩
theorem prM_own {w : World} {TS TP : TypeId} {vb B : Nat} {v : Value} {g : Pt → Pt} {L : List Pt} (hB : w.heap.size ≤ B) (a' : Act) : OwnFrom B (fun i W => PrM w TS TP vb v g L i a' W) := by
  rintro i W W' r ⟨u0, u1, u2, u3, u4, u7, u8, u9, u10, u11, u12, u13, u14, u15, u16, u17, u18, h, e⟩ k hr
  exact ⟨u0, u1, u2, u3, u4, u7, u8, u9, u10, u11, u12, u13, u14, u15, u16, u17, u18, prI_own hB i W W' r h k hr, e⟩
/-- Between two rounds of Young. -/
def YoI (w : World) (TS TP TB : TypeId) (vb : Nat) (v : Value) (f : Int) (L : List Pt) (i : Nat) (W : World) : Prop := Own W vb TS #[v] ∧ Own W (vb + 1) TB #[.bool (acT L f i)] ∧ RowE TP 5 encT W w.heap.size v (mixT (yoX f) L i) ∧ Grew w W ∧ vb + 4 ≤ W.heap.size
def YoM (w : World) (TS TP TB : TypeId) (vb : Nat) (v : Value) (f : Int) (L : List Pt) (i : Nat) (a' : Act) (W : World) : Prop := ∃ bx u0 u1 u2 u3 u4 u5 u10 u11 u12 u13 u14 u15 u16 u17 u18 u19 u20 u21 u22 u23 u24 u25 u26 u27, vb + 4 ≤ bx ∧ Own W bx TP (encT (L.getD i zT)).toArray ∧ YoI w TS TP TB vb v f L i W ∧ a' = { tmps := #[u0, u1, u2, u3, u4, u5, .pointer (some ⟨vb, 0, none⟩), .pointer (some ⟨vb + 1, 0, none⟩), .int .i64 (i : Int), .pointer (some ⟨bx, 0, none⟩), u10, u11, u12, u13, u14, u15, u16, u17, u18, u19, u20, u21, u22, u23, u24, u25, u26, u27], defers := [] }
theorem yoI_own {w : World} {TS TP TB : TypeId} {vb B : Nat} {v : Value} {f : Int} {L : List Pt} (hB : w.heap.size ≤ B) : OwnFrom B (YoI w TS TP TB vb v f L) := by
  rintro i W W' r ⟨h1, h5, h2, h3, h4⟩ k hr
  have hr2 := fun q e => (hr q e).2
  exact ⟨own_by h1 k hr2, own_by h5 k hr2, rowT_by h2 k hr2, h3.keptA k (fun x e => (hr x e).1) hB, Nat.le_trans h4 k.size⟩
theorem yoM_own {w : World} {TS TP TB : TypeId} {vb B : Nat} {v : Value} {f : Int} {L : List Pt} (hB : w.heap.size ≤ B) (a' : Act) : OwnFrom B (fun i W => YoM w TS TP TB vb v f L i a' W) := by
  rintro i W W' r ⟨bx, u0, u1, u2, u3, u4, u5, u10, u11, u12, u13, u14, u15, u16, u17, u18, u19, u20, u21, u22, u23, u24, u25, u26, u27, h0, h1, h, e⟩ k hr
  exact ⟨bx, u0, u1, u2, u3, u4, u5, u10, u11, u12, u13, u14, u15, u16, u17, u18, u19, u20, u21, u22, u23, u24, u25, u26, u27, h0, own_by h1 k (fun q e => (hr q e).2), yoI_own hB i W W' r h k hr, e⟩
end Go.Mine
namespace Go.Proofs.Ytjkkhfionmdmpaa
open Go.RowKit Go.Mine Go.Shelf
attribute [local go_sem] Oper.semAt_some
set_option maxRecDepth 100000 in
set_option maxHeartbeats 2000000 in
theorem protect_p {B : Nat} {v : Value} {L : List Pt} {f : Int} {w : World} (h : RdS 5 encT w B v L) (hl : L.length ≤ 1000) : Calls Try.prog 25 #[v, .int .i64 f] w (RetPt (prtT L f) w) := by
  obtain ⟨a, c, rfl, -, -⟩ := h.slice
  have HZ := Lib.hid h
  have hl2 := hl
  obtain ⟨n, hn⟩ : ∃ n, L.length = n := ⟨_, rfl⟩
  have HN := Lib.hid hn
  rw [hn] at hl HZ ⊢
  clear h hn
  refine (callsIn_wide (n := 6)).1 ?_
  refine callsIn_of_wp_marks Try.func25 rfl trivial ?_ rfl
  simp only [Try.ntmps25, List.size_toArray, List.length_cons, List.length_nil, Nat.reduceAdd, Nat.reduceSub, Array.replicate_succ, Array.replicate_zero, List.push_toArray, List.append_toArray, List.nil_append, List.cons_append]
  refine wpIn_wide.2 ?_
  go_wp2_with fail
  with_reducible refine (clone_r HZ.out hl2).mono ?_
  rintro e w1 ⟨v1, rfl, R1, g1⟩
  obtain ⟨ra, rc, rfl⟩ := R1.len
  have hv1 := R1.lt
  have HR1 := Lib.hid R1
  have hs1 := g1.size
  rw [HN.out] at HR1 hv1 ⊢
  clear R1
  go_upto_region 2 with fail
  go_wp2_with fail
  with_reducible refine (entries_p _ _ _ _ _).mono ?_
  rintro e w2 ⟨rfl, rfl⟩
  have OV := ((Mine.Own.new w1 26 #[.slice ra n rc]).alloc (.cells #[.slice a n c] 26)).alloc (.cells #[.int .i64 f] 3)
  have O1 := (Mine.Own.new (w1.alloc (.cells #[.slice ra n rc] 26)) 26 #[.slice a n c]).alloc (.cells #[.int .i64 f] 3)
  have O2 := Mine.Own.new ((w1.alloc (.cells #[.slice ra n rc] 26)).alloc (.cells #[.slice a n c] 26)) 3 #[.int .i64 f]
  have GX := ((((Grew.refl w1).alloc (.cells #[.slice ra n rc] 26)).alloc (.cells #[.slice a n c] 26)).alloc (.cells #[.int .i64 f] 3))
  have hz1 : (w1.alloc (.cells #[.slice ra n rc] 26)).heap.size = w1.heap.size + 1 := by simp
  have hz2 : ((w1.alloc (.cells #[.slice ra n rc] 26)).alloc (.cells #[.slice a n c] 26)).heap.size = w1.heap.size + 1 + 1 := by simp
  have hz3 : (((w1.alloc (.cells #[.slice ra n rc] 26)).alloc (.cells #[.slice a n c] 26)).alloc (.cells #[.int .i64 f] 3)).heap.size = w1.heap.size + 3 := by simp
  rw [hz1] at O1
  rw [hz2] at O2
  try rw [hz1]
  generalize World.alloc (World.alloc (World.alloc w1 _) _) _ = w2 at *
  clear hz1 hz2
  have G := g1.trans GX
  have R2 := HR1.out.grew GX
  obtain ⟨vb, hvb⟩ : ∃ vb, w1.heap.size = vb := ⟨_, rfl⟩
  rw [hvb] at OV O1 O2 hz3 hv1 hs1 ⊢
  clear GX g1 HR1 hvb
  go_wp2_with fail
  refine wpIn_wide.1 (wpIn_rangeAt (n := 6) rfl (by decide) (gf := 45) (lb := #[.pointer (some ⟨vb + 1, 0, none⟩), .pointer (some ⟨vb + 1 + 1, 0, none⟩)]) rfl trivial (enters_of Try.func45 (by kernel_rfl) rfl)
    (entries_at (w0 := w) (B := B) (L := L) (f := f) (bs := vb + 1) HZ.out hl2 G O1 O2) kpE_t (kpE_b (by omega) (by omega)) (fun _ => rfl)
    (PrI w 26 30 vb (.slice ra n rc) (prX f) L) (prI_own (by omega)) ?skip ⟨OV, R2, G, by omega⟩ (PrM w 26 30 vb (.slice ra n rc) (prX f) L) (prM_own (by omega)) ?assign ?body ?done)
  case skip =>
    rintro i W hi hh ⟨h1, h2, h3⟩
    exact ⟨h1, by rw [mixT_skip (Nat.lt_of_lt_of_le hi (nE_le L)) (prX_miss (htE_0 hh))]; exact h2, h3⟩
  case assign =>
    rintro l i W K hi hh hI hK
    revert hK
    unfold encE PrM
    dsimp only
    generalize L.getD i zT = d
    intro hK
    gi_wp2
    exact hK _ _ (KeepsFrom.refl _ _) (kpE_refl _ _ _) ⟨_, _, _, _, _, _, _, _, _, _, _, _, _, _, _, _, _, hI, rfl⟩
  case body =>
    rintro l i a' W hi hh ⟨u0, u1, u2, u3, u4, u7, u8, u9, u10, u11, u12, u13, u14, u15, u16, u17, u18, ⟨h1, h2, h3, h4⟩, rfl⟩
    have hiL := Nat.lt_of_lt_of_le hi (nE_le L)
    have HS := Lib.hid (mixT_step (g := prX f) hiL)
    have hML : (mixT (prX f) L i).length = L.length := mixT_len _ _ _
    have HD := Lib.hid (mixT_get (g := prX f) (Nat.le_refl i) hiL)
    have HP := Lib.hid (prX_hit (htE_1 hh))
    have hiL2 : i < n := by rw [← HN.out]; exact hiL
    generalize L.getD i zT = d at *
    obtain ⟨M, hM⟩ : ∃ M, mixT (prX f) L i = M := ⟨_, rfl⟩
    rw [hM] at HS h2 HD hML
    have hiM : i < M.length := by rw [hML]; exact hiL
    rcases h2.shape encT_len with ⟨e9, -⟩ | ⟨gr, cap, e9, hBg, hg, -, -, -, hfr⟩
    · injection e9 with e8 e9 e10; omega
    · injection e9 with e8 e9 e10
      subst e8 e10
      have hgv := hv1 gr rfl
      have f0 := hfr (i * 5 + 3)
      obtain ⟨gq, oq, e7, -, -, y0, y1, y2, y3, y4⟩ := (RowE.rdS encT_len h2).atT hiM
      injection e7 with e7
      injection e7 with e7 e6
      subst e7 e6
      rw [Nat.zero_add] at y3
      have hi0 : (0 : Int) ≤ (i : Int) := by omega
      have hi1 : (i : Int) < (n : Int) := by omega
      have HR := Lib.hid (h2.put1T hiM 3 (by decide) (.bool false) (prX f d) (by rw [HD.out, HP.out]; rfl))
      have HV := Lib.hid (h1.far (p := ⟨gr, i * 5 + 3, none⟩) (show vb ≠ gr by omega) (.bool false))
      have HT := Lib.hid ((TrE.refl w.heap.size (vb + 1) W).set (p := ⟨gr, i * 5 + 3, none⟩) (.bool false) (show w.heap.size ≤ gr from hBg) (show gr ≠ vb + 1 by omega) (show gr ≠ vb + 1 + 1 by omega))
      have HG := Lib.hid (h3.set (p := ⟨gr, i * 5 + 3, none⟩) hBg (.bool false))
      obtain ⟨v0, v1⟩ := h1.one
      clear h1 h3 hfr hM hh hi HN hiL y0 y1 y2 y4 HD HP e9 hML
      gi_wp2
      exact ⟨KeepsOthers.from HT.out.1 _, HT.out.2, HV.out, by rw [HS.out]; exact HR.out, HG.out, by show _ ≤ (W.setCell _ _).heap.size; simp [World.setCell]; omega⟩
  case done =>
    rintro D W hD ⟨h1, h2, h3, h4⟩ hK
    rw [mixT_end] at h2
    have HR := Lib.hid h2
    have HG := Lib.hid h3
    obtain ⟨v0, v1⟩ := h1.one
    clear h1 h2 h3
    go_wp2
    refine ⟨by simp, .inl ⟨_, _, rfl, run_takeDeferred hK, .slice ra n rc, by simp [results, Try.results25, go_sem], _, rfl, ?_, grew_putT HG.out _ (by omega)⟩⟩
    exact RowE.rdS encT_len (rowT_by HR.out (grownBy_putObj' W D (.deferred none)) (fun q e => by injection e with e; subst e; exact ⟨_, hK, rfl⟩))
set_option maxRecDepth 100000 in
set_option maxHeartbeats 4000000 in
theorem young_p {B : Nat} {v : Value} {L : List Pt} {f : Int} {w : World} (h : RdS 5 encT w B v L) (hl : L.length ≤ 1000) : Calls Try.prog 14 #[v, .int .i64 f] w (RetPtB w.heap.size (yngT L f) w) := by
  obtain ⟨a, c, rfl, -, -⟩ := h.slice
  have HZ := Lib.hid h
  have hl2 := hl
  obtain ⟨n, hn⟩ : ∃ n, L.length = n := ⟨_, rfl⟩
  have HN := Lib.hid hn
  rw [hn] at hl HZ ⊢
  clear h hn
  refine (callsIn_wide (n := 6)).1 ?_
  refine callsIn_of_wp_marks Try.func14 rfl trivial ?_ rfl
  simp only [Try.ntmps14, List.size_toArray, List.length_cons, List.length_nil, Nat.reduceAdd, Nat.reduceSub, Array.replicate_succ, Array.replicate_zero, List.push_toArray, List.append_toArray, List.nil_append, List.cons_append]
  refine wpIn_wide.2 ?_
  go_wp2_with fail
  with_reducible refine (clone_r HZ.out hl2).mono ?_
  rintro e w1 ⟨v1, rfl, R1, g1⟩
  obtain ⟨ra, rc, rfl⟩ := R1.len
  have hv1 := R1.lt
  have HR1 := Lib.hid R1
  have hs1 := g1.size
  rw [HN.out] at HR1 hv1 ⊢
  clear R1
  go_upto_region 3 with fail
  go_wp2_with fail
  with_reducible refine (entries_p _ _ _ _ _).mono ?_
  rintro e w2 ⟨rfl, rfl⟩
  have OV := (((Mine.Own.new w1 26 #[.slice ra n rc]).alloc (.cells #[.bool false] 4)).alloc (.cells #[.slice a n c] 26)).alloc (.cells #[.int .i64 f] 3)
  have OA := ((Mine.Own.new (w1.alloc (.cells #[.slice ra n rc] 26)) 4 #[.bool false]).alloc (.cells #[.slice a n c] 26)).alloc (.cells #[.int .i64 f] 3)
  have O1 := (Mine.Own.new ((w1.alloc (.cells #[.slice ra n rc] 26)).alloc (.cells #[.bool false] 4)) 26 #[.slice a n c]).alloc (.cells #[.int .i64 f] 3)
  have O2 := Mine.Own.new (((w1.alloc (.cells #[.slice ra n rc] 26)).alloc (.cells #[.bool false] 4)).alloc (.cells #[.slice a n c] 26)) 3 #[.int .i64 f]
  have GX := (((((Grew.refl w1).alloc (.cells #[.slice ra n rc] 26)).alloc (.cells #[.bool false] 4)).alloc (.cells #[.slice a n c] 26)).alloc (.cells #[.int .i64 f] 3))
  have hz0 : (w1.alloc (.cells #[.slice ra n rc] 26)).heap.size = w1.heap.size + 1 := by simp
  have hz1 : ((w1.alloc (.cells #[.slice ra n rc] 26)).alloc (.cells #[.bool false] 4)).heap.size = w1.heap.size + 2 := by simp
  have hz2 : (((w1.alloc (.cells #[.slice ra n rc] 26)).alloc (.cells #[.bool false] 4)).alloc (.cells #[.slice a n c] 26)).heap.size = w1.heap.size + 2 + 1 := by simp
  have hz3 : ((((w1.alloc (.cells #[.slice ra n rc] 26)).alloc (.cells #[.bool false] 4)).alloc (.cells #[.slice a n c] 26)).alloc (.cells #[.int .i64 f] 3)).heap.size = w1.heap.size + 4 := by simp
  rw [hz0] at OA
  rw [hz1] at O1
  rw [hz2] at O2
  try rw [hz1]
  generalize World.alloc (World.alloc (World.alloc (World.alloc w1 _) _) _) _ = w2 at *
  clear hz1 hz2 hz0
  have G := g1.trans GX
  have R2 := HR1.out.grew GX
  obtain ⟨vb, hvb⟩ : ∃ vb, w1.heap.size = vb := ⟨_, rfl⟩
  rw [hvb] at OV OA O1 O2 hz3 hv1 hs1 ⊢
  clear GX g1 HR1 hvb
  go_wp2_with fail
  refine wpIn_wide.1 (wpIn_rangeAt (n := 6) rfl (by decide) (gf := 45) (lb := #[.pointer (some ⟨vb + 2, 0, none⟩), .pointer (some ⟨vb + 2 + 1, 0, none⟩)]) rfl trivial (enters_of Try.func45 (by kernel_rfl) rfl)
    (entries_at (w0 := w) (B := B) (L := L) (f := f) (bs := vb + 2) HZ.out hl2 G O1 O2) kpE_t (kpE_b (by omega) (by omega)) (fun _ => rfl)
    (YoI w 26 30 4 vb (.slice ra n rc) f L) (yoI_own (by omega)) ?skip ⟨OV, OA, R2, G, by omega⟩ (YoM w 26 30 4 vb (.slice ra n rc) f L) (yoM_own (by omega)) ?assign ?body ?done)
  case skip =>
    rintro i W hi hh ⟨h1, h5, h2, h3⟩
    exact ⟨h1, by rw [acT_miss (Nat.lt_of_lt_of_le hi (nE_le L)) hh]; exact h5, by rw [mixT_skip (Nat.lt_of_lt_of_le hi (nE_le L)) (yoX_miss (htE_0 hh))]; exact h2, h3⟩
  case assign =>
    rintro l i W K hi hh ⟨h1, h5, h2, h3, h4⟩ hK
    have hs := h3.size
    revert hK
    unfold encE YoM
    dsimp only
    generalize L.getD i zT = d
    intro hK
    gi_wp2
    exact hK _ _ ((KeepsOthers.alloc _ _).from _) ((TrE.refl w.heap.size (vb + 2) W).grew ((Grew.refl W).alloc _) hs (by omega)).2 ⟨W.heap.size, _, _, _, _, _, _, _, _, _, _, _, _, _, _, _, _, _, _, _, _, _, _, _, _, h4, Mine.Own.new W _ _, ⟨h1.alloc _, h5.alloc _, h2.alloc _, h3.alloc _, by simp; omega⟩, rfl⟩
  case body =>
    rintro l i a' W hi hh ⟨bx, u0, u1, u2, u3, u4, u5, u10, u11, u12, u13, u14, u15, u16, u17, u18, u19, u20, u21, u22, u23, u24, u25, u26, u27, hbx, OX, ⟨h1, h5, h2, h3, h4⟩, rfl⟩
    have hiL := Nat.lt_of_lt_of_le hi (nE_le L)
    have HS := Lib.hid (mixT_step (g := yoX f) hiL)
    have hML : (mixT (yoX f) L i).length = L.length := mixT_len _ _ _
    have HD := Lib.hid (mixT_get (g := yoX f) (Nat.le_refl i) hiL)
    have HP := Lib.hid (yoX_hit (htE_1 hh))
    have HA := Lib.hid (acT_hit hiL hh)
    have hiL2 : i < n := by rw [← HN.out]; exact hiL
    generalize L.getD i zT = d at *
    obtain ⟨M, hM⟩ : ∃ M, mixT (yoX f) L i = M := ⟨_, rfl⟩
    rw [hM] at HS h2 HD hML
    obtain ⟨ac, hac⟩ : ∃ b, acT L f i = b := ⟨_, rfl⟩
    rw [hac] at HA h5
    have hiM : i < M.length := by rw [hML]; exact hiL
    rcases h2.shape encT_len with ⟨e9, -⟩ | ⟨gr, cap, e9, hBg, hg, -, -, -, hfr⟩
    · injection e9 with e8 e9 e10; omega
    · injection e9 with e8 e9 e10
      subst e8 e10
      have hgv := hv1 gr rfl
      have hN1 : ¬gr = vb + 1 := by omega
      have f0 := hfr (i * 5 + 4)
      obtain ⟨gq, oq, e7, -, -, y0, y1, y2, y3, y4⟩ := (RowE.rdS encT_len h2).atT hiM
      injection e7 with e7
      injection e7 with e7 e6
      subst e7 e6
      rw [Nat.zero_add] at y4
      obtain ⟨x0, x1, x2, x3, x4⟩ := OX.fiveT
      have hi0 : (0 : Int) ≤ (i : Int) := by omega
      have hi1 : (i : Int) < (n : Int) := by omega
      have HE : Hid ((ac || d.a) = acT L f (i + 1)) := Lib.hid HA.out.symm
      have HV2 := Lib.hid (h1.far (p := ⟨vb + 1, 0, none⟩) (show vb ≠ vb + 1 by omega) (.bool (acT L f (i + 1))))
      have HB2 := Lib.hid (h5.set 0 (.bool (acT L f (i + 1))))
      have HR2 := Lib.hid (h2.set (p := ⟨vb + 1, 0, none⟩) (fun e => hN1 (by injection e)) (.bool (acT L f (i + 1))))
      have HT2 := Lib.hid ((TrE.refl w.heap.size (vb + 2) W).set (p := ⟨vb + 1, 0, none⟩) (.bool (acT L f (i + 1))) (show w.heap.size ≤ vb + 1 by omega) (show vb + 1 ≠ vb + 2 by omega) (show vb + 1 ≠ vb + 2 + 1 by omega))
      have HG2 := Lib.hid (h3.set (p := ⟨vb + 1, 0, none⟩) (show w.heap.size ≤ vb + 1 by omega) (.bool (acT L f (i + 1))))
      have HR := Lib.hid (HR2.out.put1T hiM 4 (by decide) (.bool false) (yoX f d) (by rw [HD.out, HP.out]; rfl))
      have HV := Lib.hid (HV2.out.far (p := ⟨gr, i * 5 + 4, none⟩) (show vb ≠ gr by omega) (.bool false))
      have HB := Lib.hid (HB2.out.far (p := ⟨gr, i * 5 + 4, none⟩) (show vb + 1 ≠ gr by omega) (.bool false))
      have HT := Lib.hid (HT2.out.set (p := ⟨gr, i * 5 + 4, none⟩) (.bool false) (show w.heap.size ≤ gr from hBg) (show gr ≠ vb + 2 by omega) (show gr ≠ vb + 2 + 1 by omega))
      have HG := Lib.hid (HG2.out.set (p := ⟨gr, i * 5 + 4, none⟩) hBg (.bool false))
      obtain ⟨ac2, hac2⟩ : ∃ b, acT L f (i + 1) = b := ⟨_, rfl⟩
      rw [hac2] at HE HV2 HB2 HR2 HT2 HG2 HR HV HB HT HG
      have HAC := Lib.hid hac2
      clear hac2
      obtain ⟨v0, v1⟩ := h1.one
      obtain ⟨b0, b1⟩ := h5.one
      have hs2 := HR2.out.shape encT_len
      have z0 := far_cell (b := vb + 1) (g := gr) (i := 0) (v := .bool ac2) (fun e => hN1 e.symm) y4
      have z1 : (W.setCell ⟨vb + 1, 0, none⟩ (.bool ac2)).cell? ⟨vb, 0, none⟩ = some (.slice (some ⟨gr, 0, none⟩) n rc) := HV2.out.one.1
      have z2 : (W.setCell ⟨vb + 1, 0, none⟩ (.bool ac2)).frozen? ⟨gr, i * 5 + 4, none⟩ = false := by rw [World.frozen?_setCell]; exact f0
      clear h1 h3 h5 hfr hM hh hi HN hiL y0 y1 y2 y3 HD HP HA hs2 hac OX HV2 HB2 HR2 HT2 HG2 e9 hML
      cases ac
      · have e4 : d.a = ac2 := by simpa using HE.out
        gi_wp2
        exact ⟨KeepsOthers.from HT.out.1 _, HT.out.2, HV.out, by rw [HAC.out]; exact HB.out, by rw [HS.out]; exact HR.out, HG.out, by show _ ≤ (World.setCell _ _ _).heap.size; simp [World.setCell]; omega⟩
      · have e4 : ac2 = true := by simpa using HE.out.symm
        subst e4
        gi_wp2
        exact ⟨KeepsOthers.from HT.out.1 _, HT.out.2, HV.out, by rw [HAC.out]; exact HB.out, by rw [HS.out]; exact HR.out, HG.out, by show _ ≤ (World.setCell _ _ _).heap.size; simp [World.setCell]; omega⟩
  case done =>
    rintro D W hD ⟨h1, h5, h2, h3, h4⟩ hK
    rw [mixT_end] at h2
    have HX : Hid (yngT L f = (match okT L with | true => L.map (yoX f) | false => L, acT L f (nE L))) := Lib.hid (by rw [← acT_end]; unfold yngT; cases okT L <;> rfl)
    have HR := Lib.hid h2
    have HG := Lib.hid h3
    obtain ⟨v0, v1⟩ := h1.one
    obtain ⟨b0, b1⟩ := h5.one
    generalize acT L f (nE L) = ac2 at *
    clear h1 h2 h3 h5
    go_wp2_with fail
    go_region
    go_wp2
    have hKd : W.drew.heap[D]? = some (.deferred (some [])) := hK
    refine ⟨by simp, .inl ⟨_, _, rfl, run_takeDeferred hKd, .tuple #[.slice ra n rc, .bool ac2], by simp [results, Try.results14, go_sem], _, by rw [HX.out], ?_, grew_putT HG.out.drew _ (by omega)⟩⟩
    rw [HX.out]
    exact RowE.rdS encT_len (rowT_by HR.out.drew (grownBy_putObj' W.drew D (.deferred none)) (fun q e => by injection e with e; subst e; exact ⟨_, hKd, rfl⟩))
end Go.Proofs.Ytjkkhfionmdmpaa
