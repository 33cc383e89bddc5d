/- Page tables (layer 17): Drop of the program. -/
import Derived.Test.YtjkkhfionmdmpaaPt7
namespace Go.Mine
open Go Go.RowKit
def drL (L : List Pt) (f : Int) (k : Nat) : List Pt := (L.take k).filter fun x => !decide (x.f = f)
theorem drL_len (L : List Pt) (f : Int) (k : Nat) : (drL L f k).length ≤ k := by
  refine Nat.le_trans (List.length_filter_le _ _) ?_
  rw [List.length_take]; omega
theorem drL_more {L : List Pt} {f : Int} {k i : Nat} (hki : k ≤ i) (hi : i ≤ L.length) (h : ∀ j, k ≤ j → j < i → htE L f j = false) : drL L f k ++ (L.take i).drop k = drL L f i := by
  unfold drL
  have e : L.take i = L.take k ++ (L.take i).drop k := by
    conv => lhs; rw [← List.take_append_drop k (L.take i), List.take_take, Nat.min_eq_left hki]
  conv => rhs; rw [e, List.filter_append]
  congr 1
  refine (List.filter_eq_self.2 fun x hx => ?_).symm
  obtain ⟨j, hj, rfl⟩ := List.mem_iff_getElem.1 hx
  rw [List.length_drop, List.length_take] at hj
  have h2 := h (k + j) (by omega) (by omega)
  unfold htE at h2
  rw [List.getElem_drop, List.getElem_take, ← tD (by omega), h2]
  rfl
theorem drL_hit {L : List Pt} {f : Int} {i : Nat} (hi : i < L.length) (h : htE L f i = true) : drL L f (i + 1) = drL L f i := by
  unfold drL
  rw [take_succT hi, List.filter_append, List.filter_cons_of_neg (by unfold htE at h; rw [h]; decide)]
  exact List.append_nil _
theorem drp_eq {L : List Pt} {f : Int} {k : Nat} (hk : k ≤ nE L) (h : ∀ j, k ≤ j → j < nE L → htE L f j = false) : drL L f k ++ L.drop k = drpT L f := by
  unfold drpT
  cases ho : okT L
  · rw [nE_0 ho] at hk
    have : k = 0 := by omega
    subst this
    rfl
  · rw [nE_1 ho] at hk h
    have := drL_more hk (Nat.le_refl _) h
    rw [List.take_length] at this
    rw [this]
    unfold drL
    rw [List.take_length]
/-- A cut slice. -/
theorem RdS.cutT {w : World} {B : Nat} {a : Option Addr} {n c k i : Nat} {L : List Pt} (h : RdS 5 encT w B (.slice a n c) L) (hk : k ≤ i) (hi : i ≤ L.length) : RdS 5 encT w B (.slice (if c = k then a else a.map (·.add (k * 5))) (i - k) (c - k)) ((L.take i).drop k) := by
  obtain ⟨hn, hc, hm⟩ := h.slen
  have hnil : i = k → RdS 5 encT w B (.slice (if c = k then a else a.map (·.add (k * 5))) (i - k) (c - k)) ((L.take i).drop k) := fun e => by
    rw [show i - k = 0 by omega, List.drop_eq_nil_of_le (by rw [List.length_take]; omega)]
    exact RdS.nil _ _ _ _ (by omega)
  by_cases e : i = k
  · exact hnil e
  · obtain ⟨g, o, rfl, -, -, -⟩ := h.atT (k := k) (by omega)
    rw [if_neg (by omega)]
    have h2 := (h.take hi).drop (k := k) (by rw [List.length_take]; omega)
    simpa [Addr.add_lit] using h2
theorem lies_len {w : World} {B : Nat} {a : Option Addr} {n c : Nat} {L : List Pt} (h : RdS 5 encT w B (.slice a n c) L) : n = L.length ∧ Lies encT w a L := ⟨h.slen.1, (h.lies encT_len).2.2⟩
/-- Between two rounds of Drop. -/
def DrI (w : World) (TS TP TI : TypeId) (v : Value) (L : List Pt) (f : Int) (vl i : Nat) (W : World) : Prop := ∃ r k, k ≤ i ∧ (∀ j, k ≤ j → j < i → htE L f j = false) ∧ Own W vl TS #[v] ∧ Own W (vl + 1) TS #[r] ∧ Own W (vl + 2) TI #[.int .i64 (k : Nat)] ∧ RowE TP 5 encT W (vl + 5) r (drL L f k) ∧ Grew w W ∧ vl + 5 ≤ W.heap.size
def DrM (w : World) (TS TP TI : TypeId) (v : Value) (L : List Pt) (f : Int) (vl i : Nat) (a' : Act) (W : World) : Prop := ∃ u0 u1 u3 u4 u8 u9 u10 u11 u12 u13 u14 u15 u16 u17 u18 u19 u20 u21 u22 u23 u24 u25, DrI w TS TP TI v L f vl i W ∧ a' = { tmps := #[u0, u1, .pointer (some ⟨vl, 0, none⟩), u3, u4, .pointer (some ⟨vl + 1, 0, none⟩), .pointer (some ⟨vl + 2, 0, none⟩), .int .i64 (i : Int), u8, u9, u10, u11, u12, u13, u14, u15, u16, u17, u18, u19, u20, u21, u22, u23, u24, u25], defers := [] }
theorem drI_own {w : World} {TS TP TI : TypeId} {v : Value} {L : List Pt} {f : Int} {vl B : Nat} (hB : w.heap.size ≤ B) : OwnFrom B (DrI w TS TP TI v L f vl) := by
  rintro i W W' r ⟨rv, k, h1, h2, h3, h4, h5, h6, h7, h8⟩ g hr
  have hr2 := fun q e => (hr q e).2
  exact ⟨rv, k, h1, h2, own_by h3 g hr2, own_by h4 g hr2, own_by h5 g hr2, rowT_by h6 g hr2, h7.keptA g (fun x e => (hr x e).1) hB, Nat.le_trans h8 g.size⟩
theorem drM_own {w : World} {TS TP TI : TypeId} {v : Value} {L : List Pt} {f : Int} {vl B : Nat} (hB : w.heap.size ≤ B) (a' : Act) : OwnFrom B (fun i W => DrM w TS TP TI v L f vl i a' W) := by
  rintro i W W' r ⟨u0, u1, u3, u4, u8, u9, u10, u11, u12, u13, u14, u15, u16, u17, u18, u19, u20, u21, u22, u23, u24, u25, h, e⟩ g hr
  exact ⟨u0, u1, u3, u4, u8, u9, u10, u11, u12, u13, u14, u15, u16, u17, u18, u19, u20, u21, u22, u23, u24, u25, drI_own hB i W W' r h g hr, e⟩
end Go.Mine
namespace Go.Proofs.Ytjkkhfionmdmpaa
open Go.RowKit Go.Mine Go.Shelf
attribute [local go_sem] Oper.semAt_some
theorem run_slcT (w : World) (a : Option Addr) (n c k i : Nat) (hk : k ≤ i) (hi : i ≤ c) : (Instr.slice 26 (.slice a n c) (some (.int .i64 (k : Nat))) (some (.int .i64 (i : Nat))) none).run Try.prog w = .ok (.slice (if c = k then a else a.map (·.add (k * 5))) (i - k) (c - k)) w := by
  have hu := run_underlying (w := w) Try.underlying26
  simp [Instr.slice, Instr.sliceBounds, Instr.sliceBound, asIntOf, hu, hk, hi, Try.sizeOf30, Result.andThen]
theorem run_slcE (w : World) (a : Option Addr) (n c k : Nat) (hk : k ≤ n) : (Instr.slice 26 (.slice a n c) (some (.int .i64 (k : Nat))) none none).run Try.prog w = .ok (.slice (if c = k then a else a.map (·.add (k * 5))) (n - k) (c - k)) w := by
  have hu := run_underlying (w := w) Try.underlying26
  simp [Instr.slice, Instr.sliceBounds, Instr.sliceBound, asIntOf, hu, hk, Try.sizeOf30, Result.andThen]
set_option maxRecDepth 100000 in
set_option maxHeartbeats 4000000 in
theorem drop_p {B : Nat} {v : Value} {L : List Pt} {f : Int} {w : World} (h : RdS 5 encT w B v L) (hl : L.length ≤ 1000) : Calls Try.prog 23 #[v, .int .i64 f] w (RetPt (drpT L f) w) := by
  obtain ⟨a, c, rfl, -, -⟩ := h.slice
  have hcc := h.slen
  have HZ := Lib.hid h
  have hl2 := hl
  obtain ⟨n, hn⟩ : ∃ n, L.length = n := ⟨_, rfl⟩
  have HN := Lib.hid hn
  rw [hn] at hl HZ hcc ⊢
  obtain ⟨-, hnc, hcm⟩ := hcc
  clear h hn
  refine (callsIn_wide (n := 6)).1 ?_
  refine callsIn_of_wp_marks Try.func23 rfl trivial ?_ rfl
  simp only [Try.ntmps23, List.size_toArray, List.length_cons, List.length_nil, Nat.reduceAdd, Nat.reduceSub, Array.replicate_succ, Array.replicate_zero, List.push_toArray, List.append_toArray, List.nil_append, List.cons_append]
  refine wpIn_wide.2 ?_
  go_upto_region 3 with fail
  go_wp2_with fail
  with_reducible refine (entries_p _ _ _ _ _).mono ?_
  rintro e w2 ⟨rfl, rfl⟩
  have OL := (((((Mine.Own.new w 26 #[.slice a n c]).alloc (.cells #[.slice none 0 0] 26)).alloc (.cells #[.int .i64 0] 3)).alloc (.cells #[.slice a n c] 26)).alloc (.cells #[.int .i64 f] 3))
  have OV := ((((Mine.Own.new (w.alloc (.cells #[.slice a n c] 26)) 26 #[.slice none 0 0]).alloc (.cells #[.int .i64 0] 3)).alloc (.cells #[.slice a n c] 26)).alloc (.cells #[.int .i64 f] 3))
  have OK := (((Mine.Own.new ((w.alloc (.cells #[.slice a n c] 26)).alloc (.cells #[.slice none 0 0] 26)) 3 #[.int .i64 0]).alloc (.cells #[.slice a n c] 26)).alloc (.cells #[.int .i64 f] 3))
  have O1 := ((Mine.Own.new (((w.alloc (.cells #[.slice a n c] 26)).alloc (.cells #[.slice none 0 0] 26)).alloc (.cells #[.int .i64 0] 3)) 26 #[.slice a n c]).alloc (.cells #[.int .i64 f] 3))
  have O2 := (Mine.Own.new ((((w.alloc (.cells #[.slice a n c] 26)).alloc (.cells #[.slice none 0 0] 26)).alloc (.cells #[.int .i64 0] 3)).alloc (.cells #[.slice a n c] 26)) 3 #[.int .i64 f])
  have G := ((((((Grew.refl w).alloc (.cells #[.slice a n c] 26)).alloc (.cells #[.slice none 0 0] 26)).alloc (.cells #[.int .i64 0] 3)).alloc (.cells #[.slice a n c] 26)).alloc (.cells #[.int .i64 f] 3))
  have hz1 : (w.alloc (.cells #[.slice a n c] 26)).heap.size = w.heap.size + 1 := by simp
  have hz2 : ((w.alloc (.cells #[.slice a n c] 26)).alloc (.cells #[.slice none 0 0] 26)).heap.size = w.heap.size + 2 := by simp
  have hz3 : (((w.alloc (.cells #[.slice a n c] 26)).alloc (.cells #[.slice none 0 0] 26)).alloc (.cells #[.int .i64 0] 3)).heap.size = w.heap.size + 3 := by simp
  have hz4 : ((((w.alloc (.cells #[.slice a n c] 26)).alloc (.cells #[.slice none 0 0] 26)).alloc (.cells #[.int .i64 0] 3)).alloc (.cells #[.slice a n c] 26)).heap.size = w.heap.size + 3 + 1 := by simp
  have hz5 : (((((w.alloc (.cells #[.slice a n c] 26)).alloc (.cells #[.slice none 0 0] 26)).alloc (.cells #[.int .i64 0] 3)).alloc (.cells #[.slice a n c] 26)).alloc (.cells #[.int .i64 f] 3)).heap.size = w.heap.size + 5 := by simp
  rw [hz1] at OV
  rw [hz2] at OK
  rw [hz3] at O1
  rw [hz4] at O2
  try rw [hz3]
  generalize World.alloc (World.alloc (World.alloc (World.alloc (World.alloc w _) _) _) _) _ = w2 at *
  obtain ⟨vl, hvl⟩ : ∃ vl, w.heap.size = vl := ⟨_, rfl⟩
  have hvw : w.heap.size ≤ vl := by omega
  rw [hvl] at OL OV OK O1 O2 hz5 ⊢
  clear hz1 hz2 hz3 hz4
  have HVL := Lib.hid hvl
  clear hvl
  go_wp2_with fail
  refine wpIn_wide.1 (wpIn_rangeAt (n := 6) rfl (by decide) (gf := 45) (lb := #[.pointer (some ⟨vl + 3, 0, none⟩), .pointer (some ⟨vl + 3 + 1, 0, none⟩)]) rfl trivial (enters_of Try.func45 (by kernel_rfl) rfl)
    (entries_at (w0 := w) (B := B) (L := L) (f := f) (bs := vl + 3) HZ.out hl2 G O1 O2) kpE_t (kpE_b (by omega) (by omega)) (fun _ => rfl)
    (DrI w 26 30 3 (.slice a n c) L f vl) (drI_own (by omega)) ?skip ⟨_, 0, Nat.le_refl _, fun j h1 h2 => by omega, OL, OV, OK, RowE.nil _ _, G, by omega⟩ (DrM w 26 30 3 (.slice a n c) L f vl) (drM_own (by omega)) ?assign ?body ?done)
  case skip =>
    rintro i W hi hh ⟨r, k, h1, h2, h3⟩
    exact ⟨r, k, by omega, fun j h4 h5 => by
      by_cases e : j = i
      · rw [e]; exact hh
      · exact h2 j h4 (by omega), h3⟩
  case assign =>
    rintro l i W K hi hh hI hK
    revert hK
    unfold encE DrM
    dsimp only
    generalize L.getD i zT = d
    intro hK
    gi_wp2
    exact hK _ _ (KeepsFrom.refl _ _) (kpE_refl _ _ _) ⟨_, _, _, _, _, _, _, _, _, _, _, _, _, _, _, _, _, _, _, _, _, _, hI, rfl⟩
  case body =>
    rintro l i a' W hi hh ⟨u0, u1, u3, u4, u8, u9, u10, u11, u12, u13, u14, u15, u16, u17, u18, u19, u20, u21, u22, u23, u24, u25, ⟨rv, k, hki, hno, h1, h2, h3, h4, h5, h6⟩, rfl⟩
    have hiL := Nat.lt_of_lt_of_le hi (nE_le L)
    have HM2 := Lib.hid ((drL_hit hiL hh).trans (drL_more hki (Nat.le_of_lt hiL) hno).symm)
    have hfl := drL_len L f k
    have hiL2 : i < n := by rw [← HN.out]; exact hiL
    have hRd := (HZ.out.grew h5).cutT hki (Nat.le_of_lt hiL)
    obtain ⟨hXl, hXL⟩ := lies_len hRd
    have hsl := fun w => run_slcT w a n c k i hki (by omega)
    obtain ⟨xa, hxa⟩ : ∃ xa, (if c = k then a else a.map (·.add (k * 5))) = xa := ⟨_, rfl⟩
    rw [hxa] at hXL hsl
    obtain ⟨X, hX⟩ : ∃ X, (L.take i).drop k = X := ⟨_, rfl⟩
    rw [hX] at hXL hXl HM2
    rw [hXl] at hsl
    have hXb : X.length ≤ 1000 := by omega
    clear hXl
    have HL := Lib.hid hXL
    obtain ⟨M, hM⟩ : ∃ M, drL L f k = M := ⟨_, rfl⟩
    rw [hM] at HM2 h4 hfl
    obtain ⟨ra, rc, rfl⟩ := h4.len
    obtain ⟨rv, hrv⟩ : ∃ rv, Value.slice ra M.length rc = rv := ⟨_, rfl⟩
    rw [hrv] at h2 h4
    have hs := h5.size
    have HR := Lib.hid (show RowE 30 5 encT W.drew (vl + 5) rv M from h4)
    have HV := Lib.hid h2.drew
    have HK := Lib.hid h3.drew
    have HO := Lib.hid h1.drew
    have HG := Lib.hid h5.drew
    have HT := Lib.hid (TrE.refl w.heap.size (vl + 3) W)
    have hz9 : vl + 5 ≤ W.drew.heap.size := h6
    have hx6 : M.length + X.length < 1000000 := by omega
    have HNO := Lib.hid hno
    obtain ⟨l0, l1⟩ := h1.one
    obtain ⟨n0, n1⟩ := h2.one
    obtain ⟨k0, k1⟩ := h3.one
    clear h1 h2 h3 h4 h5 hM hX hxa hXL hRd hh hi hno hrv
    gi_wp2_with fail
    refine region_round (by kernel_rfl) (by kernel_rfl) (fun ⟨_, _, h⟩ => h) ?_
    refine wpAny_take (i := 3) (oi := ⟨some 16, _, _, _, _, _⟩) (v := ?vv1) rfl (by kernel_rfl) (by kernel_rfl) (by kernel_rfl) (fun _ _ _ h => h) (Or.inl ⟨by rfl, ?yy1⟩) ?rr1
    case yy1 => (intro w; go_simp; (try with_reducible rfl))
    try simp only [Act.put, List.setIfInBounds_toArray, List.set_cons_zero, List.set_cons_succ]
    refine wpAny_ready (rs := [0, 1, 2]) (by kernel_rfl) (by simp) ?_
    refine AllReady.cons (o := ⟨some 13, _, _, _, _, _⟩) rfl (fun K hK => ?st29_0) (AllReady.cons (o := ⟨some 14, _, _, _, _, _⟩) rfl (fun K hK => ?st29_1) (AllReady.cons (o := ⟨some 15, _, _, _, _, _⟩) rfl (fun K hK => ?st29_2) AllReady.nil))
    case st29_0 =>
      go_simp
      refine hK _ _ ?_
      clear hK K
      try simp only [Act.put, List.setIfInBounds_toArray, List.set_cons_zero, List.set_cons_succ]
      refine wpAny_ready (rs := [1, 2]) (by kernel_rfl) (by simp) ?_
      refine AllReady.cons (o := ⟨some 14, _, _, _, _, _⟩) rfl (fun K hK => ?st10_0) (AllReady.cons (o := ⟨some 15, _, _, _, _, _⟩) rfl (fun K hK => ?st10_1) AllReady.nil)
      case st10_0 =>
        go_simp
        refine hK _ _ ?_
        clear hK K
        try simp only [Act.put, List.setIfInBounds_toArray, List.set_cons_zero, List.set_cons_succ]
        refine wpAny_ready (rs := [2]) (by kernel_rfl) (by simp) ?_
        refine AllReady.cons (o := ⟨some 15, _, _, _, _, _⟩) rfl (fun K hK => ?st5_0) AllReady.nil
        case st5_0 =>
          go_simp
          refine hK _ _ ?_
          clear hK K
          try simp only [Act.put, List.setIfInBounds_toArray, List.set_cons_zero, List.set_cons_succ]
          refine wpAny_take (i := 4) (oi := ⟨some 17, _, _, _, _, _⟩) (v := ?vv2) rfl (by kernel_rfl) (by kernel_rfl) (by kernel_rfl) (fun _ _ _ h => h) (Or.inl ⟨by rfl, ?yy2⟩) ?rr2
          case yy2 => (intro w; go_simp; (try with_reducible rfl))
          try simp only [Act.put, List.setIfInBounds_toArray, List.set_cons_zero, List.set_cons_succ]
          refine wpAny_ready (rs := [5]) (by kernel_rfl) (by simp) ?_
          refine AllReady.cons (o := ⟨some 18, _, _, _, _, _⟩) rfl (fun K hK => ?st4_0) AllReady.nil
          case st4_0 =>
            refine step_append_src (w := W.drew) (by rfl) (.tmp 13) (.tmp 17) 26 (by rfl) (vl + 5) info_pt Try.underlying26 (by decide) (by decide) encT_len (fun z => encT_one) rv M (by rfl) HR.out xa X.length (c - k) X (by rfl) rfl HL.out hx6 (by decide) hz9 ?_
            intro v5 w5 R5 G5 o5
            have HR5 := Lib.hid R5
            have HG5 := Lib.hid G5
            obtain ⟨a5, q5, c5, rfl⟩ : ∃ a q c, v5 = Value.slice a q c := by obtain ⟨a, c, e⟩ := R5.len; exact ⟨a, _, c, e⟩
            have HV5 := Lib.hid (HV.out.keptN G5 (fun e => by have := HR.out.above _ e; omega))
            have HK5 := Lib.hid (HK.out.keptN G5 (fun e => by have := HR.out.above _ e; omega))
            have HO5 := Lib.hid (HO.out.keptN G5 (fun e => by have := HR.out.above _ e; omega))
            clear R5 G5 o5 l0 l1 n0 n1 k0 k1
            obtain ⟨n0, n1⟩ := HV5.out.one
            refine hK _ _ ?_
            clear hK K
            try simp only [Act.put, List.setIfInBounds_toArray, List.set_cons_zero, List.set_cons_succ]
            refine wpAny_ready (rs := [6]) (by kernel_rfl) (by simp) ?_
            refine AllReady.cons (o := ⟨none, _, _, _, _, _⟩) rfl (fun K hK => ?st3_0) AllReady.nil
            case st3_0 =>
              go_simp
              refine hK _ _ ?_
              clear hK K
              try simp only [Act.put, List.setIfInBounds_toArray, List.set_cons_zero, List.set_cons_succ]
              refine wpAny_done (by kernel_rfl) ?_ _
              have HT5 := Lib.hid ((HT.out.drew.row HR.out HG5.out (by omega) (by omega) (by show w.heap.size ≤ W.heap.size; omega) (by show vl + 3 + 1 < W.heap.size; omega)).set (p := ⟨vl + 1, 0, none⟩) (.slice a5 q5 c5) (show w.heap.size ≤ vl + 1 by omega) (show vl + 1 ≠ vl + 3 by omega) (show vl + 1 ≠ vl + 3 + 1 by omega))
              have HG6 := Lib.hid ((Grew.keptA (B := w.heap.size) HG.out HG5.out (fun x e => by have := HR.out.above x e; omega) (Nat.le_refl _)).set (p := ⟨vl + 1, 0, none⟩) (show w.heap.size ≤ vl + 1 by omega) (.slice a5 q5 c5))
              have HV6 := Lib.hid (HV5.out.set 0 (.slice a5 q5 c5))
              have HK6 := Lib.hid (HK5.out.far (p := ⟨vl + 1, 0, none⟩) (show vl + 2 ≠ vl + 1 by omega) (.slice a5 q5 c5))
              have HO6 := Lib.hid (HO5.out.far (p := ⟨vl + 1, 0, none⟩) (show vl ≠ vl + 1 by omega) (.slice a5 q5 c5))
              have HR6 := Lib.hid (HR5.out.set (p := ⟨vl + 1, 0, none⟩) (fun e => absurd (HR5.out.above (vl + 1) e) (by omega)) (.slice a5 q5 c5))
              have hz6 : vl + 5 ≤ (w5.setCell ⟨vl + 1, 0, none⟩ (.slice a5 q5 c5)).heap.size := by have := HG5.out.size; have h9 : W.drew.heap.size = W.heap.size := rfl; simp [World.setCell]; omega
              clear n0 n1 HR HV HK HO HT HG HR5 HG5 HV5 HK5 HO5
              generalize World.setCell w5 _ _ = w6 at *
              obtain ⟨k0, k1⟩ := HK6.out.one
              gi_wp2
              refine ⟨KeepsOthers.from (HT5.out.set (p := ⟨vl + 2, 0, none⟩) _ (show w.heap.size ≤ vl + 2 by omega) (show vl + 2 ≠ vl + 3 by omega) (show vl + 2 ≠ vl + 3 + 1 by omega)).1 _, (HT5.out.set (p := ⟨vl + 2, 0, none⟩) _ (show w.heap.size ≤ vl + 2 by omega) (show vl + 2 ≠ vl + 3 by omega) (show vl + 2 ≠ vl + 3 + 1 by omega)).2, _, i + 1, Nat.le_refl _, fun j h1 h2 => by omega, HO6.out.far (p := ⟨vl + 2, 0, none⟩) (show vl ≠ vl + 2 by omega) _, HV6.out.far (p := ⟨vl + 2, 0, none⟩) (show vl + 1 ≠ vl + 2 by omega) _, HK6.out.set 0 _, ?_, HG6.out.set (p := ⟨vl + 2, 0, none⟩) (show w.heap.size ≤ vl + 2 by omega) _, by simp [World.setCell]; omega⟩
              rw [HM2.out]
              exact HR6.out.set (p := ⟨vl + 2, 0, none⟩) (fun e => absurd (HR6.out.above (vl + 2) e) (by omega)) _
      case st10_1 =>
        go_simp
        refine hK _ _ ?_
        clear hK K
        try simp only [Act.put, List.setIfInBounds_toArray, List.set_cons_zero, List.set_cons_succ]
        refine wpAny_ready (rs := [1]) (by kernel_rfl) (by simp) ?_
        refine AllReady.cons (o := ⟨some 14, _, _, _, _, _⟩) rfl (fun K hK => ?st9_0) AllReady.nil
        case st9_0 =>
          go_simp
          refine hK _ _ ?_
          clear hK K
          try simp only [Act.put, List.setIfInBounds_toArray, List.set_cons_zero, List.set_cons_succ]
          refine wpAny_take (i := 4) (oi := ⟨some 17, _, _, _, _, _⟩) (v := ?vv6) rfl (by kernel_rfl) (by kernel_rfl) (by kernel_rfl) (fun _ _ _ h => h) (Or.inl ⟨by rfl, ?yy6⟩) ?rr6
          case yy6 => (intro w; go_simp; (try with_reducible rfl))
          try simp only [Act.put, List.setIfInBounds_toArray, List.set_cons_zero, List.set_cons_succ]
          refine wpAny_ready (rs := [5]) (by kernel_rfl) (by simp) ?_
          refine AllReady.cons (o := ⟨some 18, _, _, _, _, _⟩) rfl (fun K hK => ?st8_0) AllReady.nil
          case st8_0 =>
            refine step_append_src (w := W.drew) (by rfl) (.tmp 13) (.tmp 17) 26 (by rfl) (vl + 5) info_pt Try.underlying26 (by decide) (by decide) encT_len (fun z => encT_one) rv M (by rfl) HR.out xa X.length (c - k) X (by rfl) rfl HL.out hx6 (by decide) hz9 ?_
            intro v5 w5 R5 G5 o5
            have HR5 := Lib.hid R5
            have HG5 := Lib.hid G5
            obtain ⟨a5, q5, c5, rfl⟩ : ∃ a q c, v5 = Value.slice a q c := by obtain ⟨a, c, e⟩ := R5.len; exact ⟨a, _, c, e⟩
            have HV5 := Lib.hid (HV.out.keptN G5 (fun e => by have := HR.out.above _ e; omega))
            have HK5 := Lib.hid (HK.out.keptN G5 (fun e => by have := HR.out.above _ e; omega))
            have HO5 := Lib.hid (HO.out.keptN G5 (fun e => by have := HR.out.above _ e; omega))
            clear R5 G5 o5 l0 l1 n0 n1 k0 k1
            obtain ⟨n0, n1⟩ := HV5.out.one
            refine hK _ _ ?_
            clear hK K
            try simp only [Act.put, List.setIfInBounds_toArray, List.set_cons_zero, List.set_cons_succ]
            refine wpAny_ready (rs := [6]) (by kernel_rfl) (by simp) ?_
            refine AllReady.cons (o := ⟨none, _, _, _, _, _⟩) rfl (fun K hK => ?st7_0) AllReady.nil
            case st7_0 =>
              go_simp
              refine hK _ _ ?_
              clear hK K
              try simp only [Act.put, List.setIfInBounds_toArray, List.set_cons_zero, List.set_cons_succ]
              refine wpAny_done (by kernel_rfl) ?_ _
              have HT5 := Lib.hid ((HT.out.drew.row HR.out HG5.out (by omega) (by omega) (by show w.heap.size ≤ W.heap.size; omega) (by show vl + 3 + 1 < W.heap.size; omega)).set (p := ⟨vl + 1, 0, none⟩) (.slice a5 q5 c5) (show w.heap.size ≤ vl + 1 by omega) (show vl + 1 ≠ vl + 3 by omega) (show vl + 1 ≠ vl + 3 + 1 by omega))
              have HG6 := Lib.hid ((Grew.keptA (B := w.heap.size) HG.out HG5.out (fun x e => by have := HR.out.above x e; omega) (Nat.le_refl _)).set (p := ⟨vl + 1, 0, none⟩) (show w.heap.size ≤ vl + 1 by omega) (.slice a5 q5 c5))
              have HV6 := Lib.hid (HV5.out.set 0 (.slice a5 q5 c5))
              have HK6 := Lib.hid (HK5.out.far (p := ⟨vl + 1, 0, none⟩) (show vl + 2 ≠ vl + 1 by omega) (.slice a5 q5 c5))
              have HO6 := Lib.hid (HO5.out.far (p := ⟨vl + 1, 0, none⟩) (show vl ≠ vl + 1 by omega) (.slice a5 q5 c5))
              have HR6 := Lib.hid (HR5.out.set (p := ⟨vl + 1, 0, none⟩) (fun e => absurd (HR5.out.above (vl + 1) e) (by omega)) (.slice a5 q5 c5))
              have hz6 : vl + 5 ≤ (w5.setCell ⟨vl + 1, 0, none⟩ (.slice a5 q5 c5)).heap.size := by have := HG5.out.size; have h9 : W.drew.heap.size = W.heap.size := rfl; simp [World.setCell]; omega
              clear n0 n1 HR HV HK HO HT HG HR5 HG5 HV5 HK5 HO5
              generalize World.setCell w5 _ _ = w6 at *
              obtain ⟨k0, k1⟩ := HK6.out.one
              gi_wp2
              refine ⟨KeepsOthers.from (HT5.out.set (p := ⟨vl + 2, 0, none⟩) _ (show w.heap.size ≤ vl + 2 by omega) (show vl + 2 ≠ vl + 3 by omega) (show vl + 2 ≠ vl + 3 + 1 by omega)).1 _, (HT5.out.set (p := ⟨vl + 2, 0, none⟩) _ (show w.heap.size ≤ vl + 2 by omega) (show vl + 2 ≠ vl + 3 by omega) (show vl + 2 ≠ vl + 3 + 1 by omega)).2, _, i + 1, Nat.le_refl _, fun j h1 h2 => by omega, HO6.out.far (p := ⟨vl + 2, 0, none⟩) (show vl ≠ vl + 2 by omega) _, HV6.out.far (p := ⟨vl + 2, 0, none⟩) (show vl + 1 ≠ vl + 2 by omega) _, HK6.out.set 0 _, ?_, HG6.out.set (p := ⟨vl + 2, 0, none⟩) (show w.heap.size ≤ vl + 2 by omega) _, by simp [World.setCell]; omega⟩
              rw [HM2.out]
              exact HR6.out.set (p := ⟨vl + 2, 0, none⟩) (fun e => absurd (HR6.out.above (vl + 2) e) (by omega)) _
    case st29_1 =>
      go_simp
      refine hK _ _ ?_
      clear hK K
      try simp only [Act.put, List.setIfInBounds_toArray, List.set_cons_zero, List.set_cons_succ]
      refine wpAny_ready (rs := [0, 2]) (by kernel_rfl) (by simp) ?_
      refine AllReady.cons (o := ⟨some 13, _, _, _, _, _⟩) rfl (fun K hK => ?st19_0) (AllReady.cons (o := ⟨some 15, _, _, _, _, _⟩) rfl (fun K hK => ?st19_1) AllReady.nil)
      case st19_0 =>
        go_simp
        refine hK _ _ ?_
        clear hK K
        try simp only [Act.put, List.setIfInBounds_toArray, List.set_cons_zero, List.set_cons_succ]
        refine wpAny_ready (rs := [2]) (by kernel_rfl) (by simp) ?_
        refine AllReady.cons (o := ⟨some 15, _, _, _, _, _⟩) rfl (fun K hK => ?st14_0) AllReady.nil
        case st14_0 =>
          go_simp
          refine hK _ _ ?_
          clear hK K
          try simp only [Act.put, List.setIfInBounds_toArray, List.set_cons_zero, List.set_cons_succ]
          refine wpAny_take (i := 4) (oi := ⟨some 17, _, _, _, _, _⟩) (v := ?vv11) rfl (by kernel_rfl) (by kernel_rfl) (by kernel_rfl) (fun _ _ _ h => h) (Or.inl ⟨by rfl, ?yy11⟩) ?rr11
          case yy11 => (intro w; go_simp; (try with_reducible rfl))
          try simp only [Act.put, List.setIfInBounds_toArray, List.set_cons_zero, List.set_cons_succ]
          refine wpAny_ready (rs := [5]) (by kernel_rfl) (by simp) ?_
          refine AllReady.cons (o := ⟨some 18, _, _, _, _, _⟩) rfl (fun K hK => ?st13_0) AllReady.nil
          case st13_0 =>
            refine step_append_src (w := W.drew) (by rfl) (.tmp 13) (.tmp 17) 26 (by rfl) (vl + 5) info_pt Try.underlying26 (by decide) (by decide) encT_len (fun z => encT_one) rv M (by rfl) HR.out xa X.length (c - k) X (by rfl) rfl HL.out hx6 (by decide) hz9 ?_
            intro v5 w5 R5 G5 o5
            have HR5 := Lib.hid R5
            have HG5 := Lib.hid G5
            obtain ⟨a5, q5, c5, rfl⟩ : ∃ a q c, v5 = Value.slice a q c := by obtain ⟨a, c, e⟩ := R5.len; exact ⟨a, _, c, e⟩
            have HV5 := Lib.hid (HV.out.keptN G5 (fun e => by have := HR.out.above _ e; omega))
            have HK5 := Lib.hid (HK.out.keptN G5 (fun e => by have := HR.out.above _ e; omega))
            have HO5 := Lib.hid (HO.out.keptN G5 (fun e => by have := HR.out.above _ e; omega))
            clear R5 G5 o5 l0 l1 n0 n1 k0 k1
            obtain ⟨n0, n1⟩ := HV5.out.one
            refine hK _ _ ?_
            clear hK K
            try simp only [Act.put, List.setIfInBounds_toArray, List.set_cons_zero, List.set_cons_succ]
            refine wpAny_ready (rs := [6]) (by kernel_rfl) (by simp) ?_
            refine AllReady.cons (o := ⟨none, _, _, _, _, _⟩) rfl (fun K hK => ?st12_0) AllReady.nil
            case st12_0 =>
              go_simp
              refine hK _ _ ?_
              clear hK K
              try simp only [Act.put, List.setIfInBounds_toArray, List.set_cons_zero, List.set_cons_succ]
              refine wpAny_done (by kernel_rfl) ?_ _
              have HT5 := Lib.hid ((HT.out.drew.row HR.out HG5.out (by omega) (by omega) (by show w.heap.size ≤ W.heap.size; omega) (by show vl + 3 + 1 < W.heap.size; omega)).set (p := ⟨vl + 1, 0, none⟩) (.slice a5 q5 c5) (show w.heap.size ≤ vl + 1 by omega) (show vl + 1 ≠ vl + 3 by omega) (show vl + 1 ≠ vl + 3 + 1 by omega))
              have HG6 := Lib.hid ((Grew.keptA (B := w.heap.size) HG.out HG5.out (fun x e => by have := HR.out.above x e; omega) (Nat.le_refl _)).set (p := ⟨vl + 1, 0, none⟩) (show w.heap.size ≤ vl + 1 by omega) (.slice a5 q5 c5))
              have HV6 := Lib.hid (HV5.out.set 0 (.slice a5 q5 c5))
              have HK6 := Lib.hid (HK5.out.far (p := ⟨vl + 1, 0, none⟩) (show vl + 2 ≠ vl + 1 by omega) (.slice a5 q5 c5))
              have HO6 := Lib.hid (HO5.out.far (p := ⟨vl + 1, 0, none⟩) (show vl ≠ vl + 1 by omega) (.slice a5 q5 c5))
              have HR6 := Lib.hid (HR5.out.set (p := ⟨vl + 1, 0, none⟩) (fun e => absurd (HR5.out.above (vl + 1) e) (by omega)) (.slice a5 q5 c5))
              have hz6 : vl + 5 ≤ (w5.setCell ⟨vl + 1, 0, none⟩ (.slice a5 q5 c5)).heap.size := by have := HG5.out.size; have h9 : W.drew.heap.size = W.heap.size := rfl; simp [World.setCell]; omega
              clear n0 n1 HR HV HK HO HT HG HR5 HG5 HV5 HK5 HO5
              generalize World.setCell w5 _ _ = w6 at *
              obtain ⟨k0, k1⟩ := HK6.out.one
              gi_wp2
              refine ⟨KeepsOthers.from (HT5.out.set (p := ⟨vl + 2, 0, none⟩) _ (show w.heap.size ≤ vl + 2 by omega) (show vl + 2 ≠ vl + 3 by omega) (show vl + 2 ≠ vl + 3 + 1 by omega)).1 _, (HT5.out.set (p := ⟨vl + 2, 0, none⟩) _ (show w.heap.size ≤ vl + 2 by omega) (show vl + 2 ≠ vl + 3 by omega) (show vl + 2 ≠ vl + 3 + 1 by omega)).2, _, i + 1, Nat.le_refl _, fun j h1 h2 => by omega, HO6.out.far (p := ⟨vl + 2, 0, none⟩) (show vl ≠ vl + 2 by omega) _, HV6.out.far (p := ⟨vl + 2, 0, none⟩) (show vl + 1 ≠ vl + 2 by omega) _, HK6.out.set 0 _, ?_, HG6.out.set (p := ⟨vl + 2, 0, none⟩) (show w.heap.size ≤ vl + 2 by omega) _, by simp [World.setCell]; omega⟩
              rw [HM2.out]
              exact HR6.out.set (p := ⟨vl + 2, 0, none⟩) (fun e => absurd (HR6.out.above (vl + 2) e) (by omega)) _
      case st19_1 =>
        go_simp
        refine hK _ _ ?_
        clear hK K
        try simp only [Act.put, List.setIfInBounds_toArray, List.set_cons_zero, List.set_cons_succ]
        refine wpAny_take (i := 4) (oi := ⟨some 17, _, _, _, _, _⟩) (v := ?vv15) rfl (by kernel_rfl) (by kernel_rfl) (by kernel_rfl) (fun _ _ _ h => h) (Or.inl ⟨by rfl, ?yy15⟩) ?rr15
        case yy15 => (intro w; go_simp; (try with_reducible rfl))
        try simp only [Act.put, List.setIfInBounds_toArray, List.set_cons_zero, List.set_cons_succ]
        refine wpAny_ready (rs := [0]) (by kernel_rfl) (by simp) ?_
        refine AllReady.cons (o := ⟨some 13, _, _, _, _, _⟩) rfl (fun K hK => ?st18_0) AllReady.nil
        case st18_0 =>
          go_simp
          refine hK _ _ ?_
          clear hK K
          try simp only [Act.put, List.setIfInBounds_toArray, List.set_cons_zero, List.set_cons_succ]
          refine wpAny_ready (rs := [5]) (by kernel_rfl) (by simp) ?_
          refine AllReady.cons (o := ⟨some 18, _, _, _, _, _⟩) rfl (fun K hK => ?st17_0) AllReady.nil
          case st17_0 =>
            refine step_append_src (w := W.drew) (by rfl) (.tmp 13) (.tmp 17) 26 (by rfl) (vl + 5) info_pt Try.underlying26 (by decide) (by decide) encT_len (fun z => encT_one) rv M (by rfl) HR.out xa X.length (c - k) X (by rfl) rfl HL.out hx6 (by decide) hz9 ?_
            intro v5 w5 R5 G5 o5
            have HR5 := Lib.hid R5
            have HG5 := Lib.hid G5
            obtain ⟨a5, q5, c5, rfl⟩ : ∃ a q c, v5 = Value.slice a q c := by obtain ⟨a, c, e⟩ := R5.len; exact ⟨a, _, c, e⟩
            have HV5 := Lib.hid (HV.out.keptN G5 (fun e => by have := HR.out.above _ e; omega))
            have HK5 := Lib.hid (HK.out.keptN G5 (fun e => by have := HR.out.above _ e; omega))
            have HO5 := Lib.hid (HO.out.keptN G5 (fun e => by have := HR.out.above _ e; omega))
            clear R5 G5 o5 l0 l1 n0 n1 k0 k1
            obtain ⟨n0, n1⟩ := HV5.out.one
            refine hK _ _ ?_
            clear hK K
            try simp only [Act.put, List.setIfInBounds_toArray, List.set_cons_zero, List.set_cons_succ]
            refine wpAny_ready (rs := [6]) (by kernel_rfl) (by simp) ?_
            refine AllReady.cons (o := ⟨none, _, _, _, _, _⟩) rfl (fun K hK => ?st16_0) AllReady.nil
            case st16_0 =>
              go_simp
              refine hK _ _ ?_
              clear hK K
              try simp only [Act.put, List.setIfInBounds_toArray, List.set_cons_zero, List.set_cons_succ]
              refine wpAny_done (by kernel_rfl) ?_ _
              have HT5 := Lib.hid ((HT.out.drew.row HR.out HG5.out (by omega) (by omega) (by show w.heap.size ≤ W.heap.size; omega) (by show vl + 3 + 1 < W.heap.size; omega)).set (p := ⟨vl + 1, 0, none⟩) (.slice a5 q5 c5) (show w.heap.size ≤ vl + 1 by omega) (show vl + 1 ≠ vl + 3 by omega) (show vl + 1 ≠ vl + 3 + 1 by omega))
              have HG6 := Lib.hid ((Grew.keptA (B := w.heap.size) HG.out HG5.out (fun x e => by have := HR.out.above x e; omega) (Nat.le_refl _)).set (p := ⟨vl + 1, 0, none⟩) (show w.heap.size ≤ vl + 1 by omega) (.slice a5 q5 c5))
              have HV6 := Lib.hid (HV5.out.set 0 (.slice a5 q5 c5))
              have HK6 := Lib.hid (HK5.out.far (p := ⟨vl + 1, 0, none⟩) (show vl + 2 ≠ vl + 1 by omega) (.slice a5 q5 c5))
              have HO6 := Lib.hid (HO5.out.far (p := ⟨vl + 1, 0, none⟩) (show vl ≠ vl + 1 by omega) (.slice a5 q5 c5))
              have HR6 := Lib.hid (HR5.out.set (p := ⟨vl + 1, 0, none⟩) (fun e => absurd (HR5.out.above (vl + 1) e) (by omega)) (.slice a5 q5 c5))
              have hz6 : vl + 5 ≤ (w5.setCell ⟨vl + 1, 0, none⟩ (.slice a5 q5 c5)).heap.size := by have := HG5.out.size; have h9 : W.drew.heap.size = W.heap.size := rfl; simp [World.setCell]; omega
              clear n0 n1 HR HV HK HO HT HG HR5 HG5 HV5 HK5 HO5
              generalize World.setCell w5 _ _ = w6 at *
              obtain ⟨k0, k1⟩ := HK6.out.one
              gi_wp2
              refine ⟨KeepsOthers.from (HT5.out.set (p := ⟨vl + 2, 0, none⟩) _ (show w.heap.size ≤ vl + 2 by omega) (show vl + 2 ≠ vl + 3 by omega) (show vl + 2 ≠ vl + 3 + 1 by omega)).1 _, (HT5.out.set (p := ⟨vl + 2, 0, none⟩) _ (show w.heap.size ≤ vl + 2 by omega) (show vl + 2 ≠ vl + 3 by omega) (show vl + 2 ≠ vl + 3 + 1 by omega)).2, _, i + 1, Nat.le_refl _, fun j h1 h2 => by omega, HO6.out.far (p := ⟨vl + 2, 0, none⟩) (show vl ≠ vl + 2 by omega) _, HV6.out.far (p := ⟨vl + 2, 0, none⟩) (show vl + 1 ≠ vl + 2 by omega) _, HK6.out.set 0 _, ?_, HG6.out.set (p := ⟨vl + 2, 0, none⟩) (show w.heap.size ≤ vl + 2 by omega) _, by simp [World.setCell]; omega⟩
              rw [HM2.out]
              exact HR6.out.set (p := ⟨vl + 2, 0, none⟩) (fun e => absurd (HR6.out.above (vl + 2) e) (by omega)) _
    case st29_2 =>
      go_simp
      refine hK _ _ ?_
      clear hK K
      try simp only [Act.put, List.setIfInBounds_toArray, List.set_cons_zero, List.set_cons_succ]
      refine wpAny_ready (rs := [0, 1]) (by kernel_rfl) (by simp) ?_
      refine AllReady.cons (o := ⟨some 13, _, _, _, _, _⟩) rfl (fun K hK => ?st28_0) (AllReady.cons (o := ⟨some 14, _, _, _, _, _⟩) rfl (fun K hK => ?st28_1) AllReady.nil)
      case st28_0 =>
        go_simp
        refine hK _ _ ?_
        clear hK K
        try simp only [Act.put, List.setIfInBounds_toArray, List.set_cons_zero, List.set_cons_succ]
        refine wpAny_ready (rs := [1]) (by kernel_rfl) (by simp) ?_
        refine AllReady.cons (o := ⟨some 14, _, _, _, _, _⟩) rfl (fun K hK => ?st23_0) AllReady.nil
        case st23_0 =>
          go_simp
          refine hK _ _ ?_
          clear hK K
          try simp only [Act.put, List.setIfInBounds_toArray, List.set_cons_zero, List.set_cons_succ]
          refine wpAny_take (i := 4) (oi := ⟨some 17, _, _, _, _, _⟩) (v := ?vv20) rfl (by kernel_rfl) (by kernel_rfl) (by kernel_rfl) (fun _ _ _ h => h) (Or.inl ⟨by rfl, ?yy20⟩) ?rr20
          case yy20 => (intro w; go_simp; (try with_reducible rfl))
          try simp only [Act.put, List.setIfInBounds_toArray, List.set_cons_zero, List.set_cons_succ]
          refine wpAny_ready (rs := [5]) (by kernel_rfl) (by simp) ?_
          refine AllReady.cons (o := ⟨some 18, _, _, _, _, _⟩) rfl (fun K hK => ?st22_0) AllReady.nil
          case st22_0 =>
            refine step_append_src (w := W.drew) (by rfl) (.tmp 13) (.tmp 17) 26 (by rfl) (vl + 5) info_pt Try.underlying26 (by decide) (by decide) encT_len (fun z => encT_one) rv M (by rfl) HR.out xa X.length (c - k) X (by rfl) rfl HL.out hx6 (by decide) hz9 ?_
            intro v5 w5 R5 G5 o5
            have HR5 := Lib.hid R5
            have HG5 := Lib.hid G5
            obtain ⟨a5, q5, c5, rfl⟩ : ∃ a q c, v5 = Value.slice a q c := by obtain ⟨a, c, e⟩ := R5.len; exact ⟨a, _, c, e⟩
            have HV5 := Lib.hid (HV.out.keptN G5 (fun e => by have := HR.out.above _ e; omega))
            have HK5 := Lib.hid (HK.out.keptN G5 (fun e => by have := HR.out.above _ e; omega))
            have HO5 := Lib.hid (HO.out.keptN G5 (fun e => by have := HR.out.above _ e; omega))
            clear R5 G5 o5 l0 l1 n0 n1 k0 k1
            obtain ⟨n0, n1⟩ := HV5.out.one
            refine hK _ _ ?_
            clear hK K
            try simp only [Act.put, List.setIfInBounds_toArray, List.set_cons_zero, List.set_cons_succ]
            refine wpAny_ready (rs := [6]) (by kernel_rfl) (by simp) ?_
            refine AllReady.cons (o := ⟨none, _, _, _, _, _⟩) rfl (fun K hK => ?st21_0) AllReady.nil
            case st21_0 =>
              go_simp
              refine hK _ _ ?_
              clear hK K
              try simp only [Act.put, List.setIfInBounds_toArray, List.set_cons_zero, List.set_cons_succ]
              refine wpAny_done (by kernel_rfl) ?_ _
              have HT5 := Lib.hid ((HT.out.drew.row HR.out HG5.out (by omega) (by omega) (by show w.heap.size ≤ W.heap.size; omega) (by show vl + 3 + 1 < W.heap.size; omega)).set (p := ⟨vl + 1, 0, none⟩) (.slice a5 q5 c5) (show w.heap.size ≤ vl + 1 by omega) (show vl + 1 ≠ vl + 3 by omega) (show vl + 1 ≠ vl + 3 + 1 by omega))
              have HG6 := Lib.hid ((Grew.keptA (B := w.heap.size) HG.out HG5.out (fun x e => by have := HR.out.above x e; omega) (Nat.le_refl _)).set (p := ⟨vl + 1, 0, none⟩) (show w.heap.size ≤ vl + 1 by omega) (.slice a5 q5 c5))
              have HV6 := Lib.hid (HV5.out.set 0 (.slice a5 q5 c5))
              have HK6 := Lib.hid (HK5.out.far (p := ⟨vl + 1, 0, none⟩) (show vl + 2 ≠ vl + 1 by omega) (.slice a5 q5 c5))
              have HO6 := Lib.hid (HO5.out.far (p := ⟨vl + 1, 0, none⟩) (show vl ≠ vl + 1 by omega) (.slice a5 q5 c5))
              have HR6 := Lib.hid (HR5.out.set (p := ⟨vl + 1, 0, none⟩) (fun e => absurd (HR5.out.above (vl + 1) e) (by omega)) (.slice a5 q5 c5))
              have hz6 : vl + 5 ≤ (w5.setCell ⟨vl + 1, 0, none⟩ (.slice a5 q5 c5)).heap.size := by have := HG5.out.size; have h9 : W.drew.heap.size = W.heap.size := rfl; simp [World.setCell]; omega
              clear n0 n1 HR HV HK HO HT HG HR5 HG5 HV5 HK5 HO5
              generalize World.setCell w5 _ _ = w6 at *
              obtain ⟨k0, k1⟩ := HK6.out.one
              gi_wp2
              refine ⟨KeepsOthers.from (HT5.out.set (p := ⟨vl + 2, 0, none⟩) _ (show w.heap.size ≤ vl + 2 by omega) (show vl + 2 ≠ vl + 3 by omega) (show vl + 2 ≠ vl + 3 + 1 by omega)).1 _, (HT5.out.set (p := ⟨vl + 2, 0, none⟩) _ (show w.heap.size ≤ vl + 2 by omega) (show vl + 2 ≠ vl + 3 by omega) (show vl + 2 ≠ vl + 3 + 1 by omega)).2, _, i + 1, Nat.le_refl _, fun j h1 h2 => by omega, HO6.out.far (p := ⟨vl + 2, 0, none⟩) (show vl ≠ vl + 2 by omega) _, HV6.out.far (p := ⟨vl + 2, 0, none⟩) (show vl + 1 ≠ vl + 2 by omega) _, HK6.out.set 0 _, ?_, HG6.out.set (p := ⟨vl + 2, 0, none⟩) (show w.heap.size ≤ vl + 2 by omega) _, by simp [World.setCell]; omega⟩
              rw [HM2.out]
              exact HR6.out.set (p := ⟨vl + 2, 0, none⟩) (fun e => absurd (HR6.out.above (vl + 2) e) (by omega)) _
      case st28_1 =>
        go_simp
        refine hK _ _ ?_
        clear hK K
        try simp only [Act.put, List.setIfInBounds_toArray, List.set_cons_zero, List.set_cons_succ]
        refine wpAny_take (i := 4) (oi := ⟨some 17, _, _, _, _, _⟩) (v := ?vv24) rfl (by kernel_rfl) (by kernel_rfl) (by kernel_rfl) (fun _ _ _ h => h) (Or.inl ⟨by rfl, ?yy24⟩) ?rr24
        case yy24 => (intro w; go_simp; (try with_reducible rfl))
        try simp only [Act.put, List.setIfInBounds_toArray, List.set_cons_zero, List.set_cons_succ]
        refine wpAny_ready (rs := [0]) (by kernel_rfl) (by simp) ?_
        refine AllReady.cons (o := ⟨some 13, _, _, _, _, _⟩) rfl (fun K hK => ?st27_0) AllReady.nil
        case st27_0 =>
          go_simp
          refine hK _ _ ?_
          clear hK K
          try simp only [Act.put, List.setIfInBounds_toArray, List.set_cons_zero, List.set_cons_succ]
          refine wpAny_ready (rs := [5]) (by kernel_rfl) (by simp) ?_
          refine AllReady.cons (o := ⟨some 18, _, _, _, _, _⟩) rfl (fun K hK => ?st26_0) AllReady.nil
          case st26_0 =>
            refine step_append_src (w := W.drew) (by rfl) (.tmp 13) (.tmp 17) 26 (by rfl) (vl + 5) info_pt Try.underlying26 (by decide) (by decide) encT_len (fun z => encT_one) rv M (by rfl) HR.out xa X.length (c - k) X (by rfl) rfl HL.out hx6 (by decide) hz9 ?_
            intro v5 w5 R5 G5 o5
            have HR5 := Lib.hid R5
            have HG5 := Lib.hid G5
            obtain ⟨a5, q5, c5, rfl⟩ : ∃ a q c, v5 = Value.slice a q c := by obtain ⟨a, c, e⟩ := R5.len; exact ⟨a, _, c, e⟩
            have HV5 := Lib.hid (HV.out.keptN G5 (fun e => by have := HR.out.above _ e; omega))
            have HK5 := Lib.hid (HK.out.keptN G5 (fun e => by have := HR.out.above _ e; omega))
            have HO5 := Lib.hid (HO.out.keptN G5 (fun e => by have := HR.out.above _ e; omega))
            clear R5 G5 o5 l0 l1 n0 n1 k0 k1
            obtain ⟨n0, n1⟩ := HV5.out.one
            refine hK _ _ ?_
            clear hK K
            try simp only [Act.put, List.setIfInBounds_toArray, List.set_cons_zero, List.set_cons_succ]
            refine wpAny_ready (rs := [6]) (by kernel_rfl) (by simp) ?_
            refine AllReady.cons (o := ⟨none, _, _, _, _, _⟩) rfl (fun K hK => ?st25_0) AllReady.nil
            case st25_0 =>
              go_simp
              refine hK _ _ ?_
              clear hK K
              try simp only [Act.put, List.setIfInBounds_toArray, List.set_cons_zero, List.set_cons_succ]
              refine wpAny_done (by kernel_rfl) ?_ _
              have HT5 := Lib.hid ((HT.out.drew.row HR.out HG5.out (by omega) (by omega) (by show w.heap.size ≤ W.heap.size; omega) (by show vl + 3 + 1 < W.heap.size; omega)).set (p := ⟨vl + 1, 0, none⟩) (.slice a5 q5 c5) (show w.heap.size ≤ vl + 1 by omega) (show vl + 1 ≠ vl + 3 by omega) (show vl + 1 ≠ vl + 3 + 1 by omega))
              have HG6 := Lib.hid ((Grew.keptA (B := w.heap.size) HG.out HG5.out (fun x e => by have := HR.out.above x e; omega) (Nat.le_refl _)).set (p := ⟨vl + 1, 0, none⟩) (show w.heap.size ≤ vl + 1 by omega) (.slice a5 q5 c5))
              have HV6 := Lib.hid (HV5.out.set 0 (.slice a5 q5 c5))
              have HK6 := Lib.hid (HK5.out.far (p := ⟨vl + 1, 0, none⟩) (show vl + 2 ≠ vl + 1 by omega) (.slice a5 q5 c5))
              have HO6 := Lib.hid (HO5.out.far (p := ⟨vl + 1, 0, none⟩) (show vl ≠ vl + 1 by omega) (.slice a5 q5 c5))
              have HR6 := Lib.hid (HR5.out.set (p := ⟨vl + 1, 0, none⟩) (fun e => absurd (HR5.out.above (vl + 1) e) (by omega)) (.slice a5 q5 c5))
              have hz6 : vl + 5 ≤ (w5.setCell ⟨vl + 1, 0, none⟩ (.slice a5 q5 c5)).heap.size := by have := HG5.out.size; have h9 : W.drew.heap.size = W.heap.size := rfl; simp [World.setCell]; omega
              clear n0 n1 HR HV HK HO HT HG HR5 HG5 HV5 HK5 HO5
              generalize World.setCell w5 _ _ = w6 at *
              obtain ⟨k0, k1⟩ := HK6.out.one
              gi_wp2
              refine ⟨KeepsOthers.from (HT5.out.set (p := ⟨vl + 2, 0, none⟩) _ (show w.heap.size ≤ vl + 2 by omega) (show vl + 2 ≠ vl + 3 by omega) (show vl + 2 ≠ vl + 3 + 1 by omega)).1 _, (HT5.out.set (p := ⟨vl + 2, 0, none⟩) _ (show w.heap.size ≤ vl + 2 by omega) (show vl + 2 ≠ vl + 3 by omega) (show vl + 2 ≠ vl + 3 + 1 by omega)).2, _, i + 1, Nat.le_refl _, fun j h1 h2 => by omega, HO6.out.far (p := ⟨vl + 2, 0, none⟩) (show vl ≠ vl + 2 by omega) _, HV6.out.far (p := ⟨vl + 2, 0, none⟩) (show vl + 1 ≠ vl + 2 by omega) _, HK6.out.set 0 _, ?_, HG6.out.set (p := ⟨vl + 2, 0, none⟩) (show w.heap.size ≤ vl + 2 by omega) _, by simp [World.setCell]; omega⟩
              rw [HM2.out]
              exact HR6.out.set (p := ⟨vl + 2, 0, none⟩) (fun e => absurd (HR6.out.above (vl + 2) e) (by omega)) _
  case done =>
    rintro D W hD ⟨rv, k, hki, hno, h1, h2, h3, h4, h5, h6⟩ hK
    have hkn : k ≤ L.length := Nat.le_trans hki (nE_le L)
    have HE := Lib.hid (drp_eq hki hno)
    have hRd := (HZ.out.grew h5).cutT (k := k) (i := L.length) hkn (Nat.le_refl _)
    rw [List.take_length, HN.out] at hRd
    obtain ⟨hXl, hXL⟩ := lies_len hRd
    have hkn2 : k ≤ n := by rw [← HN.out]; exact hkn
    have hsl := fun w => run_slcE w a n c k hkn2
    have hfl := drL_len L f k
    have hs := h5.size
    obtain ⟨xa, hxa⟩ : ∃ xa, (if c = k then a else a.map (·.add (k * 5))) = xa := ⟨_, rfl⟩
    rw [hxa] at hXL hsl
    obtain ⟨X, hX⟩ : ∃ X, L.drop k = X := ⟨_, rfl⟩
    rw [hX] at hXL hXl HE
    rw [hXl] at hsl
    have hXb : X.length ≤ 1000 := by omega
    clear hXl
    have HL := Lib.hid hXL
    obtain ⟨M, hM⟩ : ∃ M, drL L f k = M := ⟨_, rfl⟩
    rw [hM] at HE h4 hfl
    have HR := Lib.hid (show RowE 30 5 encT W.drew (vl + 5) rv M from h4)
    have HG := Lib.hid h5.drew
    have hKd : W.drew.heap[D]? = some (.deferred (some [])) := hK
    have HD := Lib.hid hKd
    have hz9 : vl + 5 ≤ W.drew.heap.size := h6
    have hx6 : M.length + X.length < 1000000 := by omega
    obtain ⟨l0, l1⟩ := h1.one
    obtain ⟨n0, n1⟩ := h2.one
    obtain ⟨k0, k1⟩ := h3.one
    have hll := h1.lt
    have hln := h2.lt
    have hlk := h3.lt
    have hDl : D < W.drew.heap.size := (Array.getElem?_eq_some_iff.1 hKd).1
    clear h1 h2 h3 h4 h5 hM hX hxa hXL hRd hno hK hKd
    go_wp2_with fail
    go_region_held3 (fun w' => w'.cell? ⟨vl, 0, none⟩ = some (.slice a n c) ∧ w'.cell? ⟨vl + 1, 0, none⟩ = some rv ∧ w'.cell? ⟨vl + 2, 0, none⟩ = some (.int .i64 (k : Nat)))
      (refine ⟨?_, ?_, ?_⟩ <;> (repeat (first | (with_reducible assumption) | (with_reducible refine far_drew ?_))))
      (first
        | (refine step_append_src (w := W.drew) (by rfl) (.tmp 21) (.tmp 24) 26 (by rfl) (vl + 5) info_pt Try.underlying26 (by decide) (by decide) encT_len (fun z => encT_one) rv M (by rfl) HR.out xa X.length (c - k) X (by rfl) rfl HL.out hx6 (by decide) hz9 ?_
           intro v5 w5 R5 G5 o5
           have HR5 := Lib.hid R5
           have HG5 := Lib.hid G5
           have e0 := (World.cell?_of_block (a := ⟨vl, 0, none⟩) (G5.block vl hll (fun e => by have := HR.out.above _ e.symm; omega))).trans l0
           have e1 := (World.cell?_of_block (a := ⟨vl + 1, 0, none⟩) (G5.block (vl + 1) hln (fun e => by have := HR.out.above _ e.symm; omega))).trans n0
           have e2 := (World.cell?_of_block (a := ⟨vl + 2, 0, none⟩) (G5.block (vl + 2) hlk (fun e => by have := HR.out.above _ e.symm; omega))).trans k0
           clear R5 G5 o5))
    go_wp2
    have hK5 : w5.heap[D]? = some (.deferred (some [])) := (HG5.out.block D hDl (fun e => by
      obtain ⟨cs, hO⟩ := rowT_block HR.out e.symm
      have h9 := own_onlyT hO _ HD.out
      cases h9)).trans HD.out
    refine ⟨by simp, .inl ⟨_, _, rfl, run_takeDeferred hK5, v5, by simp [results, Try.results23, go_sem], _, rfl, ?_, grew_putT (Grew.keptA (B := w.heap.size) HG.out HG5.out (fun x e => by have := HR.out.above x e; omega) (Nat.le_refl _)) _ (by omega)⟩⟩
    rw [← HE.out]
    exact (RowE.rdS encT_len (rowT_by HR5.out (grownBy_putObj' w5 D (.deferred none)) (fun q e => by injection e with e; subst e; exact ⟨_, hK5, rfl⟩))).wider (by omega)
end Go.Proofs.Ytjkkhfionmdmpaa
