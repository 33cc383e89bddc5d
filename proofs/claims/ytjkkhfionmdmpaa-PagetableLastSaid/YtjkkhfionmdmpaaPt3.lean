/- Page tables (layer 17): slices.Clone, slices.BinarySearchFunc with compare, find, Get of the program. -/
import Derived.Test.YtjkkhfionmdmpaaPt2
import Derived.Deep.LoopGhost
namespace Go.Mine
open Go Go.RowKit
def RetPt (L : List Pt) (w : World) (e : Ending) (w' : World) : Prop := ∃ v, e = .returned v ∧ RdS 5 encT w' w.heap.size v L ∧ Grew w w'
def RetPtE (B : Nat) (x : List Pt × Int) (w : World) (e : Ending) (w' : World) : Prop := ∃ v, e = .returned (.tuple #[v, .int .i64 x.2]) ∧ RdS 5 encT w' B v x.1 ∧ Grew w w'
def RetPtB (B : Nat) (x : List Pt × Bool) (w : World) (e : Ending) (w' : World) : Prop := ∃ v, e = .returned (.tuple #[v, .bool x.2]) ∧ RdS 5 encT w' B v x.1 ∧ Grew w w'
/-- Where an entry belongs, and whether its page has one. -/
def RetBs (L : List Pt) (x : Pt) (w : World) (e : Ending) (w' : World) : Prop := ∃ i : Nat, e = .returned (.tuple #[.int .i64 i, .bool (hasT L x i)]) ∧ PosT L x i ∧ Grew w w'
abbrev gtV (x : Pt × Bool) : Value := .tuple #[ptV x.1, .bool x.2]
section
variable {w w' : World} {g : Nat} {t : TypeId} {cs : Array Value}
theorem Own.store5T {a b c d e x y z u v : Value} (h : Own w g t #[a, b, c, d, e]) (hw : ((((w.setCell ⟨g, 0, none⟩ x).setCell ⟨g, 1, none⟩ y).setCell ⟨g, 2, none⟩ z).setCell ⟨g, 3, none⟩ u).setCell ⟨g, 4, none⟩ v = w') : Own w' g t #[x, y, z, u, v] := by
  rw [← hw]
  exact ((((h.set 0 x).set 1 y).set 2 z).set 3 u).set 4 v
theorem Grew.far5T {a : World} {b : Nat} {x y z u v : Value} (h : Grew a w) (hw : ((((w.setCell ⟨b, 0, none⟩ x).setCell ⟨b, 1, none⟩ y).setCell ⟨b, 2, none⟩ z).setCell ⟨b, 3, none⟩ u).setCell ⟨b, 4, none⟩ v = w') (hb : a.heap.size ≤ b) : Grew a w' := by
  rw [← hw]
  exact ((((h.set (p := ⟨b, 0, none⟩) hb x).set (p := ⟨b, 1, none⟩) hb y).set (p := ⟨b, 2, none⟩) hb z).set (p := ⟨b, 3, none⟩) hb u).set (p := ⟨b, 4, none⟩) hb v
end
end Go.Mine
namespace Go.Proofs.Ytjkkhfionmdmpaa
open Go.RowKit Go.Mine

theorem info_pt : (Try.prog.info? 30).map (fun i => (i.zero, i.size, i.bytes)) = some (some (ptV zT), 5, 32) := by kernel_rfl
set_option maxHeartbeats 1000000 in
theorem clone_r {B : Nat} {v : Value} {L : List Pt} {w : World} (h : RdS 5 encT w B v L) (hl : L.length ≤ 1000) : Calls Try.prog 31 #[v] w (fun e w' => ∃ v, e = .returned v ∧ RowE 30 5 encT w' w.heap.size v L ∧ Grew w w') := by
  obtain ⟨a, c, rfl, -, -⟩ := h.slice
  obtain ⟨-, hs, hlies⟩ := h.lies encT_len
  have q22 : ∀ (w : World) (a : Option Addr) (n c n' c' : Nat), (binOp .eql 26 (.slice a n c) (.slice none n' c')).run Try.prog w = .ok (.bool a.isNone) w := fun w a n c n' c' => Lib.run_eql_slice_nil w _ _ a n c n' c' Try.underlying26
  cases a with
  | none =>
    have hx : L = [] := hs.resolve_right (by simp)
    subst hx
    go_enter Try.func31, Try.ntmps31
    go_wp2
    go_ret
    exact ⟨_, rfl, RowE.nil _ _, Grew.refl _⟩
  | some A =>
    have hk : Lies encT (w.alloc (.cells #[] 30)) (some A) L := by
      rcases hlies with h0 | ⟨b, e, hb⟩
      · exact .inl h0
      · refine .inr ⟨b, e, fun j u hu => ?_⟩
        rw [← hb j u hu]
        exact World.cell?_of_block (Below.heap_alloc w _ _ (World.block_lt_of_cell? w _ (hb j u hu)))
    have HL := Lib.hid hk
    obtain ⟨n, hn⟩ : ∃ n, L.length = n := ⟨_, rfl⟩
    have HN := Lib.hid hn
    rw [hn] at hl ⊢
    have hx6 : ([] : List Pt).length + L.length < 1000000 := by rw [hn]; simp; omega
    have R0 : RowE 30 5 encT (w.alloc (.cells #[] 30)) w.heap.size (.slice (some ⟨w.heap.size, 0, none⟩) 0 0) [] := RowE.lit w #[] rfl rfl (by decide) (Nat.le_refl _)
    have HR0 := Lib.hid R0
    have HG0 := Lib.hid ((Grew.refl w).alloc (.cells #[] 30))
    have hz : w.heap.size ≤ (w.alloc (.cells #[] 30)).heap.size := by simp
    clear h R0 hlies hk hs hn
    go_enter Try.func31, Try.ntmps31
    go_wp2_with (at_builtin; go_loud (
      refine wpList_append_src _ rfl _ _ 26 rfl w.heap.size info_pt Try.underlying26 (by decide) (by decide) encT_len (fun z => encT_one) _ [] rfl HR0.out _ _ _ L rfl HN.out.symm HL.out hx6 (by decide) hz ?_
      intro v2 w2 R2 G2 o2))
    have HG2 := Lib.hid (Grew.keptA (B := w.heap.size) HG0.out G2 (fun x e => HR0.out.above x e) (Nat.le_refl _))
    go_wp2
    go_ret
    exact ⟨_, rfl, R2, HG2.out⟩
theorem clone_d {B : Nat} {v : Value} {L : List Pt} {w : World} (h : RdS 5 encT w B v L) (hl : L.length ≤ 1000) : Calls Try.prog 31 #[v] w (RetPt L w) :=
  (clone_r h hl).mono fun _ _ ⟨v, e, R, G⟩ => ⟨v, e, RowE.rdS encT_len R, G⟩
set_option maxRecDepth 100000 in
set_option maxHeartbeats 4000000 in
theorem bin_p {B : Nat} {v : Value} {L : List Pt} {x : Pt} {w : World} (h : RdS 5 encT w B v L) (hl : L.length ≤ 1000) (hk : okT L = true) :
    Calls Try.prog 42 #[v, ptV x, .func (.func 38) #[] #[]] w (RetBs L x w) := by
  obtain ⟨a, c, rfl, -, -⟩ := h.slice
  obtain ⟨n, hn⟩ : ∃ n, L.length = n := ⟨_, rfl⟩
  have HN := Lib.hid hn
  have HK := Lib.hid hk
  rw [hn] at h hl ⊢
  have HZ := Lib.hid (h.alloc (.cells #[.int .i64 x.p, .int .i64 x.v, .int .i64 x.f, .bool x.w, .bool x.a] 30))
  have HO := Lib.hid (Own.new w 30 #[.int .i64 x.p, .int .i64 x.v, .int .i64 x.f, .bool x.w, .bool x.a])
  have HG := Lib.hid ((Grew.refl w).alloc (.cells #[.int .i64 x.p, .int .i64 x.v, .int .i64 x.f, .bool x.w, .bool x.a] 30))
  clear h hn hk
  go_enter Try.func42, Try.ntmps42
  go_upto_region 1 with fail
  have hbx0 := HO.out.lt
  obtain ⟨bx, hbx⟩ : ∃ bx, w.heap.size = bx := ⟨_, rfl⟩
  rw [hbx] at HO hbx0 ⊢
  generalize World.alloc w _ = w1 at *
  clear hbx
  go_wp2_with fail
  go_loopg [9, 10] n (fun kx s9 s10 wr => ∃ lo hi : Nat, s9 = .int .i64 lo ∧ s10 = .int .i64 hi ∧ lo ≤ hi ∧ hi ≤ n ∧ hi - lo ≤ kx ∧ Hid (Grew w1 wr) ∧
    Hid ((∀ t, t < lo → ltT (L.getD t zT) x = true) ∧ (∀ t, hi ≤ t → t < n → ltT (L.getD t zT) x = false)))
  case atStart => exact ⟨0, n, rfl, rfl, Nat.zero_le _, Nat.le_refl _, by omega, Lib.hid (Grew.refl _), Lib.hid ⟨fun t ht => absurd ht (Nat.not_lt_zero _), fun t h1 h2 => by omega⟩⟩
  case round =>
    obtain ⟨lo, hi, rfl, rfl, hlh, hin, hg, HGG, I⟩ := hrel
    obtain ⟨wo, rfl⟩ : ∃ wo : World, wo = wr := ⟨_, rfl⟩
    obtain ⟨y0, y1, y2, y3, y4⟩ := (HO.out.grew HGG.out).fiveT
    have hbl : bx < wo.heap.size := (HO.out.grew HGG.out).lt
    by_cases hlt : lo < hi
    · obtain ⟨m, hm⟩ : ∃ m, (lo + hi) / 2 = m := ⟨_, rfl⟩
      have hm1 : lo ≤ m ∧ m < hi := by omega
      have hmi : ((lo : Int) + (hi : Int)) / 2 = (m : Int) := by omega
      obtain ⟨hm1, hm2⟩ := hm1
      have hmn : (m : Int) < (n : Int) := by omega
      have hm0 : (0 : Int) ≤ (m : Int) := by omega
      have hmL : m < L.length := by rw [HN.out]; omega
      obtain ⟨g, o, rfl, -, hgl, c0, c1, c2, c3, c4⟩ := (HZ.out.grew HGG.out).atT hmL
      have HL1 : Hid (ltT (L.getD m zT) x = true → ∀ t, t < m + 1 → ltT (L.getD t zT) x = true) := Lib.hid (fun h t ht => by
        by_cases e : t = m
        · rw [e]; exact h
        · exact ltT_trans (okT_lt HK.out (show t < m by omega) hmL) h)
      have HL2 : Hid (ltT (L.getD m zT) x = false → ∀ t, m ≤ t → t < n → ltT (L.getD t zT) x = false) := Lib.hid (fun h t ht htn => by
        by_cases e : t = m
        · rw [e]; exact h
        · cases hh : ltT (L.getD t zT) x
          · rfl
          · rw [ltT_trans (okT_lt HK.out (show m < t by omega) (by rw [HN.out]; exact htn)) hh] at h; cases h)
      generalize L.getD m zT = d at *
      rcases cmT_cases d x with ⟨hq, e⟩ | ⟨hq, -, -, e⟩ | ⟨hq, -, e⟩
      · have HC := Lib.hid e
        have HI : Hid ((∀ t, t < m + 1 → ltT (L.getD t zT) x = true) ∧ (∀ t, hi ≤ t → t < n → ltT (L.getD t zT) x = false)) := Lib.hid ⟨HL1.out hq, I.out.2⟩
        clear HL1 HL2 I hq e
        go_upto_region 5 with fail
        try rw [hmi]
        go_region_held3 (fun w' => w'.cell? ⟨g, o + m * 5, none⟩ = some (.int .i64 d.p) ∧ w'.cell? ⟨g, o + m * 5 + 1, none⟩ = some (.int .i64 d.v) ∧ w'.cell? ⟨g, o + m * 5 + 2, none⟩ = some (.int .i64 d.f) ∧ w'.cell? ⟨g, o + m * 5 + 3, none⟩ = some (.bool d.w) ∧ w'.cell? ⟨g, o + m * 5 + 4, none⟩ = some (.bool d.a) ∧ w'.cell? ⟨bx, 0, none⟩ = some (.int .i64 x.p) ∧ w'.cell? ⟨bx, 1, none⟩ = some (.int .i64 x.v) ∧ w'.cell? ⟨bx, 2, none⟩ = some (.int .i64 x.f) ∧ w'.cell? ⟨bx, 3, none⟩ = some (.bool x.w) ∧ w'.cell? ⟨bx, 4, none⟩ = some (.bool x.a))
          (refine ⟨?_, ?_, ?_, ?_, ?_, ?_, ?_, ?_, ?_, ?_⟩ <;> (repeat (first | (with_reducible assumption) | (with_reducible refine far_drew ?_))))
          (first
            | (go_at_call 38; (with_reducible refine (cmp_p HC.out).mono ?_); rintro e9 w2 ⟨rfl, g2⟩; have HG2 := Lib.hid (HGG.out.drew.trans g2); have e0 := (g2.cells.1 g _ hgl).trans (far_drew c0); have e1 := (g2.cells.1 g _ hgl).trans (far_drew c1); have e2 := (g2.cells.1 g _ hgl).trans (far_drew c2); have e3 := (g2.cells.1 g _ hgl).trans (far_drew c3); have e4 := (g2.cells.1 g _ hgl).trans (far_drew c4); have e5 := (g2.cells.1 bx _ hbl).trans (far_drew y0); have e6 := (g2.cells.1 bx _ hbl).trans (far_drew y1); have e7 := (g2.cells.1 bx _ hbl).trans (far_drew y2); have e8 := (g2.cells.1 bx _ hbl).trans (far_drew y3); have e9 := (g2.cells.1 bx _ hbl).trans (far_drew y4)))
        go_wp2
        go_roundg (hi - (m + 1))
        case measure => omega
        case rel => exact ⟨m + 1, hi, by go_num, rfl, by omega, hin, Nat.le_refl _, HG2, HI⟩
      · have HC := Lib.hid e
        have HI : Hid ((∀ t, t < lo → ltT (L.getD t zT) x = true) ∧ (∀ t, m ≤ t → t < n → ltT (L.getD t zT) x = false)) := Lib.hid ⟨I.out.1, HL2.out hq⟩
        clear HL1 HL2 I hq e
        go_upto_region 5 with fail
        try rw [hmi]
        go_region_held3 (fun w' => w'.cell? ⟨g, o + m * 5, none⟩ = some (.int .i64 d.p) ∧ w'.cell? ⟨g, o + m * 5 + 1, none⟩ = some (.int .i64 d.v) ∧ w'.cell? ⟨g, o + m * 5 + 2, none⟩ = some (.int .i64 d.f) ∧ w'.cell? ⟨g, o + m * 5 + 3, none⟩ = some (.bool d.w) ∧ w'.cell? ⟨g, o + m * 5 + 4, none⟩ = some (.bool d.a) ∧ w'.cell? ⟨bx, 0, none⟩ = some (.int .i64 x.p) ∧ w'.cell? ⟨bx, 1, none⟩ = some (.int .i64 x.v) ∧ w'.cell? ⟨bx, 2, none⟩ = some (.int .i64 x.f) ∧ w'.cell? ⟨bx, 3, none⟩ = some (.bool x.w) ∧ w'.cell? ⟨bx, 4, none⟩ = some (.bool x.a))
          (refine ⟨?_, ?_, ?_, ?_, ?_, ?_, ?_, ?_, ?_, ?_⟩ <;> (repeat (first | (with_reducible assumption) | (with_reducible refine far_drew ?_))))
          (first
            | (go_at_call 38; (with_reducible refine (cmp_p HC.out).mono ?_); rintro e9 w2 ⟨rfl, g2⟩; have HG2 := Lib.hid (HGG.out.drew.trans g2); have e0 := (g2.cells.1 g _ hgl).trans (far_drew c0); have e1 := (g2.cells.1 g _ hgl).trans (far_drew c1); have e2 := (g2.cells.1 g _ hgl).trans (far_drew c2); have e3 := (g2.cells.1 g _ hgl).trans (far_drew c3); have e4 := (g2.cells.1 g _ hgl).trans (far_drew c4); have e5 := (g2.cells.1 bx _ hbl).trans (far_drew y0); have e6 := (g2.cells.1 bx _ hbl).trans (far_drew y1); have e7 := (g2.cells.1 bx _ hbl).trans (far_drew y2); have e8 := (g2.cells.1 bx _ hbl).trans (far_drew y3); have e9 := (g2.cells.1 bx _ hbl).trans (far_drew y4)))
        go_wp2
        go_roundg (m - lo)
        case measure => omega
        case rel => exact ⟨lo, m, rfl, rfl, hm1, by omega, Nat.le_refl _, HG2, HI⟩
      · have HC := Lib.hid e
        have HI : Hid ((∀ t, t < lo → ltT (L.getD t zT) x = true) ∧ (∀ t, m ≤ t → t < n → ltT (L.getD t zT) x = false)) := Lib.hid ⟨I.out.1, HL2.out hq⟩
        clear HL1 HL2 I hq e
        go_upto_region 5 with fail
        try rw [hmi]
        go_region_held3 (fun w' => w'.cell? ⟨g, o + m * 5, none⟩ = some (.int .i64 d.p) ∧ w'.cell? ⟨g, o + m * 5 + 1, none⟩ = some (.int .i64 d.v) ∧ w'.cell? ⟨g, o + m * 5 + 2, none⟩ = some (.int .i64 d.f) ∧ w'.cell? ⟨g, o + m * 5 + 3, none⟩ = some (.bool d.w) ∧ w'.cell? ⟨g, o + m * 5 + 4, none⟩ = some (.bool d.a) ∧ w'.cell? ⟨bx, 0, none⟩ = some (.int .i64 x.p) ∧ w'.cell? ⟨bx, 1, none⟩ = some (.int .i64 x.v) ∧ w'.cell? ⟨bx, 2, none⟩ = some (.int .i64 x.f) ∧ w'.cell? ⟨bx, 3, none⟩ = some (.bool x.w) ∧ w'.cell? ⟨bx, 4, none⟩ = some (.bool x.a))
          (refine ⟨?_, ?_, ?_, ?_, ?_, ?_, ?_, ?_, ?_, ?_⟩ <;> (repeat (first | (with_reducible assumption) | (with_reducible refine far_drew ?_))))
          (first
            | (go_at_call 38; (with_reducible refine (cmp_p HC.out).mono ?_); rintro e9 w2 ⟨rfl, g2⟩; have HG2 := Lib.hid (HGG.out.drew.trans g2); have e0 := (g2.cells.1 g _ hgl).trans (far_drew c0); have e1 := (g2.cells.1 g _ hgl).trans (far_drew c1); have e2 := (g2.cells.1 g _ hgl).trans (far_drew c2); have e3 := (g2.cells.1 g _ hgl).trans (far_drew c3); have e4 := (g2.cells.1 g _ hgl).trans (far_drew c4); have e5 := (g2.cells.1 bx _ hbl).trans (far_drew y0); have e6 := (g2.cells.1 bx _ hbl).trans (far_drew y1); have e7 := (g2.cells.1 bx _ hbl).trans (far_drew y2); have e8 := (g2.cells.1 bx _ hbl).trans (far_drew y3); have e9 := (g2.cells.1 bx _ hbl).trans (far_drew y4)))
        go_wp2
        go_roundg (m - lo)
        case measure => omega
        case rel => exact ⟨lo, m, rfl, rfl, hm1, by omega, Nat.le_refl _, HG2, HI⟩
    · obtain rfl : hi = lo := by omega
      have HP : Hid (PosT L x hi) := Lib.hid ⟨by rw [HN.out]; exact hin, I.out.1, fun k h1 h2 => I.out.2 k h1 (by rw [← HN.out]; exact h2)⟩
      clear I
      by_cases hx : hi < n
      · have hmL : hi < L.length := by rw [HN.out]; exact hx
        have hx0 : (0 : Int) ≤ (hi : Int) := by omega
        have hx1 : (hi : Int) < (n : Int) := by omega
        obtain ⟨g, o, rfl, -, hgl, c0, c1, c2, c3, c4⟩ := (HZ.out.grew HGG.out).atT hmL
        have HH : Hid (hasT L x hi = skT (L.getD hi zT) x) := Lib.hid (hasT_at hmL)
        generalize L.getD hi zT = d at *
        rcases cmT_cases d x with ⟨hq, e⟩ | ⟨-, h1, h2, e⟩ | ⟨-, hq, e⟩
        · have HC := Lib.hid e
          have HE : Hid (hasT L x hi = false) := Lib.hid (HH.out.trans (skT_no.2 (by rw [ltT_iff] at hq; omega)))
          clear HH hq e
          go_upto_region 8 with fail
          refine wp_region_held_drew (S := fun w' => w'.cell? ⟨g, o + hi * 5, none⟩ = some (.int .i64 d.p) ∧ w'.cell? ⟨g, o + hi * 5 + 1, none⟩ = some (.int .i64 d.v) ∧ w'.cell? ⟨g, o + hi * 5 + 2, none⟩ = some (.int .i64 d.f) ∧ w'.cell? ⟨g, o + hi * 5 + 3, none⟩ = some (.bool d.w) ∧ w'.cell? ⟨g, o + hi * 5 + 4, none⟩ = some (.bool d.a) ∧ w'.cell? ⟨bx, 0, none⟩ = some (.int .i64 x.p) ∧ w'.cell? ⟨bx, 1, none⟩ = some (.int .i64 x.v) ∧ w'.cell? ⟨bx, 2, none⟩ = some (.int .i64 x.f) ∧ w'.cell? ⟨bx, 3, none⟩ = some (.bool x.w) ∧ w'.cell? ⟨bx, 4, none⟩ = some (.bool x.a)) (by kernel_rfl) ?_ (fun hHeld => ?_)
          · (try dsimp only); (refine ⟨?_, ?_, ?_, ?_, ?_, ?_, ?_, ?_, ?_, ?_⟩ <;> (repeat (first | (with_reducible assumption) | (with_reducible refine far_drew ?_))))
          first | refine wpAnyH_take (i := 0) (v := undef) rfl (by kernel_rfl) (by kernel_rfl) (by kernel_rfl) (fun _ _ _ h => h) (Or.inr ⟨by rfl, rfl⟩) (by assumption) ?_ | (refine' wpAnyH_take (i := 0) (v := _) rfl (by kernel_rfl) (by kernel_rfl) (by kernel_rfl) (fun _ _ _ h => h) (Or.inl ⟨by rfl, ?hy0a⟩) (by assumption) ?rest0a; case hy0a => (intro w hSw; (try dsimp only at hSw); (first | (go_simp; done) | (go_simp; with_reducible rfl))))
          try simp only [Act.put, List.setIfInBounds_toArray, List.set_cons_zero, List.set_cons_succ, List.getElem_toArray, List.getElem_cons_zero, List.getElem_cons_succ]
          first | refine wpAnyH_take (i := 1) (v := undef) rfl (by kernel_rfl) (by kernel_rfl) (by kernel_rfl) (fun _ _ _ h => h) (Or.inr ⟨by rfl, rfl⟩) (by assumption) ?_ | (refine' wpAnyH_take (i := 1) (v := _) rfl (by kernel_rfl) (by kernel_rfl) (by kernel_rfl) (fun _ _ _ h => h) (Or.inl ⟨by rfl, ?hy1a⟩) (by assumption) ?rest1a; case hy1a => (intro w hSw; (try dsimp only at hSw); (first | (go_simp; done) | (go_simp; with_reducible rfl))))
          try simp only [Act.put, List.setIfInBounds_toArray, List.set_cons_zero, List.set_cons_succ, List.getElem_toArray, List.getElem_cons_zero, List.getElem_cons_succ]
          first | refine wpAnyH_take (i := 2) (v := undef) rfl (by kernel_rfl) (by kernel_rfl) (by kernel_rfl) (fun _ _ _ h => h) (Or.inr ⟨by rfl, rfl⟩) (by assumption) ?_ | (refine' wpAnyH_take (i := 2) (v := _) rfl (by kernel_rfl) (by kernel_rfl) (by kernel_rfl) (fun _ _ _ h => h) (Or.inl ⟨by rfl, ?hy2a⟩) (by assumption) ?rest2a; case hy2a => (intro w hSw; (try dsimp only at hSw); (first | (go_simp; done) | (go_simp; with_reducible rfl))))
          try simp only [Act.put, List.setIfInBounds_toArray, List.set_cons_zero, List.set_cons_succ, List.getElem_toArray, List.getElem_cons_zero, List.getElem_cons_succ]
          first | refine wpAnyH_take (i := 3) (v := undef) rfl (by kernel_rfl) (by kernel_rfl) (by kernel_rfl) (fun _ _ _ h => h) (Or.inr ⟨by rfl, rfl⟩) (by assumption) ?_ | (refine' wpAnyH_take (i := 3) (v := _) rfl (by kernel_rfl) (by kernel_rfl) (by kernel_rfl) (fun _ _ _ h => h) (Or.inl ⟨by rfl, ?hy3a⟩) (by assumption) ?rest3a; case hy3a => (intro w hSw; (try dsimp only at hSw); (first | (go_simp; done) | (go_simp; with_reducible rfl))))
          try simp only [Act.put, List.setIfInBounds_toArray, List.set_cons_zero, List.set_cons_succ, List.getElem_toArray, List.getElem_cons_zero, List.getElem_cons_succ]
          first | refine wpAnyH_take (i := 4) (v := undef) rfl (by kernel_rfl) (by kernel_rfl) (by kernel_rfl) (fun _ _ _ h => h) (Or.inr ⟨by rfl, rfl⟩) (by assumption) ?_ | (refine' wpAnyH_take (i := 4) (v := _) rfl (by kernel_rfl) (by kernel_rfl) (by kernel_rfl) (fun _ _ _ h => h) (Or.inl ⟨by rfl, ?hy4a⟩) (by assumption) ?rest4a; case hy4a => (intro w hSw; (try dsimp only at hSw); (first | (go_simp; done) | (go_simp; with_reducible rfl))))
          try simp only [Act.put, List.setIfInBounds_toArray, List.set_cons_zero, List.set_cons_succ, List.getElem_toArray, List.getElem_cons_zero, List.getElem_cons_succ]
          first | refine wpAnyH_take (i := 5) (v := undef) rfl (by kernel_rfl) (by kernel_rfl) (by kernel_rfl) (fun _ _ _ h => h) (Or.inr ⟨by rfl, rfl⟩) (by assumption) ?_ | (refine' wpAnyH_take (i := 5) (v := _) rfl (by kernel_rfl) (by kernel_rfl) (by kernel_rfl) (fun _ _ _ h => h) (Or.inl ⟨by rfl, ?hy5a⟩) (by assumption) ?rest5a; case hy5a => (intro w hSw; (try dsimp only at hSw); (first | (go_simp; done) | (go_simp; with_reducible rfl))))
          try simp only [Act.put, List.setIfInBounds_toArray, List.set_cons_zero, List.set_cons_succ, List.getElem_toArray, List.getElem_cons_zero, List.getElem_cons_succ]
          first | refine wpAnyH_take (i := 6) (v := undef) rfl (by kernel_rfl) (by kernel_rfl) (by kernel_rfl) (fun _ _ _ h => h) (Or.inr ⟨by rfl, rfl⟩) (by assumption) ?_ | (refine' wpAnyH_take (i := 6) (v := _) rfl (by kernel_rfl) (by kernel_rfl) (by kernel_rfl) (fun _ _ _ h => h) (Or.inl ⟨by rfl, ?hy6a⟩) (by assumption) ?rest6a; case hy6a => (intro w hSw; (try dsimp only at hSw); (first | (go_simp; done) | (go_simp; with_reducible rfl))))
          try simp only [Act.put, List.setIfInBounds_toArray, List.set_cons_zero, List.set_cons_succ, List.getElem_toArray, List.getElem_cons_zero, List.getElem_cons_succ]
          first | refine wpAnyH_take (i := 7) (v := undef) rfl (by kernel_rfl) (by kernel_rfl) (by kernel_rfl) (fun _ _ _ h => h) (Or.inr ⟨by rfl, rfl⟩) (by assumption) ?_ | (refine' wpAnyH_take (i := 7) (v := _) rfl (by kernel_rfl) (by kernel_rfl) (by kernel_rfl) (fun _ _ _ h => h) (Or.inl ⟨by rfl, ?hy7a⟩) (by assumption) ?rest7a; case hy7a => (intro w hSw; (try dsimp only at hSw); (first | (go_simp; done) | (go_simp; with_reducible rfl))))
          try simp only [Act.put, List.setIfInBounds_toArray, List.set_cons_zero, List.set_cons_succ, List.getElem_toArray, List.getElem_cons_zero, List.getElem_cons_succ]
          first | refine wpAnyH_take (i := 8) (v := undef) rfl (by kernel_rfl) (by kernel_rfl) (by kernel_rfl) (fun _ _ _ h => h) (Or.inr ⟨by rfl, rfl⟩) (by assumption) ?_ | (refine' wpAnyH_take (i := 8) (v := _) rfl (by kernel_rfl) (by kernel_rfl) (by kernel_rfl) (fun _ _ _ h => h) (Or.inl ⟨by rfl, ?hy8a⟩) (by assumption) ?rest8a; case hy8a => (intro w hSw; (try dsimp only at hSw); (first | (go_simp; done) | (go_simp; with_reducible rfl))))
          try simp only [Act.put, List.setIfInBounds_toArray, List.set_cons_zero, List.set_cons_succ, List.getElem_toArray, List.getElem_cons_zero, List.getElem_cons_succ]
          first | refine wpAnyH_take (i := 9) (v := undef) rfl (by kernel_rfl) (by kernel_rfl) (by kernel_rfl) (fun _ _ _ h => h) (Or.inr ⟨by rfl, rfl⟩) (by assumption) ?_ | (refine' wpAnyH_take (i := 9) (v := _) rfl (by kernel_rfl) (by kernel_rfl) (by kernel_rfl) (fun _ _ _ h => h) (Or.inl ⟨by rfl, ?hy9a⟩) (by assumption) ?rest9a; case hy9a => (intro w hSw; (try dsimp only at hSw); (first | (go_simp; done) | (go_simp; with_reducible rfl))))
          try simp only [Act.put, List.setIfInBounds_toArray, List.set_cons_zero, List.set_cons_succ, List.getElem_toArray, List.getElem_cons_zero, List.getElem_cons_succ]
          first | refine wpAnyH_take (i := 10) (v := undef) rfl (by kernel_rfl) (by kernel_rfl) (by kernel_rfl) (fun _ _ _ h => h) (Or.inr ⟨by rfl, rfl⟩) (by assumption) ?_ | (refine' wpAnyH_take (i := 10) (v := _) rfl (by kernel_rfl) (by kernel_rfl) (by kernel_rfl) (fun _ _ _ h => h) (Or.inl ⟨by rfl, ?hy10a⟩) (by assumption) ?rest10a; case hy10a => (intro w hSw; (try dsimp only at hSw); (first | (go_simp; done) | (go_simp; with_reducible rfl))))
          try simp only [Act.put, List.setIfInBounds_toArray, List.set_cons_zero, List.set_cons_succ, List.getElem_toArray, List.getElem_cons_zero, List.getElem_cons_succ]
          refine wpAnyH_ready (rs := [11]) (by kernel_rfl) (by simp) ?_
          refine AllReadyH.cons rfl (fun K hK => ?_) AllReadyH.nil
          try simp only [Act.put, List.setIfInBounds_toArray, List.set_cons_zero, List.set_cons_succ, List.getElem_toArray, List.getElem_cons_zero, List.getElem_cons_succ]
          go_simp; go_at_call 38; (with_reducible refine (cmp_p HC.out).mono ?_); rintro e9 w2 ⟨rfl, g2⟩; have HG2 := Lib.hid (HGG.out.drew.trans g2); have e0 := (g2.cells.1 g _ hgl).trans (far_drew c0); have e1 := (g2.cells.1 g _ hgl).trans (far_drew c1); have e2 := (g2.cells.1 g _ hgl).trans (far_drew c2); have e3 := (g2.cells.1 g _ hgl).trans (far_drew c3); have e4 := (g2.cells.1 g _ hgl).trans (far_drew c4); have e5 := (g2.cells.1 bx _ hbl).trans (far_drew y0); have e6 := (g2.cells.1 bx _ hbl).trans (far_drew y1); have e7 := (g2.cells.1 bx _ hbl).trans (far_drew y2); have e8 := (g2.cells.1 bx _ hbl).trans (far_drew y3); have e9 := (g2.cells.1 bx _ hbl).trans (far_drew y4)
          refine hK.out _ _ ?_ (fun hHeld => ?_)
          · (try dsimp only); (refine ⟨?_, ?_, ?_, ?_, ?_, ?_, ?_, ?_, ?_, ?_⟩ <;> (repeat (first | (with_reducible assumption) | (with_reducible refine far_drew ?_))))
          clear hK K
          try simp only [Act.put, List.setIfInBounds_toArray, List.set_cons_zero, List.set_cons_succ, List.getElem_toArray, List.getElem_cons_zero, List.getElem_cons_succ]
          first | refine wpAnyH_take (i := 12) (v := undef) rfl (by kernel_rfl) (by kernel_rfl) (by kernel_rfl) (fun _ _ _ h => h) (Or.inr ⟨by rfl, rfl⟩) (by assumption) ?_ | (refine' wpAnyH_take (i := 12) (v := _) rfl (by kernel_rfl) (by kernel_rfl) (by kernel_rfl) (fun _ _ _ h => h) (Or.inl ⟨by rfl, ?hy12a⟩) (by assumption) ?rest12a; case hy12a => (intro w hSw; (try dsimp only at hSw); (first | (go_simp; done) | (go_simp; with_reducible rfl))))
          try simp only [Act.put, List.setIfInBounds_toArray, List.set_cons_zero, List.set_cons_succ, List.getElem_toArray, List.getElem_cons_zero, List.getElem_cons_succ]
          first | refine wpAnyH_take (i := 13) (v := undef) rfl (by kernel_rfl) (by kernel_rfl) (by kernel_rfl) (fun _ _ _ h => h) (Or.inr ⟨by rfl, rfl⟩) (by assumption) ?_ | (refine' wpAnyH_take (i := 13) (v := _) rfl (by kernel_rfl) (by kernel_rfl) (by kernel_rfl) (fun _ _ _ h => h) (Or.inl ⟨by rfl, ?hy13a⟩) (by assumption) ?rest13a; case hy13a => (intro w hSw; (try dsimp only at hSw); (first | (go_simp; done) | (go_simp; with_reducible rfl))))
          try simp only [Act.put, List.setIfInBounds_toArray, List.set_cons_zero, List.set_cons_succ, List.getElem_toArray, List.getElem_cons_zero, List.getElem_cons_succ]
          first | refine wpAnyH_take (i := 14) (v := undef) rfl (by kernel_rfl) (by kernel_rfl) (by kernel_rfl) (fun _ _ _ h => h) (Or.inr ⟨by rfl, rfl⟩) (by assumption) ?_ | (refine' wpAnyH_take (i := 14) (v := _) rfl (by kernel_rfl) (by kernel_rfl) (by kernel_rfl) (fun _ _ _ h => h) (Or.inl ⟨by rfl, ?hy14a⟩) (by assumption) ?rest14a; case hy14a => (intro w hSw; (try dsimp only at hSw); (first | (go_simp; done) | (go_simp; with_reducible rfl))))
          try simp only [Act.put, List.setIfInBounds_toArray, List.set_cons_zero, List.set_cons_succ, List.getElem_toArray, List.getElem_cons_zero, List.getElem_cons_succ]
          first | refine wpAnyH_take (i := 15) (v := undef) rfl (by kernel_rfl) (by kernel_rfl) (by kernel_rfl) (fun _ _ _ h => h) (Or.inr ⟨by rfl, rfl⟩) (by assumption) ?_ | (refine' wpAnyH_take (i := 15) (v := _) rfl (by kernel_rfl) (by kernel_rfl) (by kernel_rfl) (fun _ _ _ h => h) (Or.inl ⟨by rfl, ?hy15a⟩) (by assumption) ?rest15a; case hy15a => (intro w hSw; (try dsimp only at hSw); (first | (go_simp; done) | (go_simp; with_reducible rfl))))
          try simp only [Act.put, List.setIfInBounds_toArray, List.set_cons_zero, List.set_cons_succ, List.getElem_toArray, List.getElem_cons_zero, List.getElem_cons_succ]
          refine wpAnyH_done (by kernel_rfl) ?_ _
          go_wp2
          refine bodyPost_ret (v := .tuple #[.int .i64 hi, .bool false]) (by simp [results, Try.results42, go_sem]) rfl ?_
          exact ⟨hi, by rw [HE.out], HP.out, HG.out.trans HG2.out⟩
        · have HC := Lib.hid e
          have HE : Hid (hasT L x hi = true) := Lib.hid (HH.out.trans (skT_iff.2 ⟨h1, h2⟩))
          clear HH h1 h2 e
          go_upto_region 8 with fail
          refine wp_region_held_drew (S := fun w' => w'.cell? ⟨g, o + hi * 5, none⟩ = some (.int .i64 d.p) ∧ w'.cell? ⟨g, o + hi * 5 + 1, none⟩ = some (.int .i64 d.v) ∧ w'.cell? ⟨g, o + hi * 5 + 2, none⟩ = some (.int .i64 d.f) ∧ w'.cell? ⟨g, o + hi * 5 + 3, none⟩ = some (.bool d.w) ∧ w'.cell? ⟨g, o + hi * 5 + 4, none⟩ = some (.bool d.a) ∧ w'.cell? ⟨bx, 0, none⟩ = some (.int .i64 x.p) ∧ w'.cell? ⟨bx, 1, none⟩ = some (.int .i64 x.v) ∧ w'.cell? ⟨bx, 2, none⟩ = some (.int .i64 x.f) ∧ w'.cell? ⟨bx, 3, none⟩ = some (.bool x.w) ∧ w'.cell? ⟨bx, 4, none⟩ = some (.bool x.a)) (by kernel_rfl) ?_ (fun hHeld => ?_)
          · (try dsimp only); (refine ⟨?_, ?_, ?_, ?_, ?_, ?_, ?_, ?_, ?_, ?_⟩ <;> (repeat (first | (with_reducible assumption) | (with_reducible refine far_drew ?_))))
          first | refine wpAnyH_take (i := 0) (v := undef) rfl (by kernel_rfl) (by kernel_rfl) (by kernel_rfl) (fun _ _ _ h => h) (Or.inr ⟨by rfl, rfl⟩) (by assumption) ?_ | (refine' wpAnyH_take (i := 0) (v := _) rfl (by kernel_rfl) (by kernel_rfl) (by kernel_rfl) (fun _ _ _ h => h) (Or.inl ⟨by rfl, ?hy0b⟩) (by assumption) ?rest0b; case hy0b => (intro w hSw; (try dsimp only at hSw); (first | (go_simp; done) | (go_simp; with_reducible rfl))))
          try simp only [Act.put, List.setIfInBounds_toArray, List.set_cons_zero, List.set_cons_succ, List.getElem_toArray, List.getElem_cons_zero, List.getElem_cons_succ]
          first | refine wpAnyH_take (i := 1) (v := undef) rfl (by kernel_rfl) (by kernel_rfl) (by kernel_rfl) (fun _ _ _ h => h) (Or.inr ⟨by rfl, rfl⟩) (by assumption) ?_ | (refine' wpAnyH_take (i := 1) (v := _) rfl (by kernel_rfl) (by kernel_rfl) (by kernel_rfl) (fun _ _ _ h => h) (Or.inl ⟨by rfl, ?hy1b⟩) (by assumption) ?rest1b; case hy1b => (intro w hSw; (try dsimp only at hSw); (first | (go_simp; done) | (go_simp; with_reducible rfl))))
          try simp only [Act.put, List.setIfInBounds_toArray, List.set_cons_zero, List.set_cons_succ, List.getElem_toArray, List.getElem_cons_zero, List.getElem_cons_succ]
          first | refine wpAnyH_take (i := 2) (v := undef) rfl (by kernel_rfl) (by kernel_rfl) (by kernel_rfl) (fun _ _ _ h => h) (Or.inr ⟨by rfl, rfl⟩) (by assumption) ?_ | (refine' wpAnyH_take (i := 2) (v := _) rfl (by kernel_rfl) (by kernel_rfl) (by kernel_rfl) (fun _ _ _ h => h) (Or.inl ⟨by rfl, ?hy2b⟩) (by assumption) ?rest2b; case hy2b => (intro w hSw; (try dsimp only at hSw); (first | (go_simp; done) | (go_simp; with_reducible rfl))))
          try simp only [Act.put, List.setIfInBounds_toArray, List.set_cons_zero, List.set_cons_succ, List.getElem_toArray, List.getElem_cons_zero, List.getElem_cons_succ]
          first | refine wpAnyH_take (i := 3) (v := undef) rfl (by kernel_rfl) (by kernel_rfl) (by kernel_rfl) (fun _ _ _ h => h) (Or.inr ⟨by rfl, rfl⟩) (by assumption) ?_ | (refine' wpAnyH_take (i := 3) (v := _) rfl (by kernel_rfl) (by kernel_rfl) (by kernel_rfl) (fun _ _ _ h => h) (Or.inl ⟨by rfl, ?hy3b⟩) (by assumption) ?rest3b; case hy3b => (intro w hSw; (try dsimp only at hSw); (first | (go_simp; done) | (go_simp; with_reducible rfl))))
          try simp only [Act.put, List.setIfInBounds_toArray, List.set_cons_zero, List.set_cons_succ, List.getElem_toArray, List.getElem_cons_zero, List.getElem_cons_succ]
          first | refine wpAnyH_take (i := 4) (v := undef) rfl (by kernel_rfl) (by kernel_rfl) (by kernel_rfl) (fun _ _ _ h => h) (Or.inr ⟨by rfl, rfl⟩) (by assumption) ?_ | (refine' wpAnyH_take (i := 4) (v := _) rfl (by kernel_rfl) (by kernel_rfl) (by kernel_rfl) (fun _ _ _ h => h) (Or.inl ⟨by rfl, ?hy4b⟩) (by assumption) ?rest4b; case hy4b => (intro w hSw; (try dsimp only at hSw); (first | (go_simp; done) | (go_simp; with_reducible rfl))))
          try simp only [Act.put, List.setIfInBounds_toArray, List.set_cons_zero, List.set_cons_succ, List.getElem_toArray, List.getElem_cons_zero, List.getElem_cons_succ]
          first | refine wpAnyH_take (i := 5) (v := undef) rfl (by kernel_rfl) (by kernel_rfl) (by kernel_rfl) (fun _ _ _ h => h) (Or.inr ⟨by rfl, rfl⟩) (by assumption) ?_ | (refine' wpAnyH_take (i := 5) (v := _) rfl (by kernel_rfl) (by kernel_rfl) (by kernel_rfl) (fun _ _ _ h => h) (Or.inl ⟨by rfl, ?hy5b⟩) (by assumption) ?rest5b; case hy5b => (intro w hSw; (try dsimp only at hSw); (first | (go_simp; done) | (go_simp; with_reducible rfl))))
          try simp only [Act.put, List.setIfInBounds_toArray, List.set_cons_zero, List.set_cons_succ, List.getElem_toArray, List.getElem_cons_zero, List.getElem_cons_succ]
          first | refine wpAnyH_take (i := 6) (v := undef) rfl (by kernel_rfl) (by kernel_rfl) (by kernel_rfl) (fun _ _ _ h => h) (Or.inr ⟨by rfl, rfl⟩) (by assumption) ?_ | (refine' wpAnyH_take (i := 6) (v := _) rfl (by kernel_rfl) (by kernel_rfl) (by kernel_rfl) (fun _ _ _ h => h) (Or.inl ⟨by rfl, ?hy6b⟩) (by assumption) ?rest6b; case hy6b => (intro w hSw; (try dsimp only at hSw); (first | (go_simp; done) | (go_simp; with_reducible rfl))))
          try simp only [Act.put, List.setIfInBounds_toArray, List.set_cons_zero, List.set_cons_succ, List.getElem_toArray, List.getElem_cons_zero, List.getElem_cons_succ]
          first | refine wpAnyH_take (i := 7) (v := undef) rfl (by kernel_rfl) (by kernel_rfl) (by kernel_rfl) (fun _ _ _ h => h) (Or.inr ⟨by rfl, rfl⟩) (by assumption) ?_ | (refine' wpAnyH_take (i := 7) (v := _) rfl (by kernel_rfl) (by kernel_rfl) (by kernel_rfl) (fun _ _ _ h => h) (Or.inl ⟨by rfl, ?hy7b⟩) (by assumption) ?rest7b; case hy7b => (intro w hSw; (try dsimp only at hSw); (first | (go_simp; done) | (go_simp; with_reducible rfl))))
          try simp only [Act.put, List.setIfInBounds_toArray, List.set_cons_zero, List.set_cons_succ, List.getElem_toArray, List.getElem_cons_zero, List.getElem_cons_succ]
          first | refine wpAnyH_take (i := 8) (v := undef) rfl (by kernel_rfl) (by kernel_rfl) (by kernel_rfl) (fun _ _ _ h => h) (Or.inr ⟨by rfl, rfl⟩) (by assumption) ?_ | (refine' wpAnyH_take (i := 8) (v := _) rfl (by kernel_rfl) (by kernel_rfl) (by kernel_rfl) (fun _ _ _ h => h) (Or.inl ⟨by rfl, ?hy8b⟩) (by assumption) ?rest8b; case hy8b => (intro w hSw; (try dsimp only at hSw); (first | (go_simp; done) | (go_simp; with_reducible rfl))))
          try simp only [Act.put, List.setIfInBounds_toArray, List.set_cons_zero, List.set_cons_succ, List.getElem_toArray, List.getElem_cons_zero, List.getElem_cons_succ]
          first | refine wpAnyH_take (i := 9) (v := undef) rfl (by kernel_rfl) (by kernel_rfl) (by kernel_rfl) (fun _ _ _ h => h) (Or.inr ⟨by rfl, rfl⟩) (by assumption) ?_ | (refine' wpAnyH_take (i := 9) (v := _) rfl (by kernel_rfl) (by kernel_rfl) (by kernel_rfl) (fun _ _ _ h => h) (Or.inl ⟨by rfl, ?hy9b⟩) (by assumption) ?rest9b; case hy9b => (intro w hSw; (try dsimp only at hSw); (first | (go_simp; done) | (go_simp; with_reducible rfl))))
          try simp only [Act.put, List.setIfInBounds_toArray, List.set_cons_zero, List.set_cons_succ, List.getElem_toArray, List.getElem_cons_zero, List.getElem_cons_succ]
          first | refine wpAnyH_take (i := 10) (v := undef) rfl (by kernel_rfl) (by kernel_rfl) (by kernel_rfl) (fun _ _ _ h => h) (Or.inr ⟨by rfl, rfl⟩) (by assumption) ?_ | (refine' wpAnyH_take (i := 10) (v := _) rfl (by kernel_rfl) (by kernel_rfl) (by kernel_rfl) (fun _ _ _ h => h) (Or.inl ⟨by rfl, ?hy10b⟩) (by assumption) ?rest10b; case hy10b => (intro w hSw; (try dsimp only at hSw); (first | (go_simp; done) | (go_simp; with_reducible rfl))))
          try simp only [Act.put, List.setIfInBounds_toArray, List.set_cons_zero, List.set_cons_succ, List.getElem_toArray, List.getElem_cons_zero, List.getElem_cons_succ]
          refine wpAnyH_ready (rs := [11]) (by kernel_rfl) (by simp) ?_
          refine AllReadyH.cons rfl (fun K hK => ?_) AllReadyH.nil
          try simp only [Act.put, List.setIfInBounds_toArray, List.set_cons_zero, List.set_cons_succ, List.getElem_toArray, List.getElem_cons_zero, List.getElem_cons_succ]
          go_simp; go_at_call 38; (with_reducible refine (cmp_p HC.out).mono ?_); rintro e9 w2 ⟨rfl, g2⟩; have HG2 := Lib.hid (HGG.out.drew.trans g2); have e0 := (g2.cells.1 g _ hgl).trans (far_drew c0); have e1 := (g2.cells.1 g _ hgl).trans (far_drew c1); have e2 := (g2.cells.1 g _ hgl).trans (far_drew c2); have e3 := (g2.cells.1 g _ hgl).trans (far_drew c3); have e4 := (g2.cells.1 g _ hgl).trans (far_drew c4); have e5 := (g2.cells.1 bx _ hbl).trans (far_drew y0); have e6 := (g2.cells.1 bx _ hbl).trans (far_drew y1); have e7 := (g2.cells.1 bx _ hbl).trans (far_drew y2); have e8 := (g2.cells.1 bx _ hbl).trans (far_drew y3); have e9 := (g2.cells.1 bx _ hbl).trans (far_drew y4)
          refine hK.out _ _ ?_ (fun hHeld => ?_)
          · (try dsimp only); (refine ⟨?_, ?_, ?_, ?_, ?_, ?_, ?_, ?_, ?_, ?_⟩ <;> (repeat (first | (with_reducible assumption) | (with_reducible refine far_drew ?_))))
          clear hK K
          try simp only [Act.put, List.setIfInBounds_toArray, List.set_cons_zero, List.set_cons_succ, List.getElem_toArray, List.getElem_cons_zero, List.getElem_cons_succ]
          first | refine wpAnyH_take (i := 12) (v := undef) rfl (by kernel_rfl) (by kernel_rfl) (by kernel_rfl) (fun _ _ _ h => h) (Or.inr ⟨by rfl, rfl⟩) (by assumption) ?_ | (refine' wpAnyH_take (i := 12) (v := _) rfl (by kernel_rfl) (by kernel_rfl) (by kernel_rfl) (fun _ _ _ h => h) (Or.inl ⟨by rfl, ?hy12b⟩) (by assumption) ?rest12b; case hy12b => (intro w hSw; (try dsimp only at hSw); (first | (go_simp; done) | (go_simp; with_reducible rfl))))
          try simp only [Act.put, List.setIfInBounds_toArray, List.set_cons_zero, List.set_cons_succ, List.getElem_toArray, List.getElem_cons_zero, List.getElem_cons_succ]
          first | refine wpAnyH_take (i := 13) (v := undef) rfl (by kernel_rfl) (by kernel_rfl) (by kernel_rfl) (fun _ _ _ h => h) (Or.inr ⟨by rfl, rfl⟩) (by assumption) ?_ | (refine' wpAnyH_take (i := 13) (v := _) rfl (by kernel_rfl) (by kernel_rfl) (by kernel_rfl) (fun _ _ _ h => h) (Or.inl ⟨by rfl, ?hy13b⟩) (by assumption) ?rest13b; case hy13b => (intro w hSw; (try dsimp only at hSw); (first | (go_simp; done) | (go_simp; with_reducible rfl))))
          try simp only [Act.put, List.setIfInBounds_toArray, List.set_cons_zero, List.set_cons_succ, List.getElem_toArray, List.getElem_cons_zero, List.getElem_cons_succ]
          first | refine wpAnyH_take (i := 14) (v := undef) rfl (by kernel_rfl) (by kernel_rfl) (by kernel_rfl) (fun _ _ _ h => h) (Or.inr ⟨by rfl, rfl⟩) (by assumption) ?_ | (refine' wpAnyH_take (i := 14) (v := _) rfl (by kernel_rfl) (by kernel_rfl) (by kernel_rfl) (fun _ _ _ h => h) (Or.inl ⟨by rfl, ?hy14b⟩) (by assumption) ?rest14b; case hy14b => (intro w hSw; (try dsimp only at hSw); (first | (go_simp; done) | (go_simp; with_reducible rfl))))
          try simp only [Act.put, List.setIfInBounds_toArray, List.set_cons_zero, List.set_cons_succ, List.getElem_toArray, List.getElem_cons_zero, List.getElem_cons_succ]
          first | refine wpAnyH_take (i := 15) (v := undef) rfl (by kernel_rfl) (by kernel_rfl) (by kernel_rfl) (fun _ _ _ h => h) (Or.inr ⟨by rfl, rfl⟩) (by assumption) ?_ | (refine' wpAnyH_take (i := 15) (v := _) rfl (by kernel_rfl) (by kernel_rfl) (by kernel_rfl) (fun _ _ _ h => h) (Or.inl ⟨by rfl, ?hy15b⟩) (by assumption) ?rest15b; case hy15b => (intro w hSw; (try dsimp only at hSw); (first | (go_simp; done) | (go_simp; with_reducible rfl))))
          try simp only [Act.put, List.setIfInBounds_toArray, List.set_cons_zero, List.set_cons_succ, List.getElem_toArray, List.getElem_cons_zero, List.getElem_cons_succ]
          refine wpAnyH_done (by kernel_rfl) ?_ _
          go_wp2
          refine bodyPost_ret (v := .tuple #[.int .i64 hi, .bool true]) (by simp [results, Try.results42, go_sem]) rfl ?_
          exact ⟨hi, by rw [HE.out], HP.out, HG.out.trans HG2.out⟩
        · have HC := Lib.hid e
          have HE : Hid (hasT L x hi = false) := Lib.hid (HH.out.trans (skT_no.2 (by rw [ltT_iff] at hq; omega)))
          clear HH hq e
          go_upto_region 8 with fail
          refine wp_region_held_drew (S := fun w' => w'.cell? ⟨g, o + hi * 5, none⟩ = some (.int .i64 d.p) ∧ w'.cell? ⟨g, o + hi * 5 + 1, none⟩ = some (.int .i64 d.v) ∧ w'.cell? ⟨g, o + hi * 5 + 2, none⟩ = some (.int .i64 d.f) ∧ w'.cell? ⟨g, o + hi * 5 + 3, none⟩ = some (.bool d.w) ∧ w'.cell? ⟨g, o + hi * 5 + 4, none⟩ = some (.bool d.a) ∧ w'.cell? ⟨bx, 0, none⟩ = some (.int .i64 x.p) ∧ w'.cell? ⟨bx, 1, none⟩ = some (.int .i64 x.v) ∧ w'.cell? ⟨bx, 2, none⟩ = some (.int .i64 x.f) ∧ w'.cell? ⟨bx, 3, none⟩ = some (.bool x.w) ∧ w'.cell? ⟨bx, 4, none⟩ = some (.bool x.a)) (by kernel_rfl) ?_ (fun hHeld => ?_)
          · (try dsimp only); (refine ⟨?_, ?_, ?_, ?_, ?_, ?_, ?_, ?_, ?_, ?_⟩ <;> (repeat (first | (with_reducible assumption) | (with_reducible refine far_drew ?_))))
          first | refine wpAnyH_take (i := 0) (v := undef) rfl (by kernel_rfl) (by kernel_rfl) (by kernel_rfl) (fun _ _ _ h => h) (Or.inr ⟨by rfl, rfl⟩) (by assumption) ?_ | (refine' wpAnyH_take (i := 0) (v := _) rfl (by kernel_rfl) (by kernel_rfl) (by kernel_rfl) (fun _ _ _ h => h) (Or.inl ⟨by rfl, ?hy0c⟩) (by assumption) ?rest0c; case hy0c => (intro w hSw; (try dsimp only at hSw); (first | (go_simp; done) | (go_simp; with_reducible rfl))))
          try simp only [Act.put, List.setIfInBounds_toArray, List.set_cons_zero, List.set_cons_succ, List.getElem_toArray, List.getElem_cons_zero, List.getElem_cons_succ]
          first | refine wpAnyH_take (i := 1) (v := undef) rfl (by kernel_rfl) (by kernel_rfl) (by kernel_rfl) (fun _ _ _ h => h) (Or.inr ⟨by rfl, rfl⟩) (by assumption) ?_ | (refine' wpAnyH_take (i := 1) (v := _) rfl (by kernel_rfl) (by kernel_rfl) (by kernel_rfl) (fun _ _ _ h => h) (Or.inl ⟨by rfl, ?hy1c⟩) (by assumption) ?rest1c; case hy1c => (intro w hSw; (try dsimp only at hSw); (first | (go_simp; done) | (go_simp; with_reducible rfl))))
          try simp only [Act.put, List.setIfInBounds_toArray, List.set_cons_zero, List.set_cons_succ, List.getElem_toArray, List.getElem_cons_zero, List.getElem_cons_succ]
          first | refine wpAnyH_take (i := 2) (v := undef) rfl (by kernel_rfl) (by kernel_rfl) (by kernel_rfl) (fun _ _ _ h => h) (Or.inr ⟨by rfl, rfl⟩) (by assumption) ?_ | (refine' wpAnyH_take (i := 2) (v := _) rfl (by kernel_rfl) (by kernel_rfl) (by kernel_rfl) (fun _ _ _ h => h) (Or.inl ⟨by rfl, ?hy2c⟩) (by assumption) ?rest2c; case hy2c => (intro w hSw; (try dsimp only at hSw); (first | (go_simp; done) | (go_simp; with_reducible rfl))))
          try simp only [Act.put, List.setIfInBounds_toArray, List.set_cons_zero, List.set_cons_succ, List.getElem_toArray, List.getElem_cons_zero, List.getElem_cons_succ]
          first | refine wpAnyH_take (i := 3) (v := undef) rfl (by kernel_rfl) (by kernel_rfl) (by kernel_rfl) (fun _ _ _ h => h) (Or.inr ⟨by rfl, rfl⟩) (by assumption) ?_ | (refine' wpAnyH_take (i := 3) (v := _) rfl (by kernel_rfl) (by kernel_rfl) (by kernel_rfl) (fun _ _ _ h => h) (Or.inl ⟨by rfl, ?hy3c⟩) (by assumption) ?rest3c; case hy3c => (intro w hSw; (try dsimp only at hSw); (first | (go_simp; done) | (go_simp; with_reducible rfl))))
          try simp only [Act.put, List.setIfInBounds_toArray, List.set_cons_zero, List.set_cons_succ, List.getElem_toArray, List.getElem_cons_zero, List.getElem_cons_succ]
          first | refine wpAnyH_take (i := 4) (v := undef) rfl (by kernel_rfl) (by kernel_rfl) (by kernel_rfl) (fun _ _ _ h => h) (Or.inr ⟨by rfl, rfl⟩) (by assumption) ?_ | (refine' wpAnyH_take (i := 4) (v := _) rfl (by kernel_rfl) (by kernel_rfl) (by kernel_rfl) (fun _ _ _ h => h) (Or.inl ⟨by rfl, ?hy4c⟩) (by assumption) ?rest4c; case hy4c => (intro w hSw; (try dsimp only at hSw); (first | (go_simp; done) | (go_simp; with_reducible rfl))))
          try simp only [Act.put, List.setIfInBounds_toArray, List.set_cons_zero, List.set_cons_succ, List.getElem_toArray, List.getElem_cons_zero, List.getElem_cons_succ]
          first | refine wpAnyH_take (i := 5) (v := undef) rfl (by kernel_rfl) (by kernel_rfl) (by kernel_rfl) (fun _ _ _ h => h) (Or.inr ⟨by rfl, rfl⟩) (by assumption) ?_ | (refine' wpAnyH_take (i := 5) (v := _) rfl (by kernel_rfl) (by kernel_rfl) (by kernel_rfl) (fun _ _ _ h => h) (Or.inl ⟨by rfl, ?hy5c⟩) (by assumption) ?rest5c; case hy5c => (intro w hSw; (try dsimp only at hSw); (first | (go_simp; done) | (go_simp; with_reducible rfl))))
          try simp only [Act.put, List.setIfInBounds_toArray, List.set_cons_zero, List.set_cons_succ, List.getElem_toArray, List.getElem_cons_zero, List.getElem_cons_succ]
          first | refine wpAnyH_take (i := 6) (v := undef) rfl (by kernel_rfl) (by kernel_rfl) (by kernel_rfl) (fun _ _ _ h => h) (Or.inr ⟨by rfl, rfl⟩) (by assumption) ?_ | (refine' wpAnyH_take (i := 6) (v := _) rfl (by kernel_rfl) (by kernel_rfl) (by kernel_rfl) (fun _ _ _ h => h) (Or.inl ⟨by rfl, ?hy6c⟩) (by assumption) ?rest6c; case hy6c => (intro w hSw; (try dsimp only at hSw); (first | (go_simp; done) | (go_simp; with_reducible rfl))))
          try simp only [Act.put, List.setIfInBounds_toArray, List.set_cons_zero, List.set_cons_succ, List.getElem_toArray, List.getElem_cons_zero, List.getElem_cons_succ]
          first | refine wpAnyH_take (i := 7) (v := undef) rfl (by kernel_rfl) (by kernel_rfl) (by kernel_rfl) (fun _ _ _ h => h) (Or.inr ⟨by rfl, rfl⟩) (by assumption) ?_ | (refine' wpAnyH_take (i := 7) (v := _) rfl (by kernel_rfl) (by kernel_rfl) (by kernel_rfl) (fun _ _ _ h => h) (Or.inl ⟨by rfl, ?hy7c⟩) (by assumption) ?rest7c; case hy7c => (intro w hSw; (try dsimp only at hSw); (first | (go_simp; done) | (go_simp; with_reducible rfl))))
          try simp only [Act.put, List.setIfInBounds_toArray, List.set_cons_zero, List.set_cons_succ, List.getElem_toArray, List.getElem_cons_zero, List.getElem_cons_succ]
          first | refine wpAnyH_take (i := 8) (v := undef) rfl (by kernel_rfl) (by kernel_rfl) (by kernel_rfl) (fun _ _ _ h => h) (Or.inr ⟨by rfl, rfl⟩) (by assumption) ?_ | (refine' wpAnyH_take (i := 8) (v := _) rfl (by kernel_rfl) (by kernel_rfl) (by kernel_rfl) (fun _ _ _ h => h) (Or.inl ⟨by rfl, ?hy8c⟩) (by assumption) ?rest8c; case hy8c => (intro w hSw; (try dsimp only at hSw); (first | (go_simp; done) | (go_simp; with_reducible rfl))))
          try simp only [Act.put, List.setIfInBounds_toArray, List.set_cons_zero, List.set_cons_succ, List.getElem_toArray, List.getElem_cons_zero, List.getElem_cons_succ]
          first | refine wpAnyH_take (i := 9) (v := undef) rfl (by kernel_rfl) (by kernel_rfl) (by kernel_rfl) (fun _ _ _ h => h) (Or.inr ⟨by rfl, rfl⟩) (by assumption) ?_ | (refine' wpAnyH_take (i := 9) (v := _) rfl (by kernel_rfl) (by kernel_rfl) (by kernel_rfl) (fun _ _ _ h => h) (Or.inl ⟨by rfl, ?hy9c⟩) (by assumption) ?rest9c; case hy9c => (intro w hSw; (try dsimp only at hSw); (first | (go_simp; done) | (go_simp; with_reducible rfl))))
          try simp only [Act.put, List.setIfInBounds_toArray, List.set_cons_zero, List.set_cons_succ, List.getElem_toArray, List.getElem_cons_zero, List.getElem_cons_succ]
          first | refine wpAnyH_take (i := 10) (v := undef) rfl (by kernel_rfl) (by kernel_rfl) (by kernel_rfl) (fun _ _ _ h => h) (Or.inr ⟨by rfl, rfl⟩) (by assumption) ?_ | (refine' wpAnyH_take (i := 10) (v := _) rfl (by kernel_rfl) (by kernel_rfl) (by kernel_rfl) (fun _ _ _ h => h) (Or.inl ⟨by rfl, ?hy10c⟩) (by assumption) ?rest10c; case hy10c => (intro w hSw; (try dsimp only at hSw); (first | (go_simp; done) | (go_simp; with_reducible rfl))))
          try simp only [Act.put, List.setIfInBounds_toArray, List.set_cons_zero, List.set_cons_succ, List.getElem_toArray, List.getElem_cons_zero, List.getElem_cons_succ]
          refine wpAnyH_ready (rs := [11]) (by kernel_rfl) (by simp) ?_
          refine AllReadyH.cons rfl (fun K hK => ?_) AllReadyH.nil
          try simp only [Act.put, List.setIfInBounds_toArray, List.set_cons_zero, List.set_cons_succ, List.getElem_toArray, List.getElem_cons_zero, List.getElem_cons_succ]
          go_simp; go_at_call 38; (with_reducible refine (cmp_p HC.out).mono ?_); rintro e9 w2 ⟨rfl, g2⟩; have HG2 := Lib.hid (HGG.out.drew.trans g2); have e0 := (g2.cells.1 g _ hgl).trans (far_drew c0); have e1 := (g2.cells.1 g _ hgl).trans (far_drew c1); have e2 := (g2.cells.1 g _ hgl).trans (far_drew c2); have e3 := (g2.cells.1 g _ hgl).trans (far_drew c3); have e4 := (g2.cells.1 g _ hgl).trans (far_drew c4); have e5 := (g2.cells.1 bx _ hbl).trans (far_drew y0); have e6 := (g2.cells.1 bx _ hbl).trans (far_drew y1); have e7 := (g2.cells.1 bx _ hbl).trans (far_drew y2); have e8 := (g2.cells.1 bx _ hbl).trans (far_drew y3); have e9 := (g2.cells.1 bx _ hbl).trans (far_drew y4)
          refine hK.out _ _ ?_ (fun hHeld => ?_)
          · (try dsimp only); (refine ⟨?_, ?_, ?_, ?_, ?_, ?_, ?_, ?_, ?_, ?_⟩ <;> (repeat (first | (with_reducible assumption) | (with_reducible refine far_drew ?_))))
          clear hK K
          try simp only [Act.put, List.setIfInBounds_toArray, List.set_cons_zero, List.set_cons_succ, List.getElem_toArray, List.getElem_cons_zero, List.getElem_cons_succ]
          first | refine wpAnyH_take (i := 12) (v := undef) rfl (by kernel_rfl) (by kernel_rfl) (by kernel_rfl) (fun _ _ _ h => h) (Or.inr ⟨by rfl, rfl⟩) (by assumption) ?_ | (refine' wpAnyH_take (i := 12) (v := _) rfl (by kernel_rfl) (by kernel_rfl) (by kernel_rfl) (fun _ _ _ h => h) (Or.inl ⟨by rfl, ?hy12c⟩) (by assumption) ?rest12c; case hy12c => (intro w hSw; (try dsimp only at hSw); (first | (go_simp; done) | (go_simp; with_reducible rfl))))
          try simp only [Act.put, List.setIfInBounds_toArray, List.set_cons_zero, List.set_cons_succ, List.getElem_toArray, List.getElem_cons_zero, List.getElem_cons_succ]
          first | refine wpAnyH_take (i := 13) (v := undef) rfl (by kernel_rfl) (by kernel_rfl) (by kernel_rfl) (fun _ _ _ h => h) (Or.inr ⟨by rfl, rfl⟩) (by assumption) ?_ | (refine' wpAnyH_take (i := 13) (v := _) rfl (by kernel_rfl) (by kernel_rfl) (by kernel_rfl) (fun _ _ _ h => h) (Or.inl ⟨by rfl, ?hy13c⟩) (by assumption) ?rest13c; case hy13c => (intro w hSw; (try dsimp only at hSw); (first | (go_simp; done) | (go_simp; with_reducible rfl))))
          try simp only [Act.put, List.setIfInBounds_toArray, List.set_cons_zero, List.set_cons_succ, List.getElem_toArray, List.getElem_cons_zero, List.getElem_cons_succ]
          first | refine wpAnyH_take (i := 14) (v := undef) rfl (by kernel_rfl) (by kernel_rfl) (by kernel_rfl) (fun _ _ _ h => h) (Or.inr ⟨by rfl, rfl⟩) (by assumption) ?_ | (refine' wpAnyH_take (i := 14) (v := _) rfl (by kernel_rfl) (by kernel_rfl) (by kernel_rfl) (fun _ _ _ h => h) (Or.inl ⟨by rfl, ?hy14c⟩) (by assumption) ?rest14c; case hy14c => (intro w hSw; (try dsimp only at hSw); (first | (go_simp; done) | (go_simp; with_reducible rfl))))
          try simp only [Act.put, List.setIfInBounds_toArray, List.set_cons_zero, List.set_cons_succ, List.getElem_toArray, List.getElem_cons_zero, List.getElem_cons_succ]
          first | refine wpAnyH_take (i := 15) (v := undef) rfl (by kernel_rfl) (by kernel_rfl) (by kernel_rfl) (fun _ _ _ h => h) (Or.inr ⟨by rfl, rfl⟩) (by assumption) ?_ | (refine' wpAnyH_take (i := 15) (v := _) rfl (by kernel_rfl) (by kernel_rfl) (by kernel_rfl) (fun _ _ _ h => h) (Or.inl ⟨by rfl, ?hy15c⟩) (by assumption) ?rest15c; case hy15c => (intro w hSw; (try dsimp only at hSw); (first | (go_simp; done) | (go_simp; with_reducible rfl))))
          try simp only [Act.put, List.setIfInBounds_toArray, List.set_cons_zero, List.set_cons_succ, List.getElem_toArray, List.getElem_cons_zero, List.getElem_cons_succ]
          refine wpAnyH_done (by kernel_rfl) ?_ _
          go_wp2
          refine bodyPost_ret (v := .tuple #[.int .i64 hi, .bool false]) (by simp [results, Try.results42, go_sem]) rfl ?_
          exact ⟨hi, by rw [HE.out], HP.out, HG.out.trans HG2.out⟩
      · have HE : Hid (hasT L x hi = false) := Lib.hid (hasT_end (by rw [HN.out]; omega))
        go_upto_region 8 with fail
        go_region
        go_wp2
        refine bodyPost_ret (v := .tuple #[.int .i64 hi, .bool false]) (by simp [results, Try.results42, go_sem]) rfl ?_
        exact ⟨hi, by rw [HE.out], HP.out, HG.out.trans HGG.out.drew⟩
set_option maxHeartbeats 1000000 in
theorem find_p {B : Nat} {v : Value} {L : List Pt} {x : Pt} {w : World} (h : RdS 5 encT w B v L) (hl : L.length ≤ 1000) (hk : okT L = true) :
    Calls Try.prog 33 #[v, ptV x] w (RetBs L x w) := by
  have HZ := Lib.hid (h.alloc (.cells #[.int .i64 x.p, .int .i64 x.v, .int .i64 x.f, .bool x.w, .bool x.a] 30))
  have HG := Lib.hid ((Grew.refl w).alloc (.cells #[.int .i64 x.p, .int .i64 x.v, .int .i64 x.f, .bool x.w, .bool x.a] 30))
  clear h
  go_enter Try.func33, Try.ntmps33
  go_wp2_with fail
  with_reducible refine (bin_p HZ.out hl hk).mono ?_
  rintro e9 w1 ⟨i, rfl, HP, g1⟩
  go_wp2
  refine bodyPost_ret (v := .tuple #[.int .i64 i, .bool (hasT L x i)]) (by simp [results, Try.results33, go_sem]) rfl ?_
  exact ⟨i, rfl, HP, HG.out.trans g1⟩
set_option maxHeartbeats 2000000 in
theorem get_p {B : Nat} {v : Value} {L : List Pt} {p q : Int} {x : Pt × Bool} {w : World} (h : RdS 5 encT w B v L) (hl : L.length ≤ 1000) (hx : getT L p q = x) : Calls Try.prog 12 #[v, .int .i64 p, .int .i64 q] w (RetG (gtV x) w) := by
  have HX := Lib.hid hx
  have HH := Lib.hid (h.alloc (.cells #[.int .i64 0, .int .i64 0, .int .i64 0, .bool false, .bool false] 30))
  have HO := Lib.hid (Own.new w 30 #[.int .i64 0, .int .i64 0, .int .i64 0, .bool false, .bool false])
  have HG := Lib.hid ((Grew.refl w).alloc (.cells #[.int .i64 0, .int .i64 0, .int .i64 0, .bool false, .bool false] 30))
  clear h hx
  cases h1 : okT L
  · have HE : Hid (x = (zT, false)) := Lib.hid (HX.out.symm.trans (getT_0 h1))
    have H1 := Lib.hid h1
    clear h1
    go_enter Try.func12, Try.ntmps12
    go_wp2_with fail
    with_reducible refine (check_p HH.out hl H1.out).mono ?_
    rintro e9 w1 ⟨rfl, g1⟩
    have HG1 := Lib.hid (HG.out.trans g1)
    have HO1 := Lib.hid (HO.out.grew g1)
    obtain ⟨x0, x1, x2, x3, x4⟩ := HO1.out.fiveT
    obtain ⟨y0, y1, y2, y3, y4⟩ := HO1.out.five0
    clear g1
    go_wp2
    generalize hw : World.setCell (World.setCell (World.setCell (World.setCell (World.setCell w1 _ _) _ _) _ _) _ _) _ _ = E
    obtain ⟨b0, b1, b2, b3, b4⟩ := (HO1.out.store5T hw).fiveT
    refine bodyPost_ret (v := gtV (zT, false)) (by simp [results, Try.results12, go_sem, b0, b1, b2, b3, b4]) rfl ?_
    exact ⟨by rw [HE.out], HG1.out.far5T hw (Nat.le_refl _)⟩
  · have H1 := Lib.hid h1
    obtain ⟨a0, c, rfl, -, -⟩ := HH.out.slice
    clear h1
    go_enter Try.func12, Try.ntmps12
    go_wp2_with fail
    with_reducible refine (check_p HH.out hl H1.out).mono ?_
    rintro e9 w1 ⟨rfl, g1⟩
    have HH1 := Lib.hid (HH.out.grew g1)
    have HO1 := Lib.hid (HO.out.grew g1)
    have HG1 := Lib.hid (HG.out.trans g1)
    clear HH HO HG g1
    go_wp2_with fail
    with_reducible refine (find_p (x := ⟨p, q, 0, false, false⟩) HH1.out hl H1.out).mono ?_
    rintro e9 w2 ⟨i, rfl, HP, g2⟩
    have HF := Lib.hid (fndT_pos HP H1.out)
    have HZ := Lib.hid (HH1.out.grew g2)
    have HO2 := Lib.hid (HO1.out.grew g2)
    have HG2 := Lib.hid (HG1.out.trans g2)
    obtain ⟨x0, x1, x2, x3, x4⟩ := HO2.out.fiveT
    obtain ⟨y0, y1, y2, y3, y4⟩ := HO2.out.five0
    clear HH1 HO1 HG1 g2
    cases hh : hasT L ⟨p, q, 0, false, false⟩ i
    · have HE : Hid (x = (zT, false)) := Lib.hid (HX.out.symm.trans (getT_n (by have := HF.out; rw [hh] at this; exact this)))
      clear hh HP HF
      go_wp2
      generalize hw : World.setCell (World.setCell (World.setCell (World.setCell (World.setCell w2 _ _) _ _) _ _) _ _) _ _ = E
      obtain ⟨b0, b1, b2, b3, b4⟩ := (HO2.out.store5T hw).fiveT
      refine bodyPost_ret (v := gtV (zT, false)) (by simp [results, Try.results12, go_sem, b0, b1, b2, b3, b4]) rfl ?_
      exact ⟨by rw [HE.out], HG2.out.far5T hw (Nat.le_refl _)⟩
    · have hi : i < L.length := by
        by_cases hi : i < L.length
        · exact hi
        · rw [hasT_end (by omega)] at hh; cases hh
      have HE : Hid (x = (L.getD i zT, true)) := Lib.hid (HX.out.symm.trans (getT_s H1.out (by have := HF.out; rw [hh] at this; exact this)))
      obtain ⟨g, o, rfl, -, hg, c0, c1, c2, c3, c4⟩ := HZ.out.atT hi
      generalize L.getD i zT = d at *
      have hi0 : (0 : Int) ≤ (i : Int) := by omega
      have hi1 : (i : Int) < (L.length : Int) := by omega
      clear hh HP HF
      go_wp2
      generalize hw : World.setCell (World.setCell (World.setCell (World.setCell (World.setCell w2 _ _) _ _) _ _) _ _) _ _ = E
      obtain ⟨b0, b1, b2, b3, b4⟩ := (HO2.out.store5T hw).fiveT
      refine bodyPost_ret (v := gtV (d, true)) (by simp [results, Try.results12, go_sem, b0, b1, b2, b3, b4]) rfl ?_
      exact ⟨by rw [HE.out], HG2.out.far5T hw (Nat.le_refl _)⟩
end Go.Proofs.Ytjkkhfionmdmpaa
