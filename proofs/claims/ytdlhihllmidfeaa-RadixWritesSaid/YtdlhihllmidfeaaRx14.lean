/- radix.appendEntries, Entries. -/
import Derived.Test.YtdlhihllmidfeaaRx13
namespace Go.Proofs.Ytdlhihllmidfeaa
open Go.RowKit Go.Mine

abbrev En := Int × Lef
def encE (x : En) : List Value := [.int .i64 x.1, .int .i64 x.2.1, .int .i64 x.2.2]
theorem encE_len (x : En) : (encE x).length = 3 := rfl
theorem encE_one {x : En} : ∀ u ∈ encE x, u.oneCell' = true := by intro u hu; simp [encE] at hu; rcases hu with rfl | rfl | rfl <;> rfl
theorem info_entry : (Try.prog.info? 51).map (fun i => (i.zero, i.size, i.bytes)) = some (some (.agg #[.int .i64 0, .int .i64 0, .int .i64 0]), 3, 24) := by kernel_rfl
def valB (x : Int) : Bool := decide (x = 0)
def entR : Nat → Fen → Int → List En
  | 0, f, first => match valB (f 0).1 with | true => [] | false => [(first, f 0)]
  | h + 1, f, first => entR h (sub h f 0) first ++ entR h (sub h f 1) (first + (1 * p4 h : Nat)) ++ entR h (sub h f 2) (first + (2 * p4 h : Nat)) ++ entR h (sub h f 3) (first + (3 * p4 h : Nat))
def entUp (h : Nat) (f : Fen) (first : Int) : Nat → List En
  | 0 => []
  | k + 1 => entUp h f first k ++ entR h (sub h f k) (first + (k * p4 h : Nat))
theorem entUp_4 (h : Nat) (f : Fen) (first : Int) : entUp h f first 4 = entR (h + 1) f first := by
  simp [entUp, entR]
theorem entR_len : ∀ (h : Nat) (f : Fen) (first : Int), (entR h f first).length ≤ p4 h
  | 0, f, first => by
    unfold entR
    cases valB (f 0).1 <;> simp [p4]
  | h + 1, f, first => by
    have e4 : p4 (h + 1) = 4 * p4 h := rfl
    unfold entR
    simp only [List.length_append]
    have i0 := entR_len h (sub h f 0) first
    have i1 := entR_len h (sub h f 1) (first + (1 * p4 h : Nat))
    have i2 := entR_len h (sub h f 2) (first + (2 * p4 h : Nat))
    have i3 := entR_len h (sub h f 3) (first + (3 * p4 h : Nat))
    omega
theorem entUp_len (h : Nat) (f : Fen) (first : Int) : ∀ k, (entUp h f first k).length ≤ k * p4 h
  | 0 => by simp [entUp]
  | k + 1 => by
    unfold entUp
    rw [List.length_append, Nat.succ_mul]
    have := entUp_len h f first k
    have := entR_len h (sub h f k) (first + (k * p4 h : Nat))
    omega
theorem entR_emp : ∀ (h : Nat) (f : Fen) (first : Int), emp h f = true → entR h f first = []
  | 0, f, first, e => by
    simp only [emp, decide_eq_true_eq] at e
    unfold entR
    rw [e]
    rfl
  | h + 1, f, first, e => by
    unfold entR
    rw [entR_emp h _ _ (emp_sub e (k := 0) (by omega)), entR_emp h _ _ (emp_sub e (k := 1) (by omega)), entR_emp h _ _ (emp_sub e (k := 2) (by omega)), entR_emp h _ _ (emp_sub e (k := 3) (by omega))]
    rfl
/-- It returns the row with these entries; nothing below B has turned. -/
def RetApp (B : Nat) (L : List En) (w : World) (e : Ending) (w' : World) : Prop := ∃ v, e = .returned v ∧ RowE 51 3 encE w' B v L ∧ Below B w w'
theorem app_flat (B : Nat) (v : Value) (L : List En) (a : Option Addr) (c : Nat) (m size first : Int) (w : World) (R : RowE 51 3 encE w B v L) (hB : B ≤ w.heap.size) (hs : 0 ≤ size ∧ size ≤ 1024) :
    Calls Try.prog 54 #[v, nodeV (.slice a 0 c) 0 m, .int .i64 size, .int .i64 first] w (RetApp B L w) := by
  have HR := Lib.hid R
  have HB := Lib.hid hB
  obtain ⟨a0, c0, rfl⟩ := R.len
  clear R hB
  go_enter Try.func54, Try.ntmps54
  go_wp2
  refine wp_loop_rounds 1 ?_; rw [rounds_succ]
  go_wp2
  go_ret
  exact ⟨_, rfl, HR.out.alloc _, (Below.refl _ _).alloc HB.out _⟩
set_option maxHeartbeats 2000000 in
theorem app_leaf (B : Nat) (v : Value) (L : List En) (a : Option Addr) (c : Nat) (x m size first : Int) (w : World) (R : RowE 51 3 encE w B v L) (hB : B ≤ w.heap.size) (hL : L.length ≤ 2000) (hx : valB x = false) :
    Calls Try.prog 54 #[v, nodeV (.slice a 0 c) x m, .int .i64 size, .int .i64 first] w (RetApp B (L ++ [(first, (x, m))]) w) := by
  have hx0 : ¬x = 0 := of_decide_eq_false hx
  have e1 : (x == 0) = false := by simpa using hx0
  have e2 : (x != 0) = true := by simp [bne, e1]
  have hb2 : ∀ o, B ≤ ((w.alloc (.cells #[.slice a 0 c, .int .i64 x, .int .i64 m] 26)).alloc o).heap.size := fun o => by simp; omega
  have hL2 : L.length < 1000000 := by omega
  have HR := Lib.hid (R.alloc (.cells #[.slice a 0 c, .int .i64 x, .int .i64 m] 26))
  have HB := Lib.hid (And.intro hB hb2)
  have Ha := Lib.hid R.above
  clear hx hx0 hB hb2 R
  go_enter Try.func54, Try.ntmps54
  go_wp2_with (at_builtin; go_loud (refine wpList_append_row _ rfl (.tmp 15) (.tmp 22) 41 rfl B info_entry Try.underlying41 (by decide) (by decide) encE_len v L rfl (HR.out.alloc _) _ _ (first, (x, m)) rfl (Own.new2 _ _ _ _) encE_one hL2 (by decide) (HB.out.2 _) ?_; intro g cap w2 R2 G2 o2))
  go_ret
  refine ⟨_, rfl, R2, ?_⟩
  exact Below.grown (((Below.refl B w).alloc HB.out.1 _).alloc (by simp; have := HB.out.1; omega) _) G2 (HB.out.2 _) (fun y e => Ha.out y e)
theorem num1 {l le P q : Nat} (h1 : le ≤ q) (hq : q ≤ 3 * P) (h2 : l + 4 * P ≤ 1024) : l + le + P ≤ 1024 := by omega
theorem num2 {first : Int} {P q : Nat} (h0 : 0 ≤ first) (h1 : first + ((4 * P : Nat) : Int) ≤ 2048) (hq : q ≤ 3 * P) : 0 ≤ first + (q : Int) ∧ first + (q : Int) + (P : Nat) ≤ 2048 := by omega
theorem num3 {P q k : Nat} (h : k * P = q) (hk : k < 4) : q ≤ 3 * P := by rw [← h]; exact Nat.mul_le_mul_right _ (by omega)
theorem num4 {k P q : Nat} (h : k * P = q) (hk : k < 4) (hP : P ≤ 256) : wrap64 ((k : Int) * (P : Int)) = (q : Int) := by
  have h3 := num3 h hk
  rw [← Int.natCast_mul, h]
  exact IntWalk.wrap64_in _ (by omega)
set_option maxHeartbeats 4000000 in
theorem app_node (B : Nat) (h : Nat) (hh : h ≤ 4) (ih : ∀ (v : Value) (L : List En) (f : Fen) (s : Value) (x m first : Int) (w : World), RowE 51 3 encE w B v L → B ≤ w.heap.size → L.length + p4 h ≤ 1024 → 0 ≤ first ∧ first + (p4 h : Nat) ≤ 2048 → NodeF w (fun b => b < B) h f s x m → GoodF f →
      Calls Try.prog 54 #[v, nodeV s x m, .int .i64 (p4 h : Nat), .int .i64 first] w (RetApp B (L ++ entR h f first) w))
    (v : Value) (L : List En) (f : Fen) (g c : Nat) (m first : Int) (w : World) (R : RowE 51 3 encE w B v L) (hB : B ≤ w.heap.size) (hL : L.length + p4 (h + 1) ≤ 1024) (hfi : 0 ≤ first ∧ first + (p4 (h + 1) : Nat) ≤ 2048) (hg : g < B) (n2 : KidsF w (fun b => b < B) h f g) (hf : GoodF f) :
    Calls Try.prog 54 #[v, nodeV (.slice (some ⟨g, 0, none⟩) 4 c) 0 m, .int .i64 (p4 (h + 1) : Nat), .int .i64 first] w (RetApp B (L ++ entR (h + 1) f first) w) := by
  have HR := Lib.hid R
  have HB := Lib.hid hB
  have HK := Lib.hid n2
  have HF := Lib.hid hf
  have IH := Lib.hid ih
  have e4 : p4 (h + 1) = 4 * p4 h := rfl
  have hp1 := p4_pos h
  have hp2 : p4 h ≤ 256 := p4_mono hh
  have HUl := Lib.hid (entUp_len h f first)
  have HU4 := Lib.hid (entUp_4 h f first)
  obtain ⟨a0, c0, rfl⟩ := R.len
  rw [e4] at hL hfi ⊢
  clear R hB n2 hf ih e4
  obtain ⟨P, hP⟩ : ∃ P, p4 h = P := ⟨_, rfl⟩
  have HP := Lib.hid hP
  simp only [hP] at IH HUl hL hfi hp1 hp2 ⊢
  clear hP
  rw [show ((4 * P : Nat) : Int) = 4 * (P : Int) from by omega]
  have HFi := Lib.hid hfi
  have HLi := Lib.hid hL
  clear hfi hL hp1
  go_enter Try.func54, Try.ntmps54
  go_wp2_with fail
  go_loopw [0, 29] (fun lv i wr => ∃ (k : Nat) (r : Value), r = lv ∧ i = .int .i64 k ∧ k ≤ 4 ∧ RowE 51 3 encE wr B r (L ++ entUp h f first k) ∧ Below B w wr) (fun _ i _ => 4 - (intOf i).toNat)
  case atStart => exact ⟨0, _, rfl, rfl, by omega, by rw [entUp, List.append_nil]; exact HR.out.alloc _, (Below.refl _ _).alloc HB.out _⟩
  case round =>
    clear HR
    obtain ⟨k, r, rfl, rfl, hk4, R, Bw⟩ := hrel
    have hsz : B ≤ wr.heap.size := Nat.le_trans HB.out (Below.size Bw)
    have hB' : B ≤ w.heap.size := HB.out
    by_cases hlt : k < 4
    · have kk : ∃ s' x' m', wr.cell? ⟨g, k * 3, none⟩ = some s' ∧ wr.cell? ⟨g, k * 3 + 1, none⟩ = some (.int .i64 x') ∧ wr.cell? ⟨g, k * 3 + 2, none⟩ = some (.int .i64 m') ∧ NodeF wr (fun b => b < B) h (sub h f k) s' x' m' := by
        obtain ⟨s', x', m', d0, d1, d2, n⟩ := HK.out k hlt
        have e := Below.block Bw g hg
        exact ⟨s', x', m', (World.cell?_of_block (a := ⟨g, k * 3, none⟩) e).trans d0, (World.cell?_of_block (a := ⟨g, k * 3 + 1, none⟩) e).trans d1, (World.cell?_of_block (a := ⟨g, k * 3 + 2, none⟩) e).trans d2,
          n.keep (fun _ a _ => a) (fun b hb _ => Below.block Bw b hb)⟩
      obtain ⟨s', x', m', d0, d1, d2, n⟩ := kk
      obtain ⟨a1, j1, c1', rfl⟩ := n.slice
      have HN2 := Lib.hid n
      have hk0 : (0 : Int) ≤ (k : Int) := by omega
      have hk1 : (k : Int) < 4 := by omega
      obtain ⟨q, hq⟩ : ∃ q, k * P = q := ⟨_, rfl⟩
      have hq1 : q ≤ 3 * P := num3 hq hlt
      have hmul : wrap64 ((k : Int) * (P : Int)) = (q : Int) := num4 hq hlt hp2
      have Hq := Lib.hid hq
      have HRr := Lib.hid (R.alloc (.cells #[.slice a1 j1 c1', .int .i64 x', .int .i64 m'] 26))
      have HBw := Lib.hid Bw
      have Hal := Lib.hid (show Grew wr (wr.alloc (.cells #[.slice a1 j1 c1', .int .i64 x', .int .i64 m'] 26)) from (Grew.refl wr).alloc _)
      have hlen : (L ++ entUp h f first k).length + P ≤ 1024 := by
        rw [List.length_append]
        have h1 := HUl.out k
        rw [hq] at h1
        exact num1 h1 hq1 HLi.out
      have Hlen := Lib.hid hlen
      have HUk := Lib.hid (show entUp h f first (k + 1) = entUp h f first k ++ entR h (sub h f k) (first + (k * p4 h : Nat)) from rfl)
      have Hn2 := Lib.hid (num2 HFi.out.1 HFi.out.2 hq1)
      have hadd : wrap64 (first + (q : Int)) = first + (q : Int) := IntWalk.wrap64_in _ (by have := Hn2.out; omega)
      clear n hq R Bw hlen hq1 hp2
      go_wp2_with fail
      have hsz2 : ∀ o, B ≤ (wr.alloc o).heap.size := fun o => by rw [World.size_alloc]; omega
      with_reducible refine (IH.out r (L ++ entUp h f first k) (sub h f k) _ _ _ (first + (q : Int)) _ HRr.out (hsz2 _) Hlen.out Hn2.out (HN2.out.grew Hal.out) (HF.out.sub _ _)).mono ?_
      rintro e w2 ⟨v2, rfl, R2, B2⟩
      go_wp2_with fail
      go_roundw
      case rel =>
        refine ⟨k + 1, _, rfl, by go_num, by omega, ?_, ?_⟩
        · rw [HUk.out, ← List.append_assoc, HP.out, Hq.out]; exact R2
        · exact Below.trans (HBw.out.alloc hsz _) B2
      case measure => simp [intOf]; omega
    · have hk : k = 4 := by omega
      subst hk
      go_wp2
      go_ret
      exact ⟨_, rfl, by rw [← HU4.out]; exact R, Bw⟩
theorem app_f (B : Nat) : ∀ (h : Nat) (v : Value) (L : List En) (f : Fen) (s : Value) (x m first : Int) (w : World), h ≤ 4 → RowE 51 3 encE w B v L → B ≤ w.heap.size → L.length + p4 h ≤ 1024 → 0 ≤ first ∧ first + (p4 h : Nat) ≤ 2048 → NodeF w (fun b => b < B) h f s x m → GoodF f →
    Calls Try.prog 54 #[v, nodeV s x m, .int .i64 (p4 h : Nat), .int .i64 first] w (RetApp B (L ++ entR h f first) w) := by
  intro h
  induction h with
  | zero =>
    intro v L f s x m first w _ R hB hL hfi n hf
    obtain ⟨⟨a, c, rfl⟩, e2, e3⟩ := n
    cases hv : valB x
    · have := app_leaf B v L a c x m 1 first w R hB (by omega) hv
      unfold entR
      rw [← e2, hv]
      rw [e2, e3] at this ⊢
      exact this
    · have hx : x = 0 := of_decide_eq_true hv
      subst hx
      unfold entR
      rw [← e2, hv, List.append_nil]
      exact app_flat B v L a c m 1 first w R hB (by omega)
  | succ h ih =>
    intro v L f s x m first w hh R hB hL hfi n hf
    cases he : emp (h + 1) f
    · obtain ⟨g, c, rfl, rfl, hg, hk⟩ := n.kids he
      exact app_node B h (by omega) (fun v L f s x m first w R hB hL hfi n hf => ih v L f s x m first w (by omega) R hB hL hfi n hf) v L f g c m first w R hB hL hfi hg hk hf
    · rcases n.show_ hf with ⟨-, rfl, rfl, a, c, rfl⟩ | ⟨e2, -⟩
      · rw [entR_emp _ _ _ he, List.append_nil]
        have h5 : p4 (h + 1) ≤ 256 := p4_mono hh
        exact app_flat B v L a c 0 _ first w R hB (by omega)
      · rw [he] at e2; cases e2
set_option maxHeartbeats 4000000 in
theorem entries_f (h : Nat) (f : Fen) (s : Value) (x m : Int) (p : Nat → Prop) (w : World) (n : TreeF w p h f s x m) :
    Calls Try.prog 24 #[treeV h s x m] w (fun e w' => ∃ v, e = .returned v ∧ RowE 51 3 encE w' w.heap.size v (entR h f 0) ∧ Grew w w') := by
  obtain ⟨a, j, c, rfl⟩ := n.node.slice
  have HN := Lib.hid (n.mono (q := fun b => b < w.heap.size + 1) (fun b _ hb => Nat.lt_succ_of_lt hb))
  have h5 := n.le
  clear n
  have HP := Lib.hid (show p4 h ≤ 256 from p4_mono h5)
  go_enter Try.func24, Try.ntmps24
  have T := Own.new w 28 #[.int .i64 h, .slice a j c, .int .i64 x, .int .i64 m]
  have G := (Grew.refl w).alloc (.cells #[.int .i64 h, .slice a j c, .int .i64 x, .int .i64 m] 28)
  go_wp2_with fail
  with_reducible refine (valid_f h f _ _ _ _ _ (HN.out.node.grew G) HN.out.good h5).mono ?_
  rintro e w1 ⟨rfl, g1⟩
  rw [HN.out.valid]
  replace T := T.grew g1
  replace G := G.trans g1
  clear g1
  obtain ⟨T0, T1, T2, T3, -⟩ := T.four
  have Hn := Lib.hid (HN.out.node.grew G.drew)
  have HB := Lib.hid (show w.heap.size + 1 ≤ w1.drew.heap.size from T.lt)
  have Hl := Lib.hid (show ([] : List En).length + p4 h ≤ 1024 from by have := HP.out; simp; omega)
  have Hf := Lib.hid (show (0 : Int) ≤ 0 ∧ (0 : Int) + (p4 h : Nat) ≤ 2048 from by have := HP.out; omega)
  have HR := Lib.hid (RowE.nil (T := 51) (sz := 3) (enc := encE) w1.drew (w.heap.size + 1))
  go_upto_region 3 with fail
  go_region_held3 (fun w' => w'.cell? ⟨w.heap.size, 0, none⟩ = some (.int .i64 h) ∧ w'.cell? ⟨w.heap.size, 1, none⟩ = some (.slice a j c) ∧ w'.cell? ⟨w.heap.size, 2, none⟩ = some (.int .i64 x) ∧ w'.cell? ⟨w.heap.size, 3, none⟩ = some (.int .i64 m))
    (refine ⟨?_, ?_, ?_, ?_⟩ <;> (repeat (first | (with_reducible assumption) | (with_reducible refine far_drew ?_))))
    (first
    | (go_at_call 42; (with_reducible refine (width_any h _ h5).mono ?_); rintro e w2 ⟨rfl, rfl⟩)
    | (go_at_call 54; (with_reducible refine (app_f (w.heap.size + 1) h _ [] f _ _ _ 0 w1.drew h5 HR.out HB.out Hl.out Hf.out Hn.out HN.out.good).mono ?_); rintro e w2 ⟨v, rfl, R2, B2⟩; have TT2 := Own.below T.drew B2 (Nat.lt_succ_self _); have G2 := Grew.below G.drew B2 (Nat.le_succ _); clear T0 T1 T2 T3; obtain ⟨T0, T1, T2, T3, -⟩ := TT2.four; have RR := Lib.hid R2; clear R2))
  all_goals go_wp2
  all_goals go_ret
  all_goals exact ⟨_, rfl, RR.out.wider (Nat.le_succ _), G2⟩
end Go.Proofs.Ytdlhihllmidfeaa
