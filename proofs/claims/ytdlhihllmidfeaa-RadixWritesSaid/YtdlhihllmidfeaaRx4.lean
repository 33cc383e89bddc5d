/- Paths of package radix. -/
import Derived.Test.YtdlhihllmidfeaaRx3
import Derived.Lib.SliceRun
namespace Go.Proofs.Ytdlhihllmidfeaa
open Go.RowKit Go.Mine

theorem put_f : ∀ (h : Nat) (lx lm : Int) (i : Nat) (f : Fen) (s : Value) (x m : Int) (p : Nat → Prop) (wv : Value) (w : World), LefOK (lx, lm) → NodeF w p h f s x m → GoodF f → WayV w wv h i →
    Calls Try.prog 73 #[nodeV s x m, wv, nodeV (.slice none 0 0) lx lm] w (RetNd h (upd h f i (lx, lm)) (fun b => w.heap.size ≤ b) w)
  | 0, lx, lm, i, f, s, x, m, p, wv, w, hl, n, hf, hw => by
    rcases hw with ⟨-, a, c, rfl⟩ | ⟨h0, -⟩
    · exact (put_leaf s x m lx lm a c n.slice w).mono fun e w' ⟨h1, h2⟩ => ⟨_, _, _, h1, ⟨⟨_, _, rfl⟩, by simp [upd, p4, Nat.mod_one], by simp [upd, p4, Nat.mod_one]⟩, h2⟩
    · exact absurd rfl h0
  | 1, lx, lm, i, f, s, x, m, p, wv, w, hl, n, hf, hw => by
    rcases hw with ⟨h0, -⟩ | ⟨-, b, o, rfl, hw⟩
    · cases h0
    · exact put_one lx lm i (fun f s x m p wv w n g v => put_f 0 lx lm i f s x m p wv w hl n g v) f s x m p b o w n hf hl hw
  | h + 2, lx, lm, i, f, s, x, m, p, wv, w, hl, n, hf, hw => by
    rcases hw with ⟨h0, -⟩ | ⟨-, b, o, rfl, hw⟩
    · cases h0
    · exact put_node (h + 1) lx lm i (fun f s x m p wv w n g v => put_f (h + 1) lx lm i f s x m p wv w hl n g v) f s x m p b o w n hf hl hw (by omega)

theorem width_any (h : Nat) (w : World) (hh : h ≤ 4) : Calls Try.prog 42 #[.int .i64 h] w (RetS (.int .i64 (p4 h : Nat)) w) := by
  have hc : h = 0 ∨ h = 1 ∨ h = 2 ∨ h = 3 ∨ h = 4 := by omega
  rcases hc with rfl | rfl | rfl | rfl | rfl
  all_goals
    go_enter Try.func42, Try.ntmps42
    go_wp2
    go_ret
    exact ⟨rfl, rfl⟩
theorem width0 (w : World) : Calls Try.prog 42 #[.int .i64 0] w (RetS (.int .i64 1) w) := width_any 0 w (by omega)
theorem width1 (w : World) : Calls Try.prog 42 #[.int .i64 1] w (RetS (.int .i64 4) w) := width_any 1 w (by omega)
theorem width2 (w : World) : Calls Try.prog 42 #[.int .i64 2] w (RetS (.int .i64 16) w) := width_any 2 w (by omega)
theorem width3 (w : World) : Calls Try.prog 42 #[.int .i64 3] w (RetS (.int .i64 64) w) := width_any 3 w (by omega)
abbrev pathV (a b c d : Int) : Value := .agg #[.int .i64 a, .int .i64 b, .int .i64 c, .int .i64 d]
set_option maxHeartbeats 4000000 in
theorem pathTo_any (i : Int) (w : World) (h0 : 0 ≤ i) (hi : i < 256) : Calls Try.prog 69 #[.int .i64 i] w (RetG (pathV (i / 64 % 4) (i / 16 % 4) (i / 4 % 4) (i % 4)) w) := by
  go_enter Try.func69, Try.ntmps69
  go_wp2
  refine wp_loop_rounds 5 ?_; rw [rounds_succ]
  go_wp2_with (go_at_call 42; (with_reducible refine (width0 _).mono ?_); rintro e w1 ⟨rfl, rfl⟩)
  rw [rounds_succ]
  go_wp2_with (go_at_call 42; (with_reducible refine (width1 _).mono ?_); rintro e w1 ⟨rfl, rfl⟩)
  rw [rounds_succ]
  go_wp2_with (go_at_call 42; (with_reducible refine (width2 _).mono ?_); rintro e w1 ⟨rfl, rfl⟩)
  rw [rounds_succ]
  go_wp2_with (go_at_call 42; (with_reducible refine (width3 _).mono ?_); rintro e w1 ⟨rfl, rfl⟩)
  rw [rounds_succ]
  go_wp2
  obtain ⟨b0, b1, b2, b3, -⟩ := ((Own.new w 82 #[.int .i64 (i / 64 % 4), .int .i64 (i / 16 % 4), .int .i64 (i / 4 % 4), .int .i64 (i % 4)]).alloc (.cells #[.int .i64 (i / 64 % 4), .int .i64 (i / 16 % 4), .int .i64 (i / 4 % 4), .int .i64 (i % 4)] 82)).four
  exact bodyPost_ret (v := pathV (i / 64 % 4) (i / 16 % 4) (i / 4 % 4) (i % 4)) (by simp [results, Try.results69, go_sem, b0, b1, b2, b3]) rfl ⟨rfl, ((Grew.refl w).alloc _).alloc _⟩
theorem zeroI (w : World) : (zeroValue 3).run Try.prog w = .ok (.int .i64 0) w := by kernel_rfl
/-- Whether a tree of the height h has the entry i. -/
def inB (h : Nat) (i : Int) : Bool := decide (i < p4 h)
theorem clear_path {w : World} {g : Nat} {T : TypeId} {a b c d : Value} (O : Own w g T #[a, b, c, d]) (o n m : Nat) (hn : 0 < n) (h : o + n = 4) (ty : TypeId) :
    (Builtin.clear_ #[22] ty #[.slice (some ⟨g, o, none⟩) n m]).run Try.prog w = .ok (.tuple #[]) (w.setCells g o (List.replicate n (.int .i64 0))) :=
  Lib.run_clear_slice w 22 3 ty (.int .i64 0) Try.underlying22 zeroI rfl rfl g o n m hn (fun j hj => by
    rw [O.cell]
    have h4 : o + j < 4 := by omega
    generalize o + j = q at h4
    have hq : q = 0 ∨ q = 1 ∨ q = 2 ∨ q = 3 := by omega
    rcases hq with rfl | rfl | rfl | rfl <;> rfl) (fun j _ => O.frozen _)
theorem eqPath (a b c d : Int) (w : World) : (Op.equalIn 10000 82 (pathV a b c d) (pathV 0 0 0 0)).run Try.prog w = .ok (decide (a = 0 ∧ b = 0 ∧ c = 0 ∧ d = 0)) w := by
  have u3 := Try.underlying3
  have z3 : ∀ w, (sizeOf 3).run Try.prog w = .ok 1 w := fun w => by kernel_rfl
  have a3 : ∀ w, (isAgg 3).run Try.prog w = .ok false w := fun w => by kernel_rfl
  rw [show (10000 : Nat) = 9999 + 1 from rfl, Op.equalIn]
  simp only [Sem.run_bind, run_underlying Try.underlying82, Result.andThen_ok]
  simp only [Std.Legacy.Range.forIn_eq_forIn_range', Std.Legacy.Range.size, Nat.sub_zero, Nat.add_sub_cancel, Nat.div_one, List.range'_succ, List.range'_zero, List.forIn_cons, List.forIn_nil]
  go_simp
  by_cases h1 : a = 0 <;> by_cases h2 : b = 0 <;> by_cases h3 : c = 0 <;> by_cases h4 : d = 0 <;> simp [h1, h2, h3, h4]
set_option maxHeartbeats 4000000 in
theorem within0 (a b c d : Int) (w : World) : Calls Try.prog 70 #[pathV a b c d, .int .i64 0] w (RetG (.bool (decide (a = 0 ∧ b = 0 ∧ c = 0 ∧ d = 0))) w) := by
  have hcl : ∀ (ty : TypeId) (w : World) o, (Builtin.clear_ #[22] ty #[.slice o 0 0]).run Try.prog w = .ok (.tuple #[]) w := fun ty w o => by
    cases o <;> simp [Builtin.clear_, run_underlying Try.underlying22]
  have heq := eqPath a b c d
  go_enter Try.func70, Try.ntmps70
  go_wp2
  all_goals
    go_ret
    refine ⟨ret_bool ?_, (Grew.refl w).alloc _⟩
    first | rfl | (simp; done) | trace_state
set_option maxHeartbeats 4000000 in
theorem within1 (a b c d : Int) (w : World) : Calls Try.prog 70 #[pathV a b c d, .int .i64 1] w (RetG (.bool (decide (a = 0 ∧ b = 0 ∧ c = 0))) w) := by
  have hcl := fun ty => clear_path (Own.new w 82 #[.int .i64 a, .int .i64 b, .int .i64 c, .int .i64 d]) 3 1 1 (by omega) (by omega) ty
  simp only [List.replicate, World.setCells] at hcl
  have heq := eqPath a b c 0
  go_enter Try.func70, Try.ntmps70
  go_wp2
  all_goals
    go_ret
    refine ⟨ret_bool ?_, (Grew.refl w).alloc _⟩
    first | rfl | (simp; done) | trace_state
set_option maxHeartbeats 4000000 in
theorem within2 (a b c d : Int) (w : World) : Calls Try.prog 70 #[pathV a b c d, .int .i64 2] w (RetG (.bool (decide (a = 0 ∧ b = 0))) w) := by
  have hcl := fun ty => clear_path (Own.new w 82 #[.int .i64 a, .int .i64 b, .int .i64 c, .int .i64 d]) 2 2 2 (by omega) (by omega) ty
  simp only [List.replicate, World.setCells] at hcl
  have heq := eqPath a b 0 0
  go_enter Try.func70, Try.ntmps70
  go_wp2
  all_goals
    go_ret
    refine ⟨ret_bool ?_, (Grew.refl w).alloc _⟩
    first | rfl | (simp; done) | trace_state
set_option maxHeartbeats 4000000 in
theorem within3 (a b c d : Int) (w : World) : Calls Try.prog 70 #[pathV a b c d, .int .i64 3] w (RetG (.bool (decide (a = 0))) w) := by
  have hcl := fun ty => clear_path (Own.new w 82 #[.int .i64 a, .int .i64 b, .int .i64 c, .int .i64 d]) 1 3 3 (by omega) (by omega) ty
  simp only [List.replicate, World.setCells] at hcl
  have heq := eqPath a 0 0 0
  go_enter Try.func70, Try.ntmps70
  go_wp2
  all_goals
    go_ret
    refine ⟨ret_bool ?_, (Grew.refl w).alloc _⟩
    first | rfl | (simp; done) | trace_state
set_option maxHeartbeats 4000000 in
theorem within4 (a b c d : Int) (w : World) : Calls Try.prog 70 #[pathV a b c d, .int .i64 4] w (RetG (.bool (decide (True))) w) := by
  have hcl := fun ty => clear_path (Own.new w 82 #[.int .i64 a, .int .i64 b, .int .i64 c, .int .i64 d]) 0 4 4 (by omega) (by omega) ty
  simp only [List.replicate, World.setCells] at hcl
  have heq := eqPath 0 0 0 0
  go_enter Try.func70, Try.ntmps70
  go_wp2
  all_goals
    go_ret
    refine ⟨ret_bool ?_, (Grew.refl w).alloc _⟩
    first | rfl | (simp; done) | trace_state
/-- within at a path. -/
abbrev pathI (i : Int) : Value := pathV (i / 64 % 4) (i / 16 % 4) (i / 4 % 4) (i % 4)
theorem within_any (h : Nat) (i : Int) (w : World) (hh : h ≤ 4) (h0 : 0 ≤ i) (h1 : i < 256) : Calls Try.prog 70 #[pathI i, .int .i64 h] w (RetG (.bool (inB h i)) w) := by
  have hc : h = 0 ∨ h = 1 ∨ h = 2 ∨ h = 3 ∨ h = 4 := by omega
  rcases hc with rfl | rfl | rfl | rfl | rfl
  · refine (within0 _ _ _ _ w).mono fun e w' ⟨a, b⟩ => ⟨a.trans (ret_bool ?_), b⟩
    unfold inB p4
    rw [Bool.eq_iff_iff]; simp only [decide_eq_true_eq]; omega
  · refine (within1 _ _ _ _ w).mono fun e w' ⟨a, b⟩ => ⟨a.trans (ret_bool ?_), b⟩
    unfold inB p4 p4
    rw [Bool.eq_iff_iff]; simp only [decide_eq_true_eq]; omega
  · refine (within2 _ _ _ _ w).mono fun e w' ⟨a, b⟩ => ⟨a.trans (ret_bool ?_), b⟩
    unfold inB
    rw [show p4 2 = 16 from rfl, Bool.eq_iff_iff]; simp only [decide_eq_true_eq]; omega
  · refine (within3 _ _ _ _ w).mono fun e w' ⟨a, b⟩ => ⟨a.trans (ret_bool ?_), b⟩
    unfold inB
    rw [show p4 3 = 64 from rfl, Bool.eq_iff_iff]; simp only [decide_eq_true_eq]; omega
  · refine (within4 _ _ _ _ w).mono fun e w' ⟨a, b⟩ => ⟨a.trans (ret_bool ?_), b⟩
    unfold inB
    rw [show p4 4 = 256 from rfl, Bool.eq_iff_iff]; simp only [decide_eq_true_eq]; simp; omega
theorem dig {x : Int} {n : Nat} (h : x = (n : Int)) : some (Value.int .i64 x) = some (Value.int .i64 (n : Int)) := by rw [h]
/-- The part of a path below the height h: a slice of a copy of the path. -/
def RetWay (h i : Nat) (w : World) (e : Ending) (w' : World) : Prop := ∃ v, e = .returned v ∧ WayV w' v h i ∧ (∃ a, v = .slice a h h ∧ ∀ b o, a = some ⟨b, o, none⟩ → w.heap.size ≤ b) ∧ Grew w w'
theorem way_new {n k b o : Nat} (e : some (⟨n, k, none⟩ : Addr) = some ⟨b, o, none⟩) : n ≤ b := by
  injection e with e
  injection e with e
  omega
theorem below_any (h : Nat) (i : Nat) (w : World) (hh : h ≤ 4) : Calls Try.prog 71 #[pathI i, .int .i64 h] w (RetWay h i w) := by
  have hc : h = 0 ∨ h = 1 ∨ h = 2 ∨ h = 3 ∨ h = 4 := by omega
  have O := (Own.new w 82 #[.int .i64 ((i : Int) / 64 % 4), .int .i64 ((i : Int) / 16 % 4), .int .i64 ((i : Int) / 4 % 4), .int .i64 ((i : Int) % 4)]).four
  have G := (Grew.refl w).alloc (.cells #[.int .i64 ((i : Int) / 64 % 4), .int .i64 ((i : Int) / 16 % 4), .int .i64 ((i : Int) / 4 % 4), .int .i64 ((i : Int) % 4)] 82)
  rcases hc with rfl | rfl | rfl | rfl | rfl
  all_goals
    go_enter Try.func71, Try.ntmps71
    go_wp2
    go_ret
  · exact ⟨_, rfl, .inl ⟨rfl, _, _, rfl⟩, ⟨_, rfl, fun b o e => way_new e⟩, G⟩
  · refine ⟨_, rfl, .inr ⟨by omega, _, _, rfl, fun j hj => ?_⟩, ⟨_, rfl, fun b o e => way_new e⟩, G⟩
    have : j = 0 := by omega
    subst this
    exact O.2.2.2.1.trans (dig (by show _ = ((i / 1 % 4 : Nat) : Int); omega))
  · refine ⟨_, rfl, .inr ⟨by omega, _, _, rfl, fun j hj => ?_⟩, ⟨_, rfl, fun b o e => way_new e⟩, G⟩
    have : j = 0 ∨ j = 1 := by omega
    rcases this with rfl | rfl
    · exact O.2.2.1.trans (dig (by show _ = ((i / 4 % 4 : Nat) : Int); omega))
    · exact O.2.2.2.1.trans (dig (by show _ = ((i / 1 % 4 : Nat) : Int); omega))
  · refine ⟨_, rfl, .inr ⟨by omega, _, _, rfl, fun j hj => ?_⟩, ⟨_, rfl, fun b o e => way_new e⟩, G⟩
    have : j = 0 ∨ j = 1 ∨ j = 2 := by omega
    rcases this with rfl | rfl | rfl
    · exact O.2.1.trans (dig (by show _ = ((i / 16 % 4 : Nat) : Int); omega))
    · exact O.2.2.1.trans (dig (by show _ = ((i / 4 % 4 : Nat) : Int); omega))
    · exact O.2.2.2.1.trans (dig (by show _ = ((i / 1 % 4 : Nat) : Int); omega))
  · refine ⟨_, rfl, .inr ⟨by omega, _, _, rfl, fun j hj => ?_⟩, ⟨_, rfl, fun b o e => way_new e⟩, G⟩
    have : j = 0 ∨ j = 1 ∨ j = 2 ∨ j = 3 := by omega
    rcases this with rfl | rfl | rfl | rfl
    · exact O.1.trans (dig (by show _ = ((i / 64 % 4 : Nat) : Int); omega))
    · exact O.2.1.trans (dig (by show _ = ((i / 16 % 4 : Nat) : Int); omega))
    · exact O.2.2.1.trans (dig (by show _ = ((i / 4 % 4 : Nat) : Int); omega))
    · exact O.2.2.2.1.trans (dig (by show _ = ((i / 1 % 4 : Nat) : Int); omega))
end Go.Proofs.Ytdlhihllmidfeaa
