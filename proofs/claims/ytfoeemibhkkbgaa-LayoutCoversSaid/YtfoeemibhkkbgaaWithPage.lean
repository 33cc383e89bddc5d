/- layout.withPage, layout.joined. -/
import Derived.Test.YtfoeemibhkkbgaaChosen
import Derived.Deep.QuietTactic
import Derived.BigQuiet
import Derived.Deep.RegionHeld3
import Derived.Deep.DrawnRows
import Derived.Outline
import Derived.IntWalk
namespace Go.Proofs.Ytfoeemibhkkbgaa
attribute [local go_sem ↓] Go.wp_at_zero Go.wp_at_succ
open Go.RowKit Go.Mine

theorem info_span : (Try.prog.info? 36).map (fun i => (i.zero, i.size, i.bytes)) = some (some (.agg #[.int .i64 0, .int .i64 0]), 2, 16) := by kernel_rfl
/-- It returns a new row of spans. -/
def RetR (L : List Sp) (w : World) (e : Ending) (w' : World) : Prop := ∃ v, e = .returned v ∧ RowE 36 2 enc2 w' w.heap.size v L ∧ Grew w w'

set_option maxHeartbeats 2000000 in
theorem withPage_nil (B : Nat) (v : Value) (q : Int) (w : World) (R : RowE 36 2 enc2 w B v []) :
    Calls Try.prog 33 #[v, .int .i64 q] w (RetR [(q, 2)] w) := by
  have hn : ∃ a c, v = .slice a 0 c ∧ (a = none → c = 0) := by
    rcases R.shape enc2_len with ⟨rfl, -⟩ | ⟨g, cap, rfl, -⟩
    · exact ⟨none, 0, rfl, fun _ => rfl⟩
    · exact ⟨_, _, rfl, fun e => by cases e⟩
  obtain ⟨a, c, rfl, hac⟩ := hn
  clear R
  go_enter Try.func33, Try.ntmps33
  go_wp2
  go_quiet (fail)
  have hold : ∀ b, a = some b → ∀ j u, (([] : List Sp).flatMap enc2)[j]? = some u → ∀ W : World, W.cell? (b.add j) = some u := fun b _ j u hu => by simp at hu
  have HO := Lib.hid hold
  have HA := Lib.hid hac
  have hn0 : a = none → (0 : Nat) = 0 := fun _ => rfl
  clear hold hac
  go_wp2_with (at_builtin; go_loud (refine wpList_append_new _ rfl (.tmp 31) (.tmp 34) 34 rfl info_span Try.underlying34 (by decide) (by decide) enc2_len a 0 [] rfl rfl (fun _ => rfl) (fun b hb j u hu => HO.out b hb j u hu _) _ _ (q, 2) rfl (Own.new _ _ _) enc2_one (by decide) (by decide) ?_; intro g2 cap2 w2 R2 G2))
  go_ret
  exact ⟨_, rfl, R2.wider (by simp), ((Grew.refl _).drewN _ |>.alloc _).trans (below_of_grown G2)⟩
theorem getlast {M : List Sp} {x : Sp} : (M ++ [x]).getD M.length (0, 0) = x := by simp [List.getD]
set_option maxHeartbeats 4000000 in
theorem withPage_snoc (B : Nat) (v : Value) (M : List Sp) (s c q : Int) (w : World) (hM : M.length ≤ 1000) (hs : 0 ≤ s ∧ s ≤ 1000) (hc : 0 ≤ c ∧ c ≤ 1000) (R : RowE 36 2 enc2 w B v (M ++ [(s, c)])) :
    Calls Try.prog 33 #[v, .int .i64 q] w (RetR (wpL (M ++ [(s, c)]) q) w) := by
  rcases R.shape enc2_len with ⟨-, h⟩ | ⟨g, cap, rfl, -, hg, hcap, hcm, hcell, hfr⟩
  · simp at h
  have h0 : w.cell? ⟨g, M.length * 2, none⟩ = some (.int .i64 s) := by
    have := hcell M.length (by simp) 0 (by omega)
    simpa [enc2] using this
  have h1 : w.cell? ⟨g, M.length * 2 + 1, none⟩ = some (.int .i64 c) := by
    have := hcell M.length (by simp) 1 (by omega)
    simpa [enc2] using this
  have hold : ∀ j u, ((M ++ [(s, c)]).flatMap enc2)[j]? = some u → w.cell? ((⟨g, 0, none⟩ : Addr).add j) = some u := World.ownsRow.cells R rfl
  have hold2 : ∀ j u, (M.flatMap enc2)[j]? = some u → w.cell? ((⟨g, 0, none⟩ : Addr).add j) = some u := fun j u hu => hold j u (by
    rw [List.flatMap_append, List.getElem?_append_left (List.getElem?_eq_some_iff.1 hu).1]; exact hu)
  have HO := Lib.hid hold
  have HO2 := Lib.hid hold2
  clear hold hold2 hcell hfr R hcm
  simp only [List.length_append, List.length_singleton] at hcap ⊢
  obtain ⟨m, hm⟩ : ∃ m, M.length = m := ⟨_, rfl⟩
  rw [hm] at h0 h1 hcap hM ⊢
  have HM := Lib.hid hm
  clear hm
  have hg0 : ((m : Int) + 1 == 0) = false := by simp; omega
  have hq0 : 0 ≤ s + c := by omega
  have hq1 : s + c ≤ 2000 := by omega
  by_cases e : s + c = q
  · subst e
    have k0 : (0 : Int) ≤ (m : Int) := by omega
    have k1 : (m : Int) < (m : Int) + 1 := by omega
    have hw1 : IntKind.i64.wrap (m : Int) = m := IntWalk.i64_in _ (by omega)
    have hw2 : IntKind.i64.wrap (s + c) = s + c := IntWalk.i64_in _ (by omega)
    go_enter Try.func33, Try.ntmps33
    go_wp2
    go_quiet (fail)
    clear hw1
    have GQ : Grew w (w.drewN nq) := (Grew.refl w).drewN nq
    replace h0 : (w.drewN nq).cell? ⟨g, m * 2, none⟩ = some (.int .i64 s) := h0
    replace h1 : (w.drewN nq).cell? ⟨g, m * 2 + 1, none⟩ = some (.int .i64 c) := h1
    have HP : Hid (∀ j u, (M.flatMap enc2)[j]? = some u → (w.drewN nq).cell? ((⟨g, 0, none⟩ : Addr).add j) = some u) := Lib.hid HO2.out
    have hg1 : g < (w.drewN nq).heap.size := hg
    clear HO HO2
    generalize w.drewN nq = y at *
    have NE := World.new_ne y _ h0
    have NE2 := World.new_ne y _ h1
    go_wp2
    have X := Own.new y 36 #[.int .i64 s, .int .i64 (c + 2)]
    replace HP : Hid (∀ j u, (M.flatMap enc2)[j]? = some u → (y.alloc (.cells #[.int .i64 s, .int .i64 (c + 2)] 36)).cell? ((⟨g, 0, none⟩ : Addr).add j) = some u) := Lib.hid fun j u hu => (World.cell?_of_block (a := (⟨g, 0, none⟩ : Addr).add j) (by rw [World.add_block' _ rfl]; exact Below.heap_alloc _ _ _ hg1)).trans (HP.out j u hu)
    replace GQ := GQ.alloc (.cells #[.int .i64 s, .int .i64 (c + 2)] 36)
    replace hg1 : g < (y.alloc (.cells #[.int .i64 s, .int .i64 (c + 2)] 36)).heap.size := by simp; omega
    have hc2 : (m : Int) ≤ (cap : Int) := by omega
    have hm1 : m < 1000000 := by omega
    have hw1 : IntKind.i64.wrap (m : Int) = m := IntWalk.i64_in _ (by omega)
    clear h0 h1 NE NE2 hcap hg hg0 hq0 hq1 hs hc hw2 hM k1
    generalize y.alloc (.cells #[.int .i64 s, .int .i64 (c + 2)] 36) = x at *
    have hX := X.lt
    generalize y.heap.size = H at *
    obtain ⟨X0, X1, X2, X3⟩ := X.two
    go_region_held3 (fun w' => w'.cell? ⟨H, 0, none⟩ = some (.int .i64 s) ∧ w'.cell? ⟨H, 1, none⟩ = some (.int .i64 (c + 2)))
      (first | go_keep | (go_split_ands; refine ⟨?_, ?_⟩ <;> (rw [G2.cell_far _ (by simp; omega) (by simp)]; assumption)))
      ((refine step_append_new (by rfl) (.tmp 50) (.tmp 52) 34 (by rfl) info_span Try.underlying34 (by decide) (by decide) enc2_len (some ⟨g, 0, none⟩) m M (by rfl) HM.out (fun h => by cases h) (fun b hb j u hu => by cases hb; exact (World.cell?_of_block (a := (⟨g, 0, none⟩ : Addr).add j) (by rw [World.add_block' _ rfl]; exact Below.heap_alloc _ _ _ hg1)).trans (HP.out j u hu)) _ _ (s, c + 2) (by rfl) (Own.new x _ _) enc2_one hm1 (by decide) ?_; intro g2 cap2 w2 R2 G2))
    go_wp2
    go_ret
    refine ⟨_, rfl, ?_, (GQ.alloc _).drew.trans (below_of_grown G2)⟩
    rw [wpL_yes _ _ _ _ rfl]
    have k := R2.wider (C := w.heap.size) (by have := GQ.size; simp; omega)
    unfold RowE at k ⊢
    simpa [HM.out] using k
  · have b : (s + c != q) = true := by simpa using e
    have E := Lib.hid e
    clear e
    have k0 : (0 : Int) ≤ (m : Int) := by omega
    have k1 : (m : Int) < (m : Int) + 1 := by omega
    have hw1 : IntKind.i64.wrap (m : Int) = m := IntWalk.i64_in _ (by omega)
    have hw2 : IntKind.i64.wrap (s + c) = s + c := IntWalk.i64_in _ (by omega)
    go_enter Try.func33, Try.ntmps33
    go_wp2
    go_quiet (fail)
    clear hw1 hw2
    have HP : Hid (∀ j u, ((M ++ [(s, c)]).flatMap enc2)[j]? = some u → ∀ o, ((w.drewN nq).alloc o).cell? ((⟨g, 0, none⟩ : Addr).add j) = some u) := Lib.hid fun j u hu o => (World.cell?_of_block (a := (⟨g, 0, none⟩ : Addr).add j) (by rw [World.add_block' _ rfl]; exact Below.heap_alloc _ _ _ hg)).trans (HO.out j u hu)
    have GQ : Grew w (w.drewN nq) := (Grew.refl w).drewN nq
    have HL : Hid ((M ++ [(s, c)]).length = m + 1) := Lib.hid (by simp [HM.out])
    have hm1 : m + 1 < 1000000 := by omega
    clear HO HO2
    go_wp2_with (at_builtin; go_loud (refine wpList_append_new _ rfl (.tmp 31) (.tmp 34) 34 rfl info_span Try.underlying34 (by decide) (by decide) enc2_len (some ⟨g, 0, none⟩) (m + 1) (M ++ [(s, c)]) rfl HL.out (fun h => by cases h) (fun b hb j u hu => by cases hb; exact HP.out j u hu _) _ _ (q, 2) rfl (Own.new _ _ _) enc2_one hm1 (by decide) ?_; intro g2 cap2 w2 R2 G2))
    go_ret
    refine ⟨_, rfl, ?_, (GQ.alloc _).trans (below_of_grown G2)⟩
    rw [wpL_no _ _ _ _ E.out]
    have k := R2.wider (C := w.heap.size) (by simp)
    unfold RowE at k ⊢
    simpa [HM.out] using k
/-- All spans are small. -/
def Small (L : List Sp) : Prop := ∀ x ∈ L, (0 ≤ x.1 ∧ x.1 ≤ 1000) ∧ (0 ≤ x.2 ∧ x.2 ≤ 1000)
theorem withPage_any (B : Nat) (v : Value) (L : List Sp) (q : Int) (w : World) (hL : L.length ≤ 1000) (hs : Small L) (R : RowE 36 2 enc2 w B v L) :
    Calls Try.prog 33 #[v, .int .i64 q] w (RetR (wpL L q) w) := by
  rcases List.eq_nil_or_concat L with rfl | ⟨M, ⟨s, c⟩, rfl⟩
  · exact withPage_nil B v q w R
  · rw [List.concat_eq_append] at *
    have h := hs (s, c) (by simp)
    exact withPage_snoc B v M s c q w (by simp at hL; omega) h.1 h.2 R
end Go.Proofs.Ytfoeemibhkkbgaa
