/- The program's zones (layer 10): slices.Clone of integers and of zones; copied. -/
import Derived.Test.YtphccdfdknihdaaZp3
import Derived.Test.YtphccdfdknihdaaZr6
import Derived.Lib.SliceRun
namespace Go.Mine
open Go Go.RowKit
theorem Lies.keep {α : Type} {enc : α → List Value} {w w' : World} {a : Option Addr} {M : List α} (h : Lies enc w a M) (hk : ∀ g, g < w.heap.size → w'.heap[g]? = w.heap[g]?) : Lies enc w' a M := by
  rcases h with h0 | ⟨b, rfl, hb⟩
  · exact .inl h0
  · refine .inr ⟨b, rfl, fun j u hu => ?_⟩
    rw [← hb j u hu]
    exact World.cell?_of_block (hk _ (World.block_lt_of_cell? w _ (hb j u hu)))
theorem set_self {L : List Zo} {k : Nat} (h : k < L.length) : L.set k (L.getD k zoZ) = L := by rw [getD_get h]; exact List.set_getElem_self h
/-- The row lies in a block of its own. -/
theorem ZsO.block {T : TypeId} {w : World} {B n c : Nat} {a : Option Addr} {p : Nat → Prop} {L : List Zo} (h : ZsO T w B p (.slice a n c) L) (h0 : 0 < L.length) : n = L.length ∧ ∃ g, a = some ⟨g, 0, none⟩ ∧ B ≤ g ∧ g < w.heap.size ∧ ∀ o, w.frozen? ⟨g, o, none⟩ = false := by
  obtain ⟨M, R, hM, -⟩ := h
  rcases R.shape encZ_len with ⟨-, e⟩ | ⟨g, c', e, hB, hg, -, -, -, hf⟩
  · rw [e] at hM; exact absurd h0 (by rw [← hM]; simp)
  · injection e with e1 e2 e3
    exact ⟨by omega, g, e1, hB, hg, hf⟩
theorem ZsO.kept {T : TypeId} {w w' : World} {B : Nat} {v : Value} {p : Nat → Prop} {L : List Zo} (h : ZsO T w B p v L) (G : Grew w w') : ZsO T w' B p v L := by
  obtain ⟨M, R, hM, hrd⟩ := h
  exact ⟨M, R.grew G, hM, fun k hk => (hrd k hk).keep G.size (fun _ a _ => a) fun g _ hg => Below.block G g hg⟩
theorem ZsO.len_ {T : TypeId} {w : World} {B : Nat} {v : Value} {p : Nat → Prop} {L : List Zo} (h : ZsO T w B p v L) : ∃ a c, v = .slice a L.length c := by
  obtain ⟨M, R, hM, -⟩ := h
  obtain ⟨a, c, e⟩ := R.len
  exact ⟨a, c, by rw [e, hM]⟩
end Go.Mine
namespace Go.Proofs.Ytphccdfdknihdaa
open Go.RowKit Go.Mine

def RetRw (xs : List Int) (w : World) (e : Ending) (w' : World) : Prop := ∃ v, e = .returned v ∧ RowE 3 1 enc1 w' w.heap.size v xs ∧ Grew w w'
set_option maxHeartbeats 1000000 in
theorem clone_i {p : Nat → Prop} {a : Option Addr} {n c : Nat} {xs : List Int} {w : World} (h : RdI w p a n xs) (hl : xs.length ≤ 1000) : Calls Try.prog 45 #[.slice a n c] w (RetRw xs w) := by
  obtain rfl := h.1
  cases a with
  | none =>
    have hx : xs = [] := by
      rcases h.2 with h | ⟨g, o, e, -⟩
      · exact h
      · cases e
    subst hx
    have q22 : ∀ (w : World) (a : Option Addr) (n c n' c' : Nat), (binOp .eql 22 (.slice a n c) (.slice none n' c')).run Try.prog w = .ok (.bool a.isNone) w := fun w a n c n' c' => Lib.run_eql_slice_nil w _ _ a n c n' c' Try.underlying22
    go_enter Try.func45, Try.ntmps45
    go_wp2
    go_ret
    exact ⟨_, rfl, RowE.nil _ _, Grew.refl _⟩
  | some A =>
    have HRI := Lib.hid (h.keep (q := p) (w' := w.alloc (.cells #[] 3)) (by simp) (fun _ a _ => a) fun g _ hg => Below.heap_alloc w _ g hg)
    have hx6 : xs.length < 1000000 := by omega
    have R0 : RowE 3 1 enc1 (w.alloc (.cells #[] 3)) w.heap.size (.slice (some ⟨w.heap.size, 0, none⟩) 0 0) [] := RowE.lit w #[] rfl rfl (by decide) (Nat.le_refl _)
    have HR0 := Lib.hid R0
    have HG0 := Lib.hid ((Grew.refl w).alloc (.cells #[] 3))
    have hz : w.heap.size ≤ (w.alloc (.cells #[] 3)).heap.size := by simp
    clear h R0
    have q22 : ∀ (w : World) (a : Option Addr) (n c n' c' : Nat), (binOp .eql 22 (.slice a n c) (.slice none n' c')).run Try.prog w = .ok (.bool a.isNone) w := fun w a n c n' c' => Lib.run_eql_slice_nil w _ _ a n c n' c' Try.underlying22
    go_enter Try.func45, Try.ntmps45
    go_wp2_with (at_builtin; go_loud (
      refine wpList_append_src _ rfl _ _ 22 rfl w.heap.size info_int Try.underlying22 (by decide) (by decide) enc1_len (fun z => enc1_one) _ [] rfl HR0.out _ _ _ xs rfl rfl HRI.out.lies.2 (by simpa using hx6) (by decide) hz ?_
      intro v2 w2 R2 G2 o2))
    have HG2 := Lib.hid (Grew.keptA (B := w.heap.size) HG0.out G2 (fun x e => HR0.out.above x e) (Nat.le_refl _))
    go_wp2
    go_ret
    exact ⟨_, rfl, R2, HG2.out⟩
/-- Frames of a copy: of older blocks, or of new ones apart from the row. -/
def pQ (p : Nat → Prop) (B : Nat) (v : Value) (x : Nat) : Prop := (p x ∧ x < B) ∨ pR B v x
def RetZO (p : Nat → Prop) (L : List Zo) (w : World) (e : Ending) (w' : World) : Prop := ∃ v, e = .returned v ∧ ZsO 42 w' w.heap.size (pQ p w.heap.size v) v L ∧ Grew w w'
set_option maxHeartbeats 1000000 in
theorem clone_z {p : Nat → Prop} {a : Option Addr} {n c : Nat} {L : List Zo} {w : World} (h : ZsR w p (.slice a n c) L) (hl : L.length ≤ 1000) : Calls Try.prog 44 #[.slice a n c] w (RetZO p L w) := by
  obtain ⟨M, a2, c2, e, hM, hlies, hrd⟩ := h.cells
  injection e with e1 e2 e3
  subst e1 e2 e3
  cases a with
  | none =>
    have hx : L = [] := by
      rcases hlies with h | ⟨b, e, -⟩
      · rw [h] at hM; exact List.length_eq_zero_iff.1 (by rw [← hM]; rfl)
      · cases e
    subst hx
    have q22 : ∀ (w : World) (a : Option Addr) (n c n' c' : Nat), (binOp .eql 26 (.slice a n c) (.slice none n' c')).run Try.prog w = .ok (.bool a.isNone) w := fun w a n c n' c' => Lib.run_eql_slice_nil w _ _ a n c n' c' Try.underlying26
    go_enter Try.func44, Try.ntmps44
    go_wp2
    go_ret
    exact ⟨_, rfl, ⟨[], RowE.nil _ _, rfl, fun k hk => absurd hk (by simp)⟩, Grew.refl _⟩
  | some A =>
    have HL := Lib.hid (hlies.keep (w' := w.alloc (.cells #[] 42)) fun g hg => Below.heap_alloc w _ g hg)
    have hx6 : M.length < 1000000 := by omega
    have R0 : RowE 42 6 encZ (w.alloc (.cells #[] 42)) w.heap.size (.slice (some ⟨w.heap.size, 0, none⟩) 0 0) [] := RowE.lit w #[] rfl rfl (by decide) (Nat.le_refl _)
    have HR0 := Lib.hid R0
    have HRD := Lib.hid hrd
    have HG0 := Lib.hid ((Grew.refl w).alloc (.cells #[] 42))
    have hz : w.heap.size ≤ (w.alloc (.cells #[] 42)).heap.size := by simp
    clear h R0 hlies hrd
    have q22 : ∀ (w : World) (a : Option Addr) (n c n' c' : Nat), (binOp .eql 26 (.slice a n c) (.slice none n' c')).run Try.prog w = .ok (.bool a.isNone) w := fun w a n c n' c' => Lib.run_eql_slice_nil w _ _ a n c n' c' Try.underlying26
    go_enter Try.func44, Try.ntmps44
    go_wp2_with (at_builtin; go_loud (
      refine wpList_append_src _ rfl _ _ 26 rfl w.heap.size info_zone Try.underlying26 (by decide) (by decide) encZ_len (fun z => encZ_one) _ [] rfl HR0.out _ _ _ M rfl hM.symm HL.out (by simpa using hx6) (by decide) hz ?_
      intro v2 w2 R2 G2 o2))
    have HG2 := Lib.hid (Grew.keptA (B := w.heap.size) HG0.out G2 (fun x e => HR0.out.above x e) (Nat.le_refl _))
    go_wp2
    go_ret
    exact ⟨_, rfl, ⟨M, R2, hM, fun k hk => (HRD.out k hk).keep HG2.out.size (fun g h1 h2 => .inl ⟨h1, h2⟩) fun g _ h2 => Below.block HG2.out g h2⟩, HG2.out⟩
theorem pQ_ne {p : Nat → Prop} {B g n c x : Nat} (hB : B ≤ g) (h : pQ p B (.slice (some ⟨g, 0, none⟩) n c) x) : x ≠ g := by
  rcases h with h | h
  · have := h.2; omega
  · exact fun e => h.2 (by rw [e]; rfl)
set_option maxRecDepth 100000 in
set_option maxHeartbeats 2000000 in
theorem copied_p {p : Nat → Prop} {v : Value} {L : List Zo} {w : World} (h : ZsR w p v L) (hs : SmZ L) : Calls Try.prog 30 #[v] w (RetZO p L w) := by
  obtain ⟨a, c, rfl⟩ := h.slice
  have HS := Lib.hid hs
  obtain ⟨n, hn⟩ : ∃ n, L.length = n := ⟨_, rfl⟩
  have HN := Lib.hid hn
  have hl1 : L.length ≤ 1000 := hs.1
  have hl : n ≤ 1000 := hn ▸ hs.1
  rw [hn] at h ⊢
  have HZ := Lib.hid h
  clear h hs hn
  go_enter Try.func30, Try.ntmps30
  go_wp2_with fail
  with_reducible refine (clone_z HZ.out hl1).mono ?_
  rintro e1 w1 ⟨v1, rfl, Z1, G1⟩
  obtain ⟨a1, c1, rfl⟩ := Z1.len_
  rw [HN.out] at Z1 ⊢
  have HZ1 := Lib.hid Z1
  have HG1 := Lib.hid G1
  clear Z1 G1 HZ
  go_wp2_with fail
  go_loopw [9] (fun iv wr => ∃ i : Nat, iv = .int .i64 i ∧ i ≤ n ∧ ZsO 42 wr w.heap.size (pQ p w.heap.size (.slice a1 n c1)) (.slice a1 n c1) L ∧ Grew w wr) (fun iv _ => n - (intOf iv).toNat)
  case atStart => exact ⟨0, rfl, by omega, HZ1.out, HG1.out⟩
  case round =>
    obtain ⟨i, rfl, hi, Z, G⟩ := hrel
    obtain ⟨wo, rfl⟩ : ∃ wo : World, wo = wr := ⟨_, rfl⟩
    by_cases hlt : i < n
    · have hiL : i < L.length := by rw [HN.out]; exact hlt
      obtain ⟨-, g, rfl, hBg, hg, hfz⟩ := Z.block (by omega)
      obtain ⟨g', a', c', e', -, hg', -, -, -, -, -, c5, hri, hcp⟩ := (Z.read (q := fun _ => True) (fun _ _ _ => trivial) fun _ _ _ => trivial).at_ hiL
      injection e' with e'
      injection e' with e'
      subst e'
      have hfr := HS.out.2 i hiL
      have HSF := Lib.hid (set_self hiL)
      obtain ⟨z, hz⟩ : ∃ z, L.getD i zoZ = z := ⟨_, rfl⟩
      have HGD := Lib.hid hz
      rw [hz] at c5 hri hcp hfr HSF
      clear hz
      have hf5 := hfz (i * 6 + 5)
      have hi0 : (0 : Int) ≤ (i : Int) := by omega
      have hi1 : (i : Int) < (n : Int) := by omega
      have HRI := Lib.hid hri
      have HZZ := Lib.hid Z
      have HG := Lib.hid G
      clear hri Z G hfz
      go_wp2_with fail
      with_reducible refine (clone_i HRI.out hfr).mono ?_
      rintro e2 w2 ⟨v2, rfl, R2, G2⟩
      obtain ⟨a2, c2, rfl, hr2, hc2⟩ := R2.rdI
      have c5' := (G2.cells.1 g _ hg).trans c5
      have hf5' := (G2.cells.2 g (i * 6 + 5) hg).trans hf5
      have HR2 := Lib.hid hr2
      have HG2 := Lib.hid G2
      clear c5 hf5 R2 hr2 G2
      go_wp2
      have hK : ZsO 42 (w2.setCell ⟨g, i * 6 + 5, none⟩ (.slice a2 z.fr.length c2)) w.heap.size (pQ p w.heap.size (.slice (some ⟨g, 0, none⟩) n c1)) (.slice (some ⟨g, 0, none⟩) n c1) L := by
        have h1 := (HZZ.out.kept HG2.out).stored (k := i) (r := 5) (u := .slice a2 z.fr.length c2) (z' := z) hiL (by omega) (fun x hx => pQ_ne hBg hx) (fun zc hz => ⟨(zc.1, (a2, z.fr.length, c2)), rfl, (HGD.out ▸ hz.1), HR2.out.keep (Nat.le_refl _) (fun x h1 h2 => .inr ⟨by have := HG.out.size; omega, fun e => (by omega : g ≠ x) (by injection e)⟩) fun _ _ _ => rfl, hc2⟩)
        rw [HSF.out] at h1
        exact h1
      exact ⟨⟨i + 1, by go_num, by omega, hK, (HG.out.trans HG2.out).set (p := ⟨g, i * 6 + 5, none⟩) hBg _⟩, by simp [intOf] <;> omega⟩
    · obtain rfl : i = n := by omega
      have HZZ := Lib.hid Z
      have HG := Lib.hid G
      clear Z G
      go_wp2
      go_ret
      exact ⟨_, rfl, HZZ.out, HG.out⟩
end Go.Proofs.Ytphccdfdknihdaa
