/- PageHistory: the row of bytes that is compared with the page. -/
import Derived.Test.YtokbkidoapgamaaHist
import Derived.Lib.LazyBuf
import Derived.Lib.ConvBytes
import Derived.Laws.IdiomCopy
import Derived.Laws.BytesArg
namespace Go.Proofs.Ytokbkidoapgamaa
open Go.RowKit Go.Mine

/-- A row of bytes of the call's own. -/
def Bts (w : World) (b : Nat) (s : ByteArray) : Prop := b < w.heap.size ∧ s.size = 16 ∧ ∀ j, j < 16 → w.cell? ⟨b, j, none⟩ = some (.int .u8 ((at8 s j).toNat : Int)) ∧ w.frozen? ⟨b, j, none⟩ = false
section
variable {w w' : World} {b : Nat} {s : ByteArray}
theorem Bts.kept (h : Bts w b s) (hs : w.heap.size ≤ w'.heap.size) (e : w'.heap[b]? = w.heap[b]?) : Bts w' b s :=
  ⟨Nat.lt_of_lt_of_le h.1 hs, h.2.1, fun j hj => ⟨(World.cell?_of_block (a := ⟨b, j, none⟩) e).trans (h.2.2 j hj).1, (World.frozen?_of_block (a := ⟨b, j, none⟩) e).trans (h.2.2 j hj).2⟩⟩
theorem Bts.grew (h : Bts w b s) (g : Grew w w') : Bts w' b s := Bts.kept h g.size (Below.block g b h.1)
theorem Bts.past {r : Nat} (h : Bts w b s) (g : w.grownBy w' (some r)) (hr : b ≠ r) : Bts w' b s := Bts.kept h g.size (g.block b h.1 (fun e => hr (by injection e)))
theorem Bts.far3 {g : Nat} {x y z : Value} (h : Bts w b s) (hw : ((w.setCell ⟨g, 0, none⟩ x).setCell ⟨g, 1, none⟩ y).setCell ⟨g, 2, none⟩ z = w') (hne : b ≠ g) : Bts w' b s := by
  subst hw
  refine Bts.kept h (by simp [World.setCell]) ?_
  rw [Below.heap_setCell _ _ _ _ hne, Below.heap_setCell _ _ _ _ hne, Below.heap_setCell _ _ _ _ hne]
theorem Bts.alloc (h : Bts w b s) (o : Obj) : Bts (w.alloc o) b s := Bts.grew h ((Grew.refl w).alloc o)
theorem Bts.drew (h : Bts w b s) : Bts w.drew b s := h
theorem Bts.lt (h : Bts w b s) : b < w.heap.size := h.1
theorem Bts.made (w : World) (T : TypeId) (h : s.size = 16) : Bts (Lib.bytesWorld w T s) w.heap.size s := by
  refine ⟨by rw [Lib.bytesWorld_size]; omega, h, fun j hj => ⟨Lib.bytesWorld_cell w T s j (by omega), ?_⟩⟩
  unfold World.frozen?
  rw [Lib.bytesWorld_at_new w T s]
  have hs : s.size ≤ (Lib.bytesCells w T s).size := by
    unfold Lib.bytesCells
    rw [Array.size_append, Array.size_map]
    exact Nat.le_add_right _ _
  simp
  omega
end
theorem cvG_grew (w : World) (T : TypeId) (s : ByteArray) : Grew w (Lib.bytesWorld w T s) :=
  below_of_grown ⟨rfl, rfl, rfl, by rw [Lib.bytesWorld_size]; omega, fun i hi _ => Lib.bytesWorld_at_old w T s i hi⟩
/-- 'copy' of a string into the row. -/
theorem Bts.copy {w : World} {b : Nat} {W : ByteArray} (h : Bts w b W) (s : ByteArray) (o c : Nat) (hs : o + s.size ≤ 16) (ty : TypeId) :
    (Builtin.copy_ #[27, 9] ty #[.slice (some ⟨b, o, none⟩) (16 - o) c, .string s]).run Try.prog w = .ok (.int .i64 s.size) (w.setCells b o (s.data.toList.map fun x => Value.int .u8 (x.toNat : Int))) ∧
      Bts (w.setCells b o (s.data.toList.map fun x => Value.int .u8 (x.toNat : Int))) b (overH W s o) ∧ w.grownBy (w.setCells b o (s.data.toList.map fun x => Value.int .u8 (x.toNat : Int))) (some b) := by
  have hl : (s.data.toList.map fun x => Value.int .u8 (x.toNat : Int)).length = s.size := by rw [List.length_map]; exact ba_size s
  have hsz : ∀ w, (Go.sizeOf 5).run Try.prog w = .ok 1 w := fun w => by kernel_rfl
  have hin := World.cell?_setCells_in b (s.data.toList.map fun x => Value.int .u8 (x.toNat : Int)) o w (fun j hj => by rw [(h.2.2 (o + j) (by omega)).1]; rfl)
  have hsize : ∀ (vs : List Value) (o : Nat) (w : World), (w.setCells b o vs).heap.size = w.heap.size := by
    intro vs
    induction vs with
    | nil => intro o w; rfl
    | cons v vs ih => intro o w; rw [World.setCells, ih]; simp [World.setCell]
  refine ⟨run_copy_string w _ _ ty 5 b o (16 - o) c s Try.underlying27 hsz (by omega) (fun j hj => by rw [(h.2.2 (o + j) (by omega)).1]; rfl) (fun j hj => (h.2.2 (o + j) (by omega)).2), ⟨?_, overH_size W s o h.2.1 hs, fun j hj => ⟨?_, ?_⟩⟩, ?_⟩
  · rw [hsize]; exact h.1
  · rw [at_over W s o j h.2.1 hs hj]
    by_cases hc : o ≤ j ∧ j < o + s.size
    · rw [if_pos hc]
      have := hin (j - o) (by rw [hl]; omega)
      rw [show o + (j - o) = j from by omega] at this
      rw [this]
      have e := (ba_size s).symm ▸ (show j - o < s.size by omega)
      simp [at8, List.getD_eq_getElem?_getD, List.getElem?_eq_getElem e]
    · rw [if_neg hc, World.cell?_setCells_out b _ o w ⟨b, j, none⟩ (fun _ _ => by rw [hl]; simp; omega)]
      exact (h.2.2 j hj).1
  · rw [World.frozen?_setCells]
    exact (h.2.2 j hj).2
  · have k := World.keptBut_setCells b (may := fun _ => True) (s.data.toList.map fun x => Value.int .u8 (x.toNat : Int)) o w (fun _ _ => trivial)
    have hb : ∀ (vs : List Value) (o : Nat) (w : World) (i : Nat), i ≠ b → (w.setCells b o vs).heap[i]? = w.heap[i]? := by
      intro vs
      induction vs with
      | nil => intro o w i _; rfl
      | cons v vs ih => intro o w i hi; rw [World.setCells, ih _ _ _ hi, Below.heap_setCell _ ⟨b, o, none⟩ v i hi]
    have ht : ∀ (vs : List Value) (o : Nat) (w : World), (w.setCells b o vs).tape = w.tape ∧ (w.setCells b o vs).os = w.os ∧ (w.setCells b o vs).output = w.output := by
      intro vs
      induction vs with
      | nil => intro o w; exact ⟨rfl, rfl, rfl⟩
      | cons v vs ih => intro o w; rw [World.setCells]; exact ih (o + 1) _
    exact ⟨(ht _ _ _).2.1, (ht _ _ _).1, (ht _ _ _).2.2, by rw [hsize]; exact Nat.le_refl _, fun i _ hi => hb _ _ _ _ (fun e => hi (by rw [e]))⟩
theorem nums_back (s : ByteArray) (h : s.size = 16) : strOfNums ((List.range 16).map fun j => ((at8 s j).toNat : Int)) = s := by
  apply ba_ext
  apply List.ext_getElem?
  intro i
  have ls := (ba_size s).trans h
  rw [strOfNums_data]
  by_cases hi : i < 16
  · rw [List.getElem?_map, List.getElem?_map, List.getElem?_range hi]
    have e : i < s.data.toList.length := by omega
    have e2 : i < s.data.size := by simpa using e
    simp [at8, List.getD_eq_getElem?_getD, List.getElem?_eq_getElem e]
    rw [Array.getElem?_eq_getElem e2]
    rfl
  · rw [List.getElem?_eq_none (by simp; omega), List.getElem?_eq_none (by omega)]
theorem Bts.back {w : World} {b : Nat} {s : ByteArray} (h : Bts w b s) (c : Nat) : (convert 27 9 (.slice (some ⟨b, 0, none⟩) 16 c)).run Try.prog w = .ok (.string s) w := by
  have e := run_convert_bytes_arg (P := Try.prog) w _ _ Try.underlying27 Try.underlying5 b 0 16 c ((List.range 16).map fun j => ((at8 s j).toNat : Int)) (by simp) (fun i hi => by
    rw [Nat.zero_add, (h.2.2 i hi).1]
    simp [List.getD, hi]) _ Try.underlying9
  rwa [nums_back s h.2.1] at e
end Go.Proofs.Ytokbkidoapgamaa
