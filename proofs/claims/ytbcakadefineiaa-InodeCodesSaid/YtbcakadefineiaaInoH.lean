/- The contracts of package inode (layer 3): the halves of a sector. -/
import Derived.Test.YtbcakadefineiaaIno
namespace Go.Proofs.Ytbcakadefineiaa
open Go.RowKit Go.Mine

/-- The world behind a string's conversion to bytes. -/
def cvW (s : ByteArray) (W : World) : World := Lib.bytesWorld W 5 s
theorem cv_size (s : ByteArray) (W : World) : (cvW s W).heap.size = W.heap.size + 1 := Lib.bytesWorld_size W _ s
theorem cv_old (s : ByteArray) (W : World) (b o : Nat) (h : b < W.heap.size) : (cvW s W).cell? ⟨b, o, none⟩ = W.cell? ⟨b, o, none⟩ ∧ (cvW s W).frozen? ⟨b, o, none⟩ = W.frozen? ⟨b, o, none⟩ :=
  ⟨World.cell?_of_block (a := ⟨b, o, none⟩) (Lib.bytesWorld_at_old W _ s b h), World.frozen?_of_block (a := ⟨b, o, none⟩) (Lib.bytesWorld_at_old W _ s b h)⟩
theorem cv_run (s : ByteArray) (W : World) : ∃ c, s.size ≤ c ∧ (convert 9 47 (.string s)).run Try.prog W = .ok (.slice (some ⟨W.heap.size, 0, none⟩) s.size c) (cvW s W) :=
  ⟨_, grownCap_ge _ _ _ _, Lib.run_convert_string_bytes W _ _ _ s Try.underlying9 Try.underlying47 Try.underlying5⟩
theorem cv_cell (s : ByteArray) (W : World) (j : Nat) (hj : j < s.size) : (cvW s W).cell? ⟨W.heap.size, j, none⟩ = some (.int .u8 (s.data.toList.getD j 0).toNat) := Lib.bytesWorld_cell W _ s j hj
theorem cv_grew (s : ByteArray) (w : World) : Grew w (cvW s w) :=
  below_of_grown ⟨rfl, rfl, rfl, by rw [cv_size]; omega, fun i hi _ => Lib.bytesWorld_at_old w _ s i hi⟩
theorem Grew_cv {a w : World} (h : Grew a w) (s : ByteArray) : Grew a (cvW s w) := h.trans (cv_grew s w)
def cvC (s : ByteArray) (W : World) : Nat := grownCap W s.size 0 5

theorem Own.setE {w : World} {g i : Nat} {t : TypeId} {cs cs' : Array Value} {u : Value} (h : Own w g t cs) (e : cs' = cs.setIfInBounds i u) : Own (w.setCell ⟨g, i, none⟩ u) g t cs' := e ▸ h.set i u
theorem Own.cv {w : World} {g : Nat} {t : TypeId} {cs : Array Value} (h : Own w g t cs) (s : ByteArray) : Own (cvW s w) g t cs := h.grew (cv_grew s w)
theorem gen_end {Q : Act → World → Prop} {a : Act} {E w : World} {t : TypeId} {A B : Array Value} (h : ∀ E', Own E' w.heap.size t A → Own E' (w.heap.size + 1) t B → Grew w E' → Q a E')
    (hA : Own E w.heap.size t A) (hB : Own E (w.heap.size + 1) t B) (hg : Grew w E) : Q a E := h E hA hB hg

set_option maxHeartbeats 2000000 in
theorem halvesOf_any (x0 x1 x2 x3 x4 x5 x6 x7 : UInt8) (w : World) :
    Calls Try.prog 29 #[.string { data := #[x0, x1, x2, x3, x4, x5, x6, x7] }] w (RetG (.tuple #[halfV x0.toNat x1.toNat x2.toNat x3.toNat, halfV x4.toNat x5.toNat x6.toNat x7.toNat]) w) := by
  have k1 : ∀ W, (convert 9 47 (.string (({ data := #[x0, x1, x2, x3, x4, x5, x6, x7] } : ByteArray).extract 0 4))).run Try.prog W = .ok (.slice (some ⟨W.heap.size, 0, none⟩) 4 (cvC { data := #[x0, x1, x2, x3] } W)) (cvW { data := #[x0, x1, x2, x3] } W) := fun W => Lib.run_convert_string_bytes W _ _ _ { data := #[x0, x1, x2, x3] } Try.underlying9 Try.underlying47 Try.underlying5
  have k2 : ∀ W, (convert 9 47 (.string (({ data := #[x0, x1, x2, x3, x4, x5, x6, x7] } : ByteArray).extract 4 8))).run Try.prog W = .ok (.slice (some ⟨W.heap.size, 0, none⟩) 4 (cvC { data := #[x4, x5, x6, x7] } W)) (cvW { data := #[x4, x5, x6, x7] } W) := fun W => Lib.run_convert_string_bytes W _ _ _ { data := #[x4, x5, x6, x7] } Try.underlying9 Try.underlying47 Try.underlying5
  have k3 : ∀ A c W, (Instr.arrayAt 54 (.slice (some A) 4 c)).run Try.prog W = .ok (.pointer (some A)) W := fun A c W => by kernel_rfl
  have s1 := fun W => cv_size { data := #[x0, x1, x2, x3] } W
  have s2 := fun W => cv_size { data := #[x4, x5, x6, x7] } W
  have o1 := fun W b o h => (cv_old { data := #[x0, x1, x2, x3] } W b o h).1
  have o2 := fun W b o h => (cv_old { data := #[x4, x5, x6, x7] } W b o h).1
  have p1 := fun W b o h => (cv_old { data := #[x0, x1, x2, x3] } W b o h).2
  have p2 := fun W b o h => (cv_old { data := #[x4, x5, x6, x7] } W b o h).2
  have a0 : ∀ W x, x = W.heap.size → (cvW { data := #[x0, x1, x2, x3] } W).cell? ⟨x, 0, none⟩ = some (.int .u8 x0.toNat) := fun W x h => h ▸ cv_cell _ W 0 (show 0 < 4 by decide)
  have a1 : ∀ W x, x = W.heap.size → (cvW { data := #[x0, x1, x2, x3] } W).cell? ⟨x, 1, none⟩ = some (.int .u8 x1.toNat) := fun W x h => h ▸ cv_cell _ W 1 (show 1 < 4 by decide)
  have a2 : ∀ W x, x = W.heap.size → (cvW { data := #[x0, x1, x2, x3] } W).cell? ⟨x, 2, none⟩ = some (.int .u8 x2.toNat) := fun W x h => h ▸ cv_cell _ W 2 (show 2 < 4 by decide)
  have a3 : ∀ W x, x = W.heap.size → (cvW { data := #[x0, x1, x2, x3] } W).cell? ⟨x, 3, none⟩ = some (.int .u8 x3.toNat) := fun W x h => h ▸ cv_cell _ W 3 (show 3 < 4 by decide)
  have b0 : ∀ W x, x = W.heap.size → (cvW { data := #[x4, x5, x6, x7] } W).cell? ⟨x, 0, none⟩ = some (.int .u8 x4.toNat) := fun W x h => h ▸ cv_cell _ W 0 (show 0 < 4 by decide)
  have b1 : ∀ W x, x = W.heap.size → (cvW { data := #[x4, x5, x6, x7] } W).cell? ⟨x, 1, none⟩ = some (.int .u8 x5.toNat) := fun W x h => h ▸ cv_cell _ W 1 (show 1 < 4 by decide)
  have b2 : ∀ W x, x = W.heap.size → (cvW { data := #[x4, x5, x6, x7] } W).cell? ⟨x, 2, none⟩ = some (.int .u8 x6.toNat) := fun W x h => h ▸ cv_cell _ W 2 (show 2 < 4 by decide)
  have b3 : ∀ W x, x = W.heap.size → (cvW { data := #[x4, x5, x6, x7] } W).cell? ⟨x, 3, none⟩ = some (.int .u8 x7.toNat) := fun W x h => h ▸ cv_cell _ W 3 (show 3 < 4 by decide)
  go_enter Try.func29, Try.ntmps29
  go_wp2
  go_region
  all_goals
    clear k1 k2 k3 s1 s2 o1 o2 p1 p2 a0 a1 a2 a3 b0 b1 b2 b3
    have OA := (Own.new w 54 #[.int .u8 0, .int .u8 0, .int .u8 0, .int .u8 0]).alloc (.cells #[.int .u8 0, .int .u8 0, .int .u8 0, .int .u8 0] 54)
    have OB := Own.new (w.alloc (.cells #[.int .u8 0, .int .u8 0, .int .u8 0, .int .u8 0] 54)) 54 #[.int .u8 0, .int .u8 0, .int .u8 0, .int .u8 0]
    rw [World.size_alloc] at OB
    refine gen_end (Q := Exit.then _ _ _) (w := w) (t := 54) (A := #[.int .u8 x0.toNat, .int .u8 x1.toNat, .int .u8 x2.toNat, .int .u8 x3.toNat]) (B := #[.int .u8 x4.toNat, .int .u8 x5.toNat, .int .u8 x6.toNat, .int .u8 x7.toNat]) ?_ ?_ ?_ ?_
    · generalize cvC _ _ = c1
      generalize cvC _ _ = c2
      clear OA OB
      intro E' hA hB hg
      obtain ⟨A0, A1, A2, A3, -, -, -, -⟩ := hA.four
      obtain ⟨B0, B1, B2, B3, -, -, -, -⟩ := hB.four
      go_wp2
      refine bodyPost_ret (v := .tuple #[halfV x0.toNat x1.toNat x2.toNat x3.toNat, halfV x4.toNat x5.toNat x6.toNat x7.toNat]) (by simp [results, Try.results29, go_sem, A0, A1, A2, A3, B0, B1, B2, B3]) rfl ⟨rfl, ?_⟩
      exact hg
    · repeat (first | with_reducible exact OA | (with_reducible apply Own.far; case hp => (simp; done)) | with_reducible apply Own.setE | with_reducible apply Own.cv | with_reducible apply Own.drew)
      all_goals rfl
    · repeat (first | with_reducible exact OB | (with_reducible apply Own.far; case hp => (simp; done)) | with_reducible apply Own.setE | with_reducible apply Own.cv | with_reducible apply Own.drew)
      all_goals rfl
    · repeat (first | with_reducible exact Grew.refl _ | with_reducible refine Grew.set ?_ (by simp) _ | with_reducible refine Grew_cv ?_ _ | with_reducible refine Grew.drew ?_ | with_reducible refine Grew.alloc ?_ _)
end Go.Proofs.Ytbcakadefineiaa
