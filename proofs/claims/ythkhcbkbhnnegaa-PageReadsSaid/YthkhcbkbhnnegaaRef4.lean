/- The contracts of the document's answers for layer 2, third part: Fill. -/
import Derived.Test.YthkhcbkbhnnegaaRef3
import Derived.Test.YthkhcbkbhnnegaaExch
import Derived.Deep.OwnRows
import Derived.Laws.BytesArg
import Derived.Lib.ConvBytes
import Derived.Outline
namespace Go.Proofs.Ythkhcbkbhnnegaa
open Go.RowKit Go.Mine

/-- Block b has n cells, none frozen, that hold f. -/
def Row (w : World) (b n : Nat) (f : Nat → Value) : Prop := ∀ j, j < n → w.cell? ⟨b, j, none⟩ = some (f j) ∧ w.frozen? ⟨b, j, none⟩ = false

theorem Row.set {w : World} {b n : Nat} {f : Nat → Value} (h : Row w b n f) (i : Nat) (hi : i < n) (v : Value) : Row (w.setCell ⟨b, i, none⟩ v) b n (fun j => if j = i then v else f j) := by
  intro j hj
  have hf : (w.setCell ⟨b, i, none⟩ v).frozen? ⟨b, j, none⟩ = w.frozen? ⟨b, j, none⟩ := by simp
  refine ⟨?_, hf.trans (h j hj).2⟩
  show _ = some (if j = i then v else f j)
  by_cases e : j = i
  · subst e
    rw [if_pos rfl]
    exact World.cell?_setCell_same' w _ v (by rw [(h j hj).1]; rfl)
  · rw [if_neg e, World.cell?_setCell_other]
    · exact (h j hj).1
    · intro e2
      injection e2 with _ e2
      exact e e2.symm
theorem Row.congr {w : World} {b n : Nat} {f g : Nat → Value} (h : Row w b n f) (e : ∀ j, j < n → f j = g j) : Row w b n g := fun j hj => ⟨by rw [← e j hj]; exact (h j hj).1, (h j hj).2⟩
theorem own_since {w w' : World} {g : Nat} {t : TypeId} {cs : Array Value} (h : Own w g t cs) (e : ∀ k, k < w.heap.size → w'.heap[k]? = w.heap[k]?) : Own w' g t cs := h.since (e g h.lt)
theorem bytesWorld_free (w : World) (e : TypeId) (s : ByteArray) (j : Nat) (hj : j < s.size) : (Lib.bytesWorld w e s).frozen? ⟨w.heap.size, j, none⟩ = false := by
  simp [World.frozen?, Lib.bytesWorld_at_new, Lib.bytesCells]
  omega

/-- The j-th byte, as a number. -/
def byteAt (a : ByteArray) (j : Nat) : Int := (a.data.toList.getD j 0).toNat
theorem byteAt_get (a : ByteArray) (j : Nat) (h : j < a.size) : (a[j].toNat : Int) = byteAt a j := by
  have e := (ba_size a).symm ▸ h
  unfold byteAt
  rw [List.getD_eq_getElem?_getD, List.getElem?_eq_getElem e]
  rfl

/-- Is the byte of the first (second) half filled? -/
def halfB (s v k : Int) : Bool := (bits .and .i64 s k != 0) && (bits .and .i64 v k == 0)
def fillByte (d x : ByteArray) (s v : Int) (j : Nat) : Int := if halfB s v (if j < 8 then 1 else 2) = true then byteAt x j else byteAt d j
theorem half_iff {s v : Int} (hs : setB s = true) (hv : setB v = true) : (halfB s v 1 = true ↔ bits .andNot .i64 s v = 1 ∨ bits .andNot .i64 s v = 3) ∧ (halfB s v 2 = true ↔ bits .andNot .i64 s v = 2 ∨ bits .andNot .i64 s v = 3) := by
  rcases setB_cases hs with rfl | rfl | rfl | rfl <;> rcases setB_cases hv with rfl | rfl | rfl | rfl <;> decide +kernel
theorem byte_back (a : ByteArray) (j : Nat) (h : j < a.size) : some (UInt8.ofNat (byteAt a j).toNat) = a.data.toList[j]? := by
  have e := (ba_size a).symm ▸ h
  unfold byteAt
  rw [List.getD_eq_getElem?_getD, List.getElem?_eq_getElem e]
  simp
theorem fill_bytes (d x : ByteArray) (s v : Int) (hs : setB s = true) (hv : setB v = true) (hd : d.size = 16) (hx : x.size = 16) :
    strOfNums ((List.range 16).map (fillByte d x s v)) = mixP d x (bits .andNot .i64 s v) := by
  obtain ⟨h1, h2⟩ := half_iff hs hv
  apply ba_ext
  apply List.ext_getElem?
  intro i
  have ld := (ba_size d).trans hd
  have lx := (ba_size x).trans hx
  rw [strOfNums_data]
  simp only [mixP, ba_app, ba_ext_list, ← h1, ← h2]
  by_cases hi : i < 16
  · rw [List.getElem?_map, List.getElem?_map, List.getElem?_range hi]
    simp only [Option.map_some, fillByte]
    by_cases h8 : i < 8
    · rw [List.getElem?_append_left (by split <;> simp [ld, lx] <;> omega), List.getElem?_take_of_lt (by omega), List.drop_zero, if_pos h8]
      split
      · exact byte_back x i (by omega)
      · exact byte_back d i (by omega)
    · have l8 : (List.take (8 - 0) (List.drop 0 (if halfB s v 1 = true then x else d).data.toList)).length = 8 := by split <;> simp [ld, lx]
      rw [List.getElem?_append_right (by omega), l8, List.getElem?_take_of_lt (by omega), List.getElem?_drop, if_neg h8, show 8 + (i - 8) = i by omega]
      split
      · exact byte_back x i (by omega)
      · exact byte_back d i (by omega)
  · rw [List.getElem?_eq_none (by simp; omega), List.getElem?_eq_none]
    simp only [List.length_append, List.length_take, List.length_drop]
    omega

theorem row_step {w : World} {b k : Nat} {F D : Nat → Int} (B : Row w b 16 (fun j => .int .u8 (if j < k then F j else D j))) (hk : k < 16) (u : Int) (hu : u = F k) :
    Row (w.setCell ⟨b, k, none⟩ (.int .u8 u)) b 16 (fun j => .int .u8 (if j < k + 1 then F j else D j)) :=
  (B.set k hk _).congr fun j _ => by
    by_cases e : j = k
    · subst e
      rw [if_pos rfl, if_pos (by omega), hu]
    · rw [if_neg e]
      by_cases e2 : j < k
      · rw [if_pos e2, if_pos (by omega)]
      · rw [if_neg e2, if_neg (by omega)]
theorem row_skip {w : World} {b k : Nat} {F D : Nat → Int} (B : Row w b 16 (fun j => .int .u8 (if j < k then F j else D j))) (hF : F k = D k) :
    Row w b 16 (fun j => .int .u8 (if j < k + 1 then F j else D j)) :=
  B.congr fun j _ => by
    by_cases e : j = k
    · subst e
      rw [if_neg (by omega), if_pos (by omega), hF]
    · by_cases e2 : j < k
      · rw [if_pos e2, if_pos (by omega)]
      · rw [if_neg e2, if_neg (by omega)]

set_option maxHeartbeats 4000000 in
theorem rFill_ok (d x : ByteArray) (v t s : Int) (w : World) (h : secE d v t s = 0) (hx : x.size = 16) :
    Calls Try.prog 25 #[pageV d v t, .int .i64 s, .string x] w (RetG (.tuple #[pageV (mixP d x (bits .andNot .i64 s v)) (bits .or .i64 v s) t, .int .i64 0]) w) := by
  obtain ⟨hr, hs⟩ := secE_zero h
  have HS := Lib.hid hs
  have HV := Lib.hid (rightB_parts hr).2.1
  have hv := hs
  simp only [setB, decide_eq_true_eq] at hv
  obtain ⟨v0, v3⟩ := hv
  have hd := (rightB_parts hr).1
  have hcv := fun W : World => Lib.run_convert_string_bytes (P := Try.prog) W 9 45 5 d Try.underlying9 Try.underlying45 Try.underlying5
  clear h hs
  go_enter Try.func25, Try.ntmps25
  go_wp2_with (go_at_call 17; (with_reducible refine (rCheck_any _ _ _ _).mono ?_); rintro e w1 ⟨rfl, rfl⟩)
  have hW := Lib.bytesWorld_at_old (((w.alloc (boxP d v t)).alloc (boxP { data := #[] } 0 0)).alloc (boxP d v t)) 5 d
  have hZ := Lib.bytesWorld_size (((w.alloc (boxP d v t)).alloc (boxP { data := #[] } 0 0)).alloc (boxP d v t)) 5 d
  have hC := Lib.bytesWorld_cell (((w.alloc (boxP d v t)).alloc (boxP { data := #[] } 0 0)).alloc (boxP d v t)) 5 d
  have hF : ∀ j, j < 16 → (Lib.bytesWorld (((w.alloc (boxP d v t)).alloc (boxP { data := #[] } 0 0)).alloc (boxP d v t)) 5 d).frozen? ⟨w.heap.size + 1 + 1 + 1, j, none⟩ = false := fun j hj => by
    have := bytesWorld_free (((w.alloc (boxP d v t)).alloc (boxP { data := #[] } 0 0)).alloc (boxP d v t)) 5 d j (by omega)
    simpa using this
  have P1 := own_since (((Own.new w 27 #[.string d, .int .i64 v, .int .i64 t]).alloc (boxP { data := #[] } 0 0)).alloc (boxP d v t)) hW
  have R1 := own_since ((Own.new (w.alloc (boxP d v t)) 27 #[.string { data := #[] }, .int .i64 0, .int .i64 0]).alloc (boxP d v t)) hW
  have B1 : Row (Lib.bytesWorld (((w.alloc (boxP d v t)).alloc (boxP { data := #[] } 0 0)).alloc (boxP d v t)) 5 d) (w.heap.size + 1 + 1 + 1) 16 (fun j => .int .u8 (byteAt d j)) := fun j hj => ⟨by
    have := hC j (by omega)
    simpa [byteAt] using this, hF j hj⟩
  have G1 : Grew w (Lib.bytesWorld (((w.alloc (boxP d v t)).alloc (boxP { data := #[] } 0 0)).alloc (boxP d v t)) 5 d) := by
    refine (((Grew.refl w).alloc (boxP d v t)).alloc (boxP { data := #[] } 0 0) |>.alloc (boxP d v t)).trans ⟨rfl, rfl, rfl, by rw [hZ]; omega, fun k hk => hW k hk⟩
  clear hC hF hZ hW hcv
  generalize Lib.bytesWorld _ _ _ = w0 at *
  simp only [World.size_alloc] at R1
  go_loopw [9] (fun i wr => ∃ k : Nat, k ≤ 16 ∧ i = .int .i64 k ∧ Own wr w.heap.size 27 #[.string d, .int .i64 v, .int .i64 t] ∧ Own wr (w.heap.size + 1) 27 #[.string { data := #[] }, .int .i64 0, .int .i64 0] ∧
    Row wr (w.heap.size + 1 + 1 + 1) 16 (fun j => .int .u8 (if j < k then fillByte d x s v j else byteAt d j)) ∧ Grew w wr) (fun i _ => 16 - (intOf i).toNat)
  case atStart => exact ⟨0, by omega, rfl, P1, R1, B1.congr (by simp), G1⟩
  case round =>
    clear P1 R1 B1 G1 w0
    obtain ⟨k, hk, rfl, P, R, B, G⟩ := hrel
    obtain ⟨p0, p1, p2, p3, p4, p5⟩ := P.three
    obtain ⟨r0, r1, r2, r3, r4, r5⟩ := R.three
    by_cases hlt : k < 16
    · obtain ⟨b0, b1⟩ := B k hlt
      have hkx : k < x.size := by omega
      by_cases h8 : k < 8
      · have hk8 : (k : Int) / 8 = 0 := by omega
        by_cases a : (bits .and .i64 s 1 != 0) = true
        · by_cases c : (bits .and .i64 v 1 == 0) = true
          · have hu : (x[k].toNat : Int) = fillByte d x s v k := by
              rw [byteAt_get x k hkx]
              simp [fillByte, halfB, h8, a, c]
            have HU := Lib.hid hu
            clear hu
            go_wp2_with fail
            go_roundw
            case rel => exact ⟨k + 1, by omega, by go_num, P.far (p := ⟨w.heap.size + 1 + 1 + 1, k, none⟩) (by simp; omega) _, R.far (p := ⟨w.heap.size + 1 + 1 + 1, k, none⟩) (by simp) _, row_step B hlt _ HU.out, G.set (p := ⟨w.heap.size + 1 + 1 + 1, k, none⟩) (by simp; omega) _⟩
            case measure => simp [intOf]; omega
          · have n : (bits .and .i64 v 1 == 0) = false := by simpa using c
            have hu : fillByte d x s v k = byteAt d k := by simp [fillByte, halfB, h8, n]
            have HU := Lib.hid hu
            clear hu c
            go_wp2_with fail
            go_roundw
            case rel => exact ⟨k + 1, by omega, by go_num, P, R, row_skip B HU.out, G⟩
            case measure => simp [intOf]; omega
        · have n : (bits .and .i64 s 1 != 0) = false := by simpa using a
          have hu : fillByte d x s v k = byteAt d k := by simp [fillByte, halfB, h8, n]
          have HU := Lib.hid hu
          clear hu a
          go_wp2_with fail
          go_roundw
          case rel => exact ⟨k + 1, by omega, by go_num, P, R, row_skip B HU.out, G⟩
          case measure => simp [intOf]; omega
      · have hk8 : (k : Int) / 8 = 1 := by omega
        by_cases a : (bits .and .i64 s 2 != 0) = true
        · by_cases c : (bits .and .i64 v 2 == 0) = true
          · have hu : (x[k].toNat : Int) = fillByte d x s v k := by
              rw [byteAt_get x k hkx]
              simp [fillByte, halfB, h8, a, c]
            have HU := Lib.hid hu
            clear hu
            go_wp2_with fail
            go_roundw
            case rel => exact ⟨k + 1, by omega, by go_num, P.far (p := ⟨w.heap.size + 1 + 1 + 1, k, none⟩) (by simp; omega) _, R.far (p := ⟨w.heap.size + 1 + 1 + 1, k, none⟩) (by simp) _, row_step B hlt _ HU.out, G.set (p := ⟨w.heap.size + 1 + 1 + 1, k, none⟩) (by simp; omega) _⟩
            case measure => simp [intOf]; omega
          · have n : (bits .and .i64 v 2 == 0) = false := by simpa using c
            have hu : fillByte d x s v k = byteAt d k := by simp [fillByte, halfB, h8, n]
            have HU := Lib.hid hu
            clear hu c
            go_wp2_with fail
            go_roundw
            case rel => exact ⟨k + 1, by omega, by go_num, P, R, row_skip B HU.out, G⟩
            case measure => simp [intOf]; omega
        · have n : (bits .and .i64 s 2 != 0) = false := by simpa using a
          have hu : fillByte d x s v k = byteAt d k := by simp [fillByte, halfB, h8, n]
          have HU := Lib.hid hu
          clear hu a
          go_wp2_with fail
          go_roundw
          case rel => exact ⟨k + 1, by omega, by go_num, P, R, row_skip B HU.out, G⟩
          case measure => simp [intOf]; omega
    · have hk16 : k = 16 := by omega
      subst hk16
      have hcb := run_convert_bytes_arg (P := Try.prog) wr 45 5 Try.underlying45 Try.underlying5 (w.heap.size + 1 + 1 + 1) 0 16
      have hb := fun c => hcb c ((List.range 16).map (fillByte d x s v)) (by simp) (fun i hi => by
        rw [Nat.zero_add, (B i hi).1]
        show some (Value.int .u8 (if i < 16 then fillByte d x s v i else byteAt d i)) = _
        rw [if_pos hi]
        simp [List.getD, List.getElem?_range hi]) _ Try.underlying9
      rw [fill_bytes d x s v HS.out HV.out hd hx] at hb
      clear hcb
      go_wp2
      refine bodyPost_ret (v := .tuple #[pageV (mixP d x (bits .andNot .i64 s v)) (bits .or .i64 v s) t, .int .i64 0]) (by simp [results, Try.results25, go_sem, r0, r1, r2]) rfl ⟨rfl, ?_⟩
      exact ((G.set (by simp) _).set (by simp) _).set (by simp) _

set_option maxHeartbeats 1000000 in
theorem rFill_all (d x : ByteArray) (v t s : Int) (w : World) :
    Calls Try.prog 25 #[pageV d v t, .int .i64 s, .string x] w (RetG (.tuple #[pickP (fillB d x v t s) (mixP d x (bits .andNot .i64 s v)) (bits .or .i64 v s) t, .int .i64 (fillE d x v t s)]) w) := by
  by_cases hr : rightB d v t = true
  · by_cases hs : setB s = true
    · have h : secE d v t s = 0 := by simp [secE, hr, hs]
      by_cases hx : x.size = 16
      · exact (rFill_ok d x v t s w h hx).mono (retG_to (by rw [pick_yes (by simp [fillB, h, hx]), show fillE d x v t s = 0 by simp [fillE, h, hx]]))
      · refine Calls.mono (R := RetG (.tuple #[noPage, .int .i64 2]) w) ?_ (retG_to (by rw [pick_no (by simp [fillB, hx]), show fillE d x v t s = 2 by simp [fillE, h, hx]]))
        have hv := hs
        simp only [setB, decide_eq_true_eq] at hv
        obtain ⟨v0, v3⟩ := hv
        have h1 : ((x.size : Int) != 16) = true := by rw [bne_iff_ne]; omega
        clear hx hs h
        go_enter Try.func25, Try.ntmps25
        go_wp2_with (go_at_call 17; (with_reducible refine (rCheck_any _ _ _ _).mono ?_); rintro e w1 ⟨rfl, rfl⟩)
        refine bodyPost_ret (v := .tuple #[noPage, .int .i64 2]) (by simp [results, Try.results25, go_sem]) rfl ⟨rfl, ?_⟩
        exact ((Grew.refl _).alloc _).alloc _ |>.alloc _
    · have hs' : setB s = false := by simpa using hs
      have hv := hs'
      simp only [setB, decide_eq_false_iff_not] at hv
      have h : secE d v t s = 2 := by simp [secE, hr, hs]
      refine Calls.mono (R := RetG (.tuple #[noPage, .int .i64 2]) w) ?_ (retG_to (by rw [pick_no (by simp [fillB, h]), show fillE d x v t s = 2 by simp [fillE, h]]))
      clear hs h
      by_cases h0 : s < 0
      all_goals
        go_enter Try.func25, Try.ntmps25
        go_wp2_with (go_at_call 17; (with_reducible refine (rCheck_any _ _ _ _).mono ?_); rintro e w1 ⟨rfl, rfl⟩)
        all_goals first | (exfalso; omega) | (refine bodyPost_ret (v := .tuple #[noPage, .int .i64 2]) (by simp [results, Try.results25, go_sem]) rfl ⟨rfl, ?_⟩; exact ((Grew.refl _).alloc _).alloc _ |>.alloc _)
  · have hr' : rightB d v t = false := by simpa using hr
    have h : secE d v t s = 1 := by simp [secE, hr]
    refine Calls.mono (R := RetG (.tuple #[noPage, .int .i64 1]) w) ?_ (retG_to (by rw [pick_no (by simp [fillB, h]), show fillE d x v t s = 1 by simp [fillE, h]]))
    clear hr h
    go_enter Try.func25, Try.ntmps25
    go_wp2_with (go_at_call 17; (with_reducible refine (rCheck_any _ _ _ _).mono ?_); rintro e w1 ⟨rfl, rfl⟩)
    refine bodyPost_ret (v := .tuple #[noPage, .int .i64 1]) (by simp [results, Try.results25, go_sem]) rfl ⟨rfl, ?_⟩
    exact ((Grew.refl _).alloc _).alloc _ |>.alloc _
end Go.Proofs.Ythkhcbkbhnnegaa
