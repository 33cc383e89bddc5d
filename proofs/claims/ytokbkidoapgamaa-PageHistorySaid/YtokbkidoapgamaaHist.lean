/- PageHistory: the bytes of a page that is filled and written, and of the device with the writes over it. -/
import Derived.Test.YtokbkidoapgamaaExch
namespace Go.Proofs.Ytokbkidoapgamaa
open Go.RowKit Go.Mine

/-- The i-th byte. -/
def at8 (a : ByteArray) (i : Nat) : UInt8 := a.data.toList.getD i 0
theorem ext16 {a b : ByteArray} (ha : a.size = 16) (hb : b.size = 16) (h : ∀ i, i < 16 → at8 a i = at8 b i) : a = b := by
  apply ba_ext
  have la := (ba_size a).trans ha
  have lb := (ba_size b).trans hb
  apply List.ext_getElem (by omega)
  intro i h1 h2
  have := h i (by omega)
  unfold at8 at this
  rwa [List.getD_eq_getElem?_getD, List.getD_eq_getElem?_getD, List.getElem?_eq_getElem h1, List.getElem?_eq_getElem h2] at this
/-- Is the sector of byte i in the set? -/
def hasB (v : Int) (i : Nat) : Bool := if i < 8 then decide (v = 1 ∨ v = 3) else decide (v = 2 ∨ v = 3)
def in4 (v : Int) : Prop := v = 0 ∨ v = 1 ∨ v = 2 ∨ v = 3
theorem has_andNot {a b : Int} (ha : in4 a) (hb : in4 b) (i : Nat) : hasB (bits .andNot .i64 a b) i = (hasB a i && !hasB b i) := by
  unfold hasB
  by_cases h : i < 8 <;> simp only [h, if_true, if_false] <;> rcases ha with rfl | rfl | rfl | rfl <;> rcases hb with rfl | rfl | rfl | rfl <;> decide +kernel
theorem has_or {a b : Int} (ha : in4 a) (hb : in4 b) (i : Nat) : hasB (bits .or .i64 a b) i = (hasB a i || hasB b i) := by
  unfold hasB
  by_cases h : i < 8 <;> simp only [h, if_true, if_false] <;> rcases ha with rfl | rfl | rfl | rfl <;> rcases hb with rfl | rfl | rfl | rfl <;> decide +kernel
theorem in4_andNot {a b : Int} (ha : in4 a) (hb : in4 b) : in4 (bits .andNot .i64 a b) := by
  unfold in4
  rcases ha with rfl | rfl | rfl | rfl <;> rcases hb with rfl | rfl | rfl | rfl <;> decide +kernel
theorem in4_or {a b : Int} (ha : in4 a) (hb : in4 b) : in4 (bits .or .i64 a b) := by
  unfold in4
  rcases ha with rfl | rfl | rfl | rfl <;> rcases hb with rfl | rfl | rfl | rfl <;> decide +kernel
theorem in4_secs (s n m : Int) : in4 (secs s n m) := by
  unfold in4 secs
  split <;> split <;> omega
theorem has_secs (s n m : Int) (i : Nat) : hasB (secs s n m) i = if i < 8 then secB s n m 0 8 else secB s n m 8 16 := by
  unfold hasB secs
  by_cases h : i < 8 <;> simp only [h, if_true, if_false] <;> cases secB s n m 0 8 <;> cases secB s n m 8 16 <;> decide
theorem touched_in (o n i : Nat) (hi : i < 16) (h1 : o ≤ i) (h2 : i < o + n) : hasB (secs o n 1) i = true := by
  rw [has_secs]
  split
  · simp only [secB, decide_eq_true_eq]; split <;> split <;> omega
  · simp only [secB, decide_eq_true_eq]; split <;> split <;> omega
theorem covered_in (o n i : Nat) (hi : i < 16) (h : hasB (secs o n 8) i = true) : o ≤ i ∧ i < o + n := by
  rw [has_secs] at h
  split at h
  · simp only [secB, decide_eq_true_eq] at h
    split at h <;> split at h <;> omega
  · simp only [secB, decide_eq_true_eq] at h
    split at h <;> split at h <;> omega

theorem mix_size16 (d x : ByteArray) (s : Int) (hd : d.size = 16) (hx : x.size = 16) : (mixP d x s).size = 16 := by
  unfold mixP
  rw [ByteArray.size_append]
  split <;> split <;> simp [ByteArray.size_extract, hd, hx]
theorem at_mix (d x : ByteArray) (s : Int) (hd : d.size = 16) (hx : x.size = 16) (i : Nat) (hi : i < 16) : at8 (mixP d x s) i = if hasB s i = true then at8 x i else at8 d i := by
  have ld := (ba_size d).trans hd
  have lx := (ba_size x).trans hx
  unfold at8 mixP
  rw [ba_app, ba_ext_list, ba_ext_list, List.getD_eq_getElem?_getD, List.getD_eq_getElem?_getD, List.getD_eq_getElem?_getD]
  unfold hasB
  by_cases h8 : i < 8
  · rw [List.getElem?_append_left (by split <;> simp [ld, lx] <;> omega), List.getElem?_take_of_lt (by omega), List.drop_zero, if_pos h8]
    by_cases c : s = 1 ∨ s = 3
    · simp only [c, if_true, decide_true]
    · simp only [c, if_false, decide_false, Bool.false_eq_true]
  · have l8 : (List.take (8 - 0) (List.drop 0 (if s = 1 ∨ s = 3 then x else d).data.toList)).length = 8 := by split <;> simp [ld, lx]
    rw [List.getElem?_append_right (by omega), l8, List.getElem?_take_of_lt (by omega), List.getElem?_drop, if_neg h8, show 8 + (i - 8) = i by omega]
    by_cases c : s = 2 ∨ s = 3
    · simp only [c, if_true, decide_true]
    · simp only [c, if_false, decide_false, Bool.false_eq_true]

/-- The bytes behind a write. -/
def overH (k s : ByteArray) (o : Nat) : ByteArray := k.extract 0 o ++ s ++ k.extract (o + s.size) 16
theorem overH_size (k s : ByteArray) (o : Nat) (hk : k.size = 16) (h : o + s.size ≤ 16) : (overH k s o).size = 16 := by
  simp [overH, ByteArray.size_append, ByteArray.size_extract, hk]
  omega
theorem at_over (k s : ByteArray) (o i : Nat) (hk : k.size = 16) (hs : o + s.size ≤ 16) (hi : i < 16) : at8 (overH k s o) i = if o ≤ i ∧ i < o + s.size then at8 s (i - o) else at8 k i := by
  have h : k.data.toList.length = 16 := (ba_size k).trans hk
  have h2 : s.data.toList.length = s.size := ba_size s
  unfold at8 overH
  rw [ba_app, ba_app, ba_ext_list, ba_ext_list, List.append_assoc, List.drop_zero, Nat.sub_zero, List.getD_eq_getElem?_getD, List.getD_eq_getElem?_getD, List.getD_eq_getElem?_getD]
  by_cases h1 : i < o
  · rw [List.getElem?_append_left (by simp; omega), List.getElem?_take_of_lt h1, if_neg (by omega)]
  · by_cases h3 : i < o + s.size
    · rw [List.getElem?_append_right (by simp; omega), List.getElem?_append_left (by simp; omega), if_pos (by omega)]
      congr 2
      simp
      omega
    · rw [List.getElem?_append_right (by simp; omega), List.getElem?_append_right (by simp; omega), List.getElem?_take_of_lt (by simp; omega), List.getElem?_drop, if_neg (by omega)]
      congr 2
      simp
      omega

/-- What the page comes to when all of it is filled. -/
def full (d k : ByteArray) (v : Int) : ByteArray := mixP d k (bits .andNot .i64 3 v)
theorem full_size (d k : ByteArray) (v : Int) (hd : d.size = 16) (hk : k.size = 16) : (full d k v).size = 16 := mix_size16 d k _ hd hk
theorem has3 (i : Nat) : hasB 3 i = true := by unfold hasB; split <;> decide
theorem at_full (d k : ByteArray) (v : Int) (hv : in4 v) (hd : d.size = 16) (hk : k.size = 16) (i : Nat) (hi : i < 16) : at8 (full d k v) i = if hasB v i = true then at8 d i else at8 k i := by
  unfold full
  rw [at_mix d k _ hd hk i hi, has_andNot (by unfold in4; omega) hv, has3]
  cases hasB v i <;> simp
theorem full_fill (d k : ByteArray) (v s : Int) (hv : in4 v) (hs : in4 s) (hd : d.size = 16) (hk : k.size = 16) : full (mixP d k (bits .andNot .i64 s v)) k (bits .or .i64 v s) = full d k v := by
  have hm := mix_size16 d k (bits .andNot .i64 s v) hd hk
  apply ext16 (full_size _ _ _ hm hk) (full_size _ _ _ hd hk)
  intro i hi
  rw [at_full _ _ _ (in4_or hv hs) hm hk i hi, at_full _ _ _ hv hd hk i hi, at_mix d k _ hd hk i hi, has_or hv hs, has_andNot hs hv]
  cases hasB v i <;> cases hasB s i <;> simp
theorem full_write (d k s : ByteArray) (v : Int) (o : Nat) (hv : in4 v) (hd : d.size = 16) (hk : k.size = 16) (ho : o + s.size ≤ 16) :
    full (overH (mixP d k (bits .andNot .i64 (needN v o s.size true) v)) s o) k (bits .or .i64 (bits .or .i64 v (needN v o s.size true)) (secs o s.size 1)) = overH (full d k v) s o := by
  have hT := in4_secs o s.size 1
  have hC := in4_secs o s.size 8
  have hN : in4 (needN v o s.size true) := in4_andNot (in4_andNot hT hC) hv
  have hm := mix_size16 d k (bits .andNot .i64 (needN v o s.size true) v) hd hk
  have hf := full_size d k v hd hk
  have hov := overH_size _ s o hm ho
  apply ext16 (full_size _ _ _ hov hk) (overH_size _ _ _ hf ho)
  intro i hi
  rw [at_full _ _ _ (in4_or (in4_or hv hN) hT) hov hk i hi, at_over _ _ _ _ hm ho hi, at_over _ _ _ _ hf ho hi, at_mix d k _ hd hk i hi, at_full _ _ _ hv hd hk i hi, has_or (in4_or hv hN) hT, has_or hv hN, has_andNot hN hv]
  have en : hasB (needN v o s.size true) i = ((hasB (secs o s.size 1) i && !hasB (secs o s.size 8) i) && !hasB v i) := by
    show hasB (bits .andNot .i64 (bits .andNot .i64 (secs o s.size 1) (secs o s.size 8)) v) i = _
    rw [has_andNot (in4_andNot hT hC) hv, has_andNot hT hC]
  rw [en]
  by_cases hin : o ≤ i ∧ i < o + s.size
  · simp only [if_pos hin, touched_in o s.size i hi hin.1 hin.2, Bool.or_true, if_true]
  · have hc : hasB (secs o s.size 8) i = false := by
      cases h : hasB (secs o s.size 8) i with
      | false => rfl
      | true => exact absurd (covered_in o s.size i hi h) hin
    simp only [if_neg hin, hc]
    cases hasB v i <;> cases hasB (secs o s.size 1) i <;> simp
end Go.Proofs.Ytokbkidoapgamaa
