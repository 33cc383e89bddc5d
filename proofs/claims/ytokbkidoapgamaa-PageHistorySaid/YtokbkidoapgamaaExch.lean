/- PageExchange: what the calls of the law come to. -/
import Derived.Test.YtokbkidoapgamaaAwake2
import Derived.Test.YtokbkidoapgamaaMadePage
namespace Go.Proofs.Ytokbkidoapgamaa
open Go.RowKit Go.Mine

theorem ba_ext {a b : ByteArray} (h : a.data.toList = b.data.toList) : a = b := by
  cases a; cases b
  simp at h
  rw [h]
theorem ba_app (a b : ByteArray) : (a ++ b).data.toList = a.data.toList ++ b.data.toList := by rw [ByteArray.data_append, Array.toList_append]
theorem ba_ext_list (a : ByteArray) (i j : Nat) : (a.extract i j).data.toList = (a.data.toList.drop i).take (j - i) := by
  rw [ByteArray.data_extract, Array.toList_extract, List.extract_eq_take_drop]
theorem ba_size (a : ByteArray) : a.data.toList.length = a.size := Array.length_toList

theorem w0_data (d a : ByteArray) (ha : a.size = 8) : d.extract 0 0 ++ a ++ d.extract (0 + a.size) 16 = a ++ d.extract 8 16 := by
  apply ba_ext
  simp only [ba_app, ba_ext_list, ha]
  simp
theorem w8_data (d b : ByteArray) (hb : b.size = 8) (hd : d.size = 16) : d.extract 0 8 ++ b ++ d.extract (8 + b.size) 16 = d.extract 0 8 ++ b := by
  apply ba_ext
  have h : d.data.toList.length = 16 := (ba_size d).trans hd
  simp only [ba_app, ba_ext_list, hb]
  simp
theorem front (a x : ByteArray) (ha : a.size = 8) : (a ++ x).extract 0 8 = a := by
  apply ba_ext
  have h : a.data.toList.length = 8 := (ba_size a).trans ha
  simp only [ba_app, ba_ext_list]
  simp [List.take_append, h]
theorem back (a x : ByteArray) (ha : a.size = 8) (hx : x.size = 8) : (a ++ x).extract 8 16 = x := by
  apply ba_ext
  have h : a.data.toList.length = 8 := (ba_size a).trans ha
  have h2 : x.data.toList.length = 8 := (ba_size x).trans hx
  simp only [ba_app, ba_ext_list]
  rw [List.drop_append, List.drop_of_length_le (by omega), List.nil_append, List.take_of_length_le (by simp; omega), h]
  simp
theorem ext_size (d : ByteArray) (hd : d.size = 16) : (d.extract 0 8).size = 8 ∧ (d.extract 8 16).size = 8 := by
  simp [ByteArray.size_extract, hd]

/-! The calls of the law. -/
theorem check_g (d : ByteArray) (v t : Int) (w : World) : Calls Try.prog 14 #[pageV d v t] w (RetG (.bool (rightB d v t)) w) :=
  (check_any d v t w).mono fun _ _ ⟨h, k⟩ => ⟨h, k ▸ (Grew.refl _).alloc _⟩
theorem right_cases {d : ByteArray} {v t : Int} (h : rightB d v t = true) : d.size = 16 ∧ (v = 0 ∧ t = 0 ∨ v = 1 ∧ t = 0 ∨ v = 1 ∧ t = 1 ∨ v = 2 ∧ t = 0 ∨ v = 2 ∧ t = 2 ∨ v = 3 ∧ t = 0 ∨ v = 3 ∧ t = 1 ∨ v = 3 ∧ t = 2 ∨ v = 3 ∧ t = 3) := by
  obtain ⟨h1, h2, h3, h4⟩ := rightB_parts h
  refine ⟨h1, ?_⟩
  rcases setB_cases h2 with rfl | rfl | rfl | rfl <;> rcases setB_cases h3 with rfl | rfl | rfl | rfl <;> first | omega | (exfalso; revert h4; decide +kernel)
theorem right_mk {d : ByteArray} {v t : Int} (h : d.size = 16) (hv : setB v = true) (ht : setB t = true) (hb : bits .andNot .i64 t v = 0) : rightB d v t = true := by simp [rightB, h, hv, ht, hb]
theorem or1_right {d d' : ByteArray} {v t : Int} (h : rightB d v t = true) (hd : d'.size = 16) (k : Int) (hk : k = 1 ∨ k = 2) : rightB d' (bits .or .i64 v k) (bits .or .i64 t k) = true := by
  obtain ⟨_, hc⟩ := right_cases h
  rcases hk with rfl | rfl <;> rcases hc with ⟨rfl, rfl⟩ | ⟨rfl, rfl⟩ | ⟨rfl, rfl⟩ | ⟨rfl, rfl⟩ | ⟨rfl, rfl⟩ | ⟨rfl, rfl⟩ | ⟨rfl, rfl⟩ | ⟨rfl, rfl⟩ | ⟨rfl, rfl⟩ <;>
    exact right_mk hd (by decide +kernel) (by decide +kernel) (by decide +kernel)
theorem orv_right {d d' : ByteArray} {v t : Int} (h : rightB d v t = true) (hd : d'.size = 16) : rightB d' (bits .or .i64 v 2) t = true := by
  obtain ⟨_, hc⟩ := right_cases h
  rcases hc with ⟨rfl, rfl⟩ | ⟨rfl, rfl⟩ | ⟨rfl, rfl⟩ | ⟨rfl, rfl⟩ | ⟨rfl, rfl⟩ | ⟨rfl, rfl⟩ | ⟨rfl, rfl⟩ | ⟨rfl, rfl⟩ | ⟨rfl, rfl⟩ <;>
    exact right_mk hd (by decide +kernel) (by decide +kernel) (by decide +kernel)
theorem acc_half {d : ByteArray} {v t : Int} (h : rightB d v t = true) (s : Nat) (hs : s = 0 ∨ s = 8) (x : ByteArray) (hx : x.size = 8) : accE d v t s x.size true = 0 ∧ secs s x.size 1 = if s = 0 then 1 else 2 := by
  rw [hx]
  obtain ⟨_, hc⟩ := right_cases h
  unfold accE
  rw [if_pos h]
  rcases hs with rfl | rfl <;> rcases hc with ⟨rfl, rfl⟩ | ⟨rfl, rfl⟩ | ⟨rfl, rfl⟩ | ⟨rfl, rfl⟩ | ⟨rfl, rfl⟩ | ⟨rfl, rfl⟩ | ⟨rfl, rfl⟩ | ⟨rfl, rfl⟩ | ⟨rfl, rfl⟩ <;> decide +kernel

theorem ex_w0 (d a : ByteArray) (v t : Int) (w : World) (h : rightB d v t = true) (ha : a.size = 8) :
    Calls Try.prog 10 #[pageV d v t, .int .i64 0, .string a] w (RetG (.tuple #[pageV (a ++ d.extract 8 16) (bits .or .i64 v 1) (bits .or .i64 t 1), .int .i64 0]) w) := by
  obtain ⟨h1, h2⟩ := acc_half h 0 (.inl rfl) a ha
  have k := write_ok d a v t 0 w h1
  rw [h2, w0_data d a ha] at k
  exact k
theorem ex_w8 (d b : ByteArray) (v t : Int) (w : World) (h : rightB d v t = true) (hb : b.size = 8) :
    Calls Try.prog 10 #[pageV d v t, .int .i64 8, .string b] w (RetG (.tuple #[pageV (d.extract 0 8 ++ b) (bits .or .i64 v 2) (bits .or .i64 t 2), .int .i64 0]) w) := by
  obtain ⟨h1, h2⟩ := acc_half h 8 (.inr rfl) b hb
  have k := write_ok d b v t 8 w h1
  rw [h2, w8_data d b hb (rightB_parts h).1] at k
  exact k
/-- The second half behind a fill of the second sector. -/
def half2 (d k : ByteArray) (v : Int) : ByteArray := if v = 2 ∨ v = 3 then d.extract 8 16 else k.extract 8 16
theorem mix2 (d k : ByteArray) (v : Int) (hv : v = 0 ∨ v = 1 ∨ v = 2 ∨ v = 3) : mixP d k (bits .andNot .i64 2 v) = d.extract 0 8 ++ half2 d k v := by
  rcases hv with rfl | rfl | rfl | rfl
  · rw [show bits .andNot .i64 2 0 = 2 from by decide +kernel]; simp [mixP, half2]
  · rw [show bits .andNot .i64 2 1 = 2 from by decide +kernel]; simp [mixP, half2]
  · rw [show bits .andNot .i64 2 2 = 0 from by decide +kernel]; simp [mixP, half2]
  · rw [show bits .andNot .i64 2 3 = 0 from by decide +kernel]; simp [mixP, half2]
theorem ex_f2 (d k : ByteArray) (v t : Int) (w : World) (h : rightB d v t = true) (hk : k.size = 16) :
    Calls Try.prog 8 #[pageV d v t, .int .i64 2, .string k] w (RetG (.tuple #[pageV (d.extract 0 8 ++ half2 d k v) (bits .or .i64 v 2) t, .int .i64 0]) w) := by
  have c := fill_ok d k v t 2 w (by simp [secE, h, setB]) hk
  rw [mix2 d k v (setB_cases (rightB_parts h).2.1)] at c
  exact c

theorem app_size (a b : ByteArray) (ha : a.size = 8) (hb : b.size = 8) : (a ++ b).size = 16 := by rw [ByteArray.size_append, ha, hb]
theorem half2_size (d k : ByteArray) (v : Int) (hd : d.size = 16) (hk : k.size = 16) : (half2 d k v).size = 8 := by
  unfold half2
  split
  · exact (ext_size d hd).2
  · exact (ext_size k hk).2
theorem or12 (v : Int) (h : v = 0 ∨ v = 1 ∨ v = 2 ∨ v = 3) : bits .or .i64 (bits .or .i64 v 1) 2 = bits .or .i64 v 3 ∧ bits .or .i64 (bits .or .i64 v 2) 1 = bits .or .i64 v 3 := by
  rcases h with rfl | rfl | rfl | rfl <;> decide +kernel
/-- Behind a write of the first sector: write the second one. -/
theorem ex_x2 (d a b : ByteArray) (v t : Int) (w : World) (h : rightB d v t = true) (ha : a.size = 8) (hb : b.size = 8) :
    Calls Try.prog 10 #[pageV (a ++ d.extract 8 16) (bits .or .i64 v 1) (bits .or .i64 t 1), .int .i64 8, .string b] w (RetG (.tuple #[pageV (a ++ b) (bits .or .i64 v 3) (bits .or .i64 t 3), .int .i64 0]) w) := by
  obtain ⟨hd, hv, ht, _⟩ := rightB_parts h
  have k := ex_w8 (a ++ d.extract 8 16) b _ _ w (or1_right h (app_size a _ ha (ext_size d hd).2) 1 (.inl rfl)) hb
  rw [front a _ ha, (or12 v (setB_cases hv)).1, (or12 t (setB_cases ht)).1] at k
  exact k
/-- Behind a write of the second sector: write the first one. -/
theorem ex_y2 (d a b : ByteArray) (v t : Int) (w : World) (h : rightB d v t = true) (ha : a.size = 8) (hb : b.size = 8) :
    Calls Try.prog 10 #[pageV (d.extract 0 8 ++ b) (bits .or .i64 v 2) (bits .or .i64 t 2), .int .i64 0, .string a] w (RetG (.tuple #[pageV (a ++ b) (bits .or .i64 v 3) (bits .or .i64 t 3), .int .i64 0]) w) := by
  obtain ⟨hd, hv, ht, _⟩ := rightB_parts h
  have k := ex_w0 (d.extract 0 8 ++ b) a _ _ w (or1_right h (app_size _ b (ext_size d hd).1 hb) 2 (.inr rfl)) ha
  rw [back _ b (ext_size d hd).1 hb, (or12 v (setB_cases hv)).2, (or12 t (setB_cases ht)).2] at k
  exact k
/-- Behind a write of the first sector: fill the second one. -/
theorem ex_u2 (d a k : ByteArray) (v t : Int) (w : World) (h : rightB d v t = true) (ha : a.size = 8) (hk : k.size = 16) :
    Calls Try.prog 8 #[pageV (a ++ d.extract 8 16) (bits .or .i64 v 1) (bits .or .i64 t 1), .int .i64 2, .string k] w (RetG (.tuple #[pageV (a ++ half2 d k v) (bits .or .i64 v 3) (bits .or .i64 t 1), .int .i64 0]) w) := by
  obtain ⟨hd, hv, ht, _⟩ := rightB_parts h
  have c := ex_f2 (a ++ d.extract 8 16) k _ _ w (or1_right h (app_size a _ ha (ext_size d hd).2) 1 (.inl rfl)) hk
  have e : half2 (a ++ d.extract 8 16) k (bits .or .i64 v 1) = half2 d k v := by
    unfold half2
    rw [back a _ ha (ext_size d hd).2]
    rcases setB_cases hv with rfl | rfl | rfl | rfl <;> rfl
  rw [front a _ ha, (or12 v (setB_cases hv)).1, e] at c
  exact c
/-- Behind a fill of the second sector: write the first one. -/
theorem ex_v2 (d a k : ByteArray) (v t : Int) (w : World) (h : rightB d v t = true) (ha : a.size = 8) (hk : k.size = 16) :
    Calls Try.prog 10 #[pageV (d.extract 0 8 ++ half2 d k v) (bits .or .i64 v 2) t, .int .i64 0, .string a] w (RetG (.tuple #[pageV (a ++ half2 d k v) (bits .or .i64 v 3) (bits .or .i64 t 1), .int .i64 0]) w) := by
  obtain ⟨hd, hv, ht, _⟩ := rightB_parts h
  have c := ex_w0 (d.extract 0 8 ++ half2 d k v) a _ _ w (orv_right h (app_size _ _ (ext_size d hd).1 (half2_size d k v hd hk))) ha
  rw [back _ _ (ext_size d hd).1 (half2_size d k v hd hk), (or12 v (setB_cases hv)).2] at c
  exact c
end Go.Proofs.Ytokbkidoapgamaa
