/- slices.Insert of one number (layer 8), at a row. -/
import Derived.Test.YteaofieijginhaaLp0
namespace Go.Mine
open Go Go.RowKit
/-- The list with x at place i. -/
def insAt (L : List Int) (i : Nat) (x : Int) : List Int := L.take i ++ x :: L.drop i
theorem insAt_len (L : List Int) {i : Nat} (x : Int) (hi : i ≤ L.length) : (insAt L i x).length = L.length + 1 := by
  unfold insAt; simp; omega
theorem insAt_lo (L : List Int) {i j : Nat} (x : Int) (hj : j < i) (hi : i ≤ L.length) : (insAt L i x).getD j 0 = L.getD j 0 := by
  unfold insAt
  rw [List.getD, List.getD, List.getElem?_append_left (by rw [List.length_take]; omega), List.getElem?_take_of_lt hj]
theorem insAt_at (L : List Int) {i : Nat} (x : Int) (hi : i ≤ L.length) : (insAt L i x).getD i 0 = x := by
  unfold insAt
  have e : (L.take i).length = i := by rw [List.length_take]; omega
  rw [List.getD, List.getElem?_append_right (by omega), e, Nat.sub_self]
  rfl
theorem insAt_hi (L : List Int) {i j : Nat} (x : Int) (hj : i < j) (hi : i ≤ L.length) : (insAt L i x).getD j 0 = L.getD (j - 1) 0 := by
  unfold insAt
  have e : (L.take i).length = i := by rw [List.length_take]; omega
  obtain ⟨k, rfl⟩ : ∃ k, j = i + k + 1 := ⟨j - i - 1, by omega⟩
  rw [List.getD, List.getElem?_append_right (by omega), e, show i + k + 1 - i = k + 1 by omega, List.getElem?_cons_succ, List.getElem?_drop, List.getD]
  congr 2
theorem insAt_end (L : List Int) (x : Int) : insAt L L.length x = L ++ [x] := by unfold insAt; simp
section
variable {w : World} {g i n : Nat} {T : TypeId} {cur : Array Value} {L : List Int} {x : Int}
theorem some_of_own (hb : Own w g T cur) {j : Nat} (hj : j < cur.size) : (w.cell? ⟨g, j, none⟩).isSome = true := by rw [hb.cell j]; simp [hj]
theorem cs_drop (L : List Int) (i : Nat) {j : Nat} (hj : j < ((L.map (Value.int .i64)).drop i).length) : ((L.map (Value.int .i64)).drop i)[j]'hj = .int .i64 (L.getD (i + j) 0) := by
  rw [List.length_drop, List.length_map] at hj
  rw [List.getElem_drop, List.getElem_map]
  simp [List.getD, show i + j < L.length by omega]
/-- What stands in the row when what was behind place i has moved on and x has come. -/
theorem insA (hb : Own w g T cur) (hl : L.length = n) (hi : i ≤ n) (hn : n + 1 ≤ cur.size) (hc : ∀ j, j < i → w.cell? ⟨g, j, none⟩ = some (.int .i64 (L.getD j 0))) :
    (∃ cur', Own ((w.setCells g (i + 1) ((L.map (Value.int .i64)).drop i)).setCells g i [.int .i64 x]) g T cur' ∧ cur'.size = cur.size) ∧
    ∀ j, j < n + 1 → ((w.setCells g (i + 1) ((L.map (Value.int .i64)).drop i)).setCells g i [.int .i64 x]).cell? ⟨g, j, none⟩ = some (.int .i64 ((insAt L i x).getD j 0)) := by
  obtain ⟨c1, h1, s1⟩ := own_cells ((L.map (Value.int .i64)).drop i) (i + 1) w cur hb
  obtain ⟨c2, h2, s2⟩ := own_cells [Value.int .i64 x] i _ c1 h1
  refine ⟨⟨c2, h2, by omega⟩, fun j hj => ?_⟩
  have hd : ((L.map (Value.int .i64)).drop i).length = n - i := by rw [List.length_drop, List.length_map, hl]
  by_cases e : j = i
  · subst e
    have k := World.cell?_setCells_in g [Value.int .i64 x] j (w.setCells g (j + 1) ((L.map (Value.int .i64)).drop j)) (fun m hm => some_of_own h1 (by simp at hm; omega)) 0 (by simp)
    simp only [Nat.add_zero] at k
    rw [insAt_at L x (by omega)]
    exact k
  · rw [World.cell?_setCells_out g [Value.int .i64 x] i _ ⟨g, j, none⟩ (fun _ _ => by show j < i ∨ i + 1 ≤ j; omega)]
    by_cases lt : j < i
    · rw [World.cell?_setCells_out g _ (i + 1) _ ⟨g, j, none⟩ (fun _ _ => .inl (by show j < i + 1; omega)), hc j lt, insAt_lo L x lt (by omega)]
    · obtain ⟨m, rfl⟩ : ∃ m, j = i + 1 + m := ⟨j - i - 1, by omega⟩
      have hm : m < ((L.map (Value.int .i64)).drop i).length := by omega
      rw [World.cell?_setCells_in g _ (i + 1) w (fun q hq => some_of_own hb (by omega)) m hm, cs_drop L i hm, insAt_hi L x (by omega) (by omega), show i + 1 + m - 1 = i + m by omega]
/-- The same where x has come first. -/
theorem insB (hb : Own w g T cur) (hl : L.length = n) (hi : i ≤ n) (hn : n + 1 ≤ cur.size) (hc : ∀ j, j < i → w.cell? ⟨g, j, none⟩ = some (.int .i64 (L.getD j 0))) :
    (∃ cur', Own ((w.setCells g i [.int .i64 x]).drew.setCells g (i + 1) ((L.map (Value.int .i64)).drop i)) g T cur' ∧ cur'.size = cur.size) ∧
    ∀ j, j < n + 1 → ((w.setCells g i [.int .i64 x]).drew.setCells g (i + 1) ((L.map (Value.int .i64)).drop i)).cell? ⟨g, j, none⟩ = some (.int .i64 ((insAt L i x).getD j 0)) := by
  obtain ⟨c1, h1, s1⟩ := own_cells [Value.int .i64 x] i w cur hb
  obtain ⟨c2, h2, s2⟩ := own_cells ((L.map (Value.int .i64)).drop i) (i + 1) _ c1 h1.drew
  refine ⟨⟨c2, h2, by omega⟩, fun j hj => ?_⟩
  have hd : ((L.map (Value.int .i64)).drop i).length = n - i := by rw [List.length_drop, List.length_map, hl]
  by_cases lt : j < i + 1
  · rw [World.cell?_setCells_out g _ (i + 1) _ ⟨g, j, none⟩ (fun _ _ => .inl (by show j < i + 1; omega))]
    show (w.setCells g i [.int .i64 x]).cell? ⟨g, j, none⟩ = _
    by_cases e : j = i
    · subst e
      have k := World.cell?_setCells_in g [Value.int .i64 x] j w (fun m hm => some_of_own hb (by simp at hm; omega)) 0 (by simp)
      rw [Nat.add_zero] at k
      rw [k, insAt_at L x (by omega)]
      rfl
    · rw [World.cell?_setCells_out g [Value.int .i64 x] i _ ⟨g, j, none⟩ (fun _ _ => by show j < i ∨ i + 1 ≤ j; omega), hc j (by omega), insAt_lo L x (by omega) (by omega)]
  · obtain ⟨m, rfl⟩ : ∃ m, j = i + 1 + m := ⟨j - i - 1, by omega⟩
    have hm : m < ((L.map (Value.int .i64)).drop i).length := by omega
    rw [World.cell?_setCells_in g _ (i + 1) _ (fun q hq => some_of_own h1.drew (by omega)) m hm, cs_drop L i hm, insAt_hi L x (by omega) (by omega), show i + 1 + m - 1 = i + m by omega]
end
end Go.Mine
namespace Go.Proofs.Yteaofieijginhaa
open Go.RowKit Go.Mine Go.Shelf

theorem map_at (L : List Int) {j : Nat} {v : Value} (h : (L.map (Value.int .i64))[j]? = some v) : j < L.length ∧ v = .int .i64 (L.getD j 0) := by
  rw [List.getElem?_map] at h
  cases e : L[j]? with
  | none => rw [e] at h; simp at h
  | some y =>
    rw [e] at h
    have hj := (List.getElem?_eq_some_iff.1 e).1
    refine ⟨hj, ?_⟩
    rw [List.getD, e]
    simpa using h.symm
theorem map_one (L : List Int) : ∀ v ∈ L.map (Value.int .i64), v.oneCell' = true := by
  intro v hv
  obtain ⟨x, -, rfl⟩ := List.mem_map.1 hv
  rfl
theorem shape_own {w : World} {g : Nat} {T : TypeId} {cs : Array Value} (h : Own w g T cs) : w.shape? g = some (T, cs.size) := by
  have h' : w.heap[g]? = some (.cells cs T (0, 0)) := h
  simp [World.shape?, h']
theorem zc (n : Nat) : (Builtin.zeroCells (Value.int .i64 0).cells n).size = n := by simp [Builtin.zeroCells, Value.cells]
theorem frozen_own {w : World} {g : Nat} {T : TypeId} {cs : Array Value} (h : Own w g T cs) (j : Nat) : w.frozen? ⟨g, j, none⟩ = false := h.frozen j
def RetIn (L : List Int) (B : Nat) (v : Value) (w : World) (e : Ending) (w' : World) : Prop := ∃ u, e = .returned u ∧ RwI w' B u L ∧ w.grownBy w' v.ownBlock
theorem ins_i {L : List Int} {B : Nat} (v : Value) (i : Nat) (x : Int) (w : World) (G c : Nat) (R : RwI w B v L) (hl : L.length ≤ 100000) (hi : i ≤ L.length) (hG : Own w G 3 #[.int .i64 x]) (hne : v.ownBlock ≠ some G) (hB : B ≤ w.heap.size) :
    Calls Try.prog 54 #[v, .int .i64 i, .slice (some ⟨G, 0, none⟩) 1 c] w (RetIn (insAt L i x) B v w) := by
  have hvs : ∀ j u, ([Value.int .i64 x] : List Value)[j]? = some u → w.cell? ⟨G, 0 + j, none⟩ = some u := fun j u hu => by
    rw [Nat.zero_add, hG.cell j]
    simpa using hu
  have h1v : ∀ u ∈ ([Value.int .i64 x] : List Value), u.oneCell' = true := by intro u hu; simp at hu; subst hu; rfl
  have grow : ∀ (base : Option Addr) (n cp : Nat), n = L.length → n ≤ cp → cp < n + 1 → (base = none → n = 0) → i = n → (∀ a, base = some a → ∀ j u, (L.map (Value.int .i64))[j]? = some u → w.cell? (a.add j) = some u) →
      Calls Try.prog 54 #[.slice base n cp, .int .i64 i, .slice (some ⟨G, 0, none⟩) 1 c] w (RetIn (insAt L i x) B (.slice base n cp) w) := by
    rintro base n cp rfl hnc hroom hnil rfl hcs
    refine (Any2.slices_Insert_int_end_grow layIns base L.length cp G 0 1 c (L.map (Value.int .i64)) [.int .i64 x] w (by omega) hnc hroom (by omega) (by simp) rfl hnil hcs hvs h1v).mono ?_
    rintro e w' ⟨rfl, hw⟩
    have hw' : w' = w.drew.alloc (.cells (((L.map (Value.int .i64)) ++ [Value.int .i64 x]).toArray ++ Builtin.zeroCells (Value.int .i64 0).cells (grownCap w (L.length + 1) cp 3 - (L.length + 1))) 3) := hw
    subst hw'
    clear hw
    have hO := Own.new w.drew 3 (((L.map (Value.int .i64)) ++ [Value.int .i64 x]).toArray ++ Builtin.zeroCells (Value.int .i64 0).cells (grownCap w (L.length + 1) cp 3 - (L.length + 1)))
    have hge := grownCap_ge w (L.length + 1) cp 3
    have hle := grownCap_le_maxLen w (L.length + 1) cp 3 (by unfold maxLen; omega)
    refine ⟨_, rfl, row_cells hO ?_ hle hge hB (insAt_len L x (Nat.le_refl _)) (fun j hj => ?_), grown_alloc (grown_drew (grown_refl _ _)) _⟩
    · rw [Array.size_append, zc]
      simp
      show L.length + 1 + _ = grownCap w (L.length + 1) cp 3
      omega
    · refine (hO.cell j).trans ?_
      rw [insAt_end]
      rw [Array.getElem?_append_left (by simp; omega), List.getElem?_toArray]
      by_cases e : j = L.length
      · subst e
        simp
      · have hj' : j < L.length := by omega
        rw [List.getElem?_append_left (by simpa using hj'), List.getElem?_map, List.getD, List.getElem?_append_left hj', List.getElem?_eq_getElem hj']
        rfl
  rcases R.shape enc1_len with ⟨rfl, rfl⟩ | ⟨g, cap, rfl, -⟩
  · obtain rfl : i = 0 := by simpa using hi
    exact grow none 0 0 rfl (Nat.le_refl _) (by omega) (fun _ => rfl) rfl (fun a h => by cases h)
  · obtain ⟨-, hBg, hnc, hm, cur, hO, hsz⟩ := row_own R
    have hcs : ∀ j u, (L.map (Value.int .i64))[j]? = some u → w.cell? ⟨g, 0 + j, none⟩ = some u := fun j u hu => by
      obtain ⟨hj, rfl⟩ := map_at L hu
      obtain ⟨g', e, -, -, h, -⟩ := R.atI.2 j hj
      injection e with e; injection e with e; subst e
      rw [Nat.zero_add]; exact h
    have hcj : ∀ j, j < L.length → w.cell? ⟨g, j, none⟩ = some (.int .i64 (L.getD j 0)) := fun j hj => by
      have := hcs j (.int .i64 (L.getD j 0)) (by rw [List.getElem?_map, List.getD, List.getElem?_eq_getElem hj]; rfl)
      rwa [Nat.zero_add] at this
    have hgG : G ≠ g := fun e => hne (by rw [e]; rfl)
    by_cases hend : i = L.length
    · by_cases hroom : L.length + 1 ≤ cap
      · subst hend
        refine (Any2.slices_Insert_int_end_room layIns g 0 L.length cap G 0 1 c [.int .i64 x] w (by omega) hroom (by unfold maxLen at hm; omega) rfl (fun j hj => some_of_own hO (by omega)) (fun j _ => frozen_own hO _) hvs h1v).mono ?_
        rintro e w' ⟨rfl, rfl⟩
        rw [Nat.zero_add]
        have key := insA (x := x) (i := L.length) hO rfl (Nat.le_refl _) (by omega) hcj
        rw [List.drop_eq_nil_of_le (by simp)] at key
        obtain ⟨⟨cur', o1, o2⟩, hcell⟩ := key
        exact ⟨_, rfl, row_cells o1 (by omega) hm hroom hBg (insAt_len L x (Nat.le_refl _)) hcell, grown_setCells (.inl rfl) _ _ _ (grown_refl _ _)⟩
      · refine grow (some ⟨g, 0, none⟩) L.length cap rfl hnc (by omega) (fun h => by cases h) hend (fun a h j u hu => ?_)
        injection h with h
        subst h
        rw [Addr.add_lit]
        exact hcs j u hu
    · by_cases hroom : L.length + 1 ≤ cap
      · refine (Any2.slices_Insert_int_shift layIns g 0 L.length cap i G 0 1 c (L.map (Value.int .i64)) [.int .i64 x] w (by omega) (by omega) hroom (by unfold maxLen at hm; omega) hgG (by simp) rfl hcs
          (fun j hj => some_of_own hO (by omega)) (fun j _ => frozen_own hO _) hvs (map_one L) h1v 3 3 1 cur.size (shape_own hG) (shape_own hO) (by omega) (frozen_own hG _) (frozen_own hG _)).mono ?_
        rintro e w' ⟨rfl, rfl⟩
        rw [Nat.zero_add, Nat.zero_add]
        obtain ⟨⟨cur', o1, o2⟩, hcell⟩ := insA (x := x) (i := i) (w := w.drew) hO rfl hi (by omega) (fun j hj => hcj j (by omega))
        exact ⟨_, rfl, row_cells o1 (by omega) hm hroom hBg (insAt_len L x hi) hcell, grown_setCells (.inl rfl) _ _ _ (grown_setCells (.inl rfl) _ _ _ (grown_drew (grown_refl _ _)))⟩
      · refine (Any2.slices_Insert_int_grow layIns g 0 L.length cap i G 0 1 c (L.map (Value.int .i64)) [.int .i64 x] w (by omega) (by omega) hnc (by omega) (by omega) (by simp) rfl hcs hvs (map_one L) h1v).mono ?_
        rintro e w' ⟨rfl, hw⟩
        have hw' : w' = (((w.alloc (.cells (((L.map (Value.int .i64)).take i).toArray ++ Builtin.zeroCells (Value.int .i64 0).cells (L.length + 1 - i) ++ Builtin.zeroCells (Value.int .i64 0).cells (grownCap w (L.length + 1) cap 3 - (L.length + 1))) 3)).drew.setCells w.heap.size i [.int .i64 x]).drew).setCells w.heap.size (i + 1) ((L.map (Value.int .i64)).drop i) := hw
        subst hw'
        clear hw
        have hge := grownCap_ge w (L.length + 1) cap 3
        have hle := grownCap_le_maxLen w (L.length + 1) cap 3 (by unfold maxLen; omega)
        have hN := Own.new w 3 (((L.map (Value.int .i64)).take i).toArray ++ Builtin.zeroCells (Value.int .i64 0).cells (L.length + 1 - i) ++ Builtin.zeroCells (Value.int .i64 0).cells (grownCap w (L.length + 1) cap 3 - (L.length + 1)))
        have hNs : (((L.map (Value.int .i64)).take i).toArray ++ Builtin.zeroCells (Value.int .i64 0).cells (L.length + 1 - i) ++ Builtin.zeroCells (Value.int .i64 0).cells (grownCap w (L.length + 1) cap 3 - (L.length + 1))).size = grownCap w (L.length + 1) cap 3 := by
          rw [Array.size_append, Array.size_append, zc, zc]
          simp
          omega
        obtain ⟨⟨cur', o1, o2⟩, hcell⟩ := insB (x := x) (i := i) hN.drew (L := L) rfl hi (by omega) (fun j hj => by
          show (w.alloc _).cell? _ = _
          rw [hN.cell j, Array.getElem?_append_left (by rw [Array.size_append, zc]; simp; omega), Array.getElem?_append_left (by simp; omega), List.getElem?_toArray, List.getElem?_take_of_lt hj, List.getElem?_map, List.getD, List.getElem?_eq_getElem (by omega)]
          rfl)
        exact ⟨_, rfl, row_cells o1 (o2.trans hNs) hle hge hB (insAt_len L x hi) hcell, grown_setCells (.inr (Nat.le_refl _)) _ _ _ (grown_drew (grown_setCells (.inr (Nat.le_refl _)) _ _ _ (grown_drew (World.grownBy_alloc _ _ _))))⟩
/-- In an ascending list without x the place of x is how many are less. -/
theorem ins_asc {L : List Int} {x : Int} (h : AscP L) (hn : ¬x ∈ L) : insAt L (L.countP (· < x)) x = inl L x := by
  induction L with
  | nil => rfl
  | cons y l ih =>
    have h1 := List.pairwise_cons.1 h
    rw [List.mem_cons, not_or] at hn
    unfold inl
    by_cases hlt : x < y
    · rw [if_pos hlt]
      have h0 : (y :: l).countP (· < x) = 0 := by
        rw [List.countP_eq_zero]
        intro z hz
        rcases List.mem_cons.1 hz with rfl | hz
        · simp; omega
        · have := h1.1 z hz
          simp; omega
      rw [h0]
      rfl
    · rw [if_neg hlt]
      have hy : y < x := by have : ¬x = y := hn.1; omega
      rw [List.countP_cons_of_pos (by simpa using hy), ← ih h1.2 hn.2]
      rfl
end Go.Proofs.Yteaofieijginhaa
