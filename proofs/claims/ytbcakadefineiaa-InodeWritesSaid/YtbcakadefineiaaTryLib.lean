/- Sectors that are written in turn: plain facts, and the choice between them. -/
import Derived.Test.YtbcakadefineiaaPairLib
import Derived.Laws.AppendOwn
import Derived.Laws.OwnMore
namespace Go.Proofs.Ytbcakadefineiaa
open Go.RowKit Go.Mine

/-- The first half of a sector is that of an inode. -/
def cont (s : ByteArray) (q z b : Int) : Prop := by8 s 0 = q / 256 ∧ by8 s 1 = q % 256 ∧ by8 s 2 = z ∧ by8 s 3 = b
section
variable {s o : ByteArray} {q z b f q' z' b' : Int}
theorem cont_dec (hv : validI q z b = true) (h : cont s q z b) (hd : dOK s f = true) : dQ s f = q ∧ dZ s f = z ∧ dB s f = b := by
  obtain ⟨h0, h1, h2, h3⟩ := h
  obtain ⟨-, -, -, -, he⟩ := val_bd hv
  unfold dQ dZ dB
  rw [hd, if_pos rfl, if_pos rfl, if_pos rfl, h0, h1, h2, h3]
  exact ⟨he, rfl, rfl⟩
theorem cont_sec (hv : validI q z b = true) : cont (secS q z b f) q z b := by
  obtain ⟨m0, m1, m2, m3, -⟩ := mix_at (q' := q) (z' := z) (b' := b) (f := f) hv
  exact ⟨m0, m1, m2, m3⟩
theorem front4 (a y : ByteArray) (ha : a.size = 8) (i : Nat) (hi : i < 4) : by8 (a.extract 0 4 ++ y) i = by8 a i := by
  have hl : a.data.toList.length = 8 := (Array.length_toList).trans ha
  unfold by8
  rw [ByteArray.data_append, Array.toList_append, ByteArray.data_extract, Array.toList_extract, List.extract_eq_take_drop, List.drop_zero, List.getD_eq_getElem?_getD, List.getD_eq_getElem?_getD,
    List.getElem?_append_left (by simp; omega), List.getElem?_take_of_lt (by omega)]
theorem size4 (a y : ByteArray) (ha : a.size = 8) (hy : y.size = 8) : (a.extract 0 4 ++ y.extract 4 8).size = 8 := by simp [ByteArray.size_append, ByteArray.size_extract, ha, hy]
theorem tn0 (a y : ByteArray) (ha : a.size = 8) (hy : y.size = 8) : tnS a y 0 = y.extract 0 4 ++ a.extract 4 8 ∧ tnE a y 0 = 0 := by simp [tnS, tnE, ha, hy]
theorem tn1 (a y : ByteArray) (ha : a.size = 8) (hy : y.size = 8) : tnS a y 1 = a.extract 0 4 ++ y.extract 4 8 ∧ tnE a y 1 = 0 := by simp [tnS, tnE, ha, hy]
theorem torn_new (hs : o.size = 8) (hv : validI q z b = true) : (tnS o (secS q z b f) 0).size = 8 ∧ cont (tnS o (secS q z b f) 0) q z b ∧ tnE o (secS q z b f) 0 = 0 := by
  obtain ⟨e1, e2⟩ := tn0 o (secS q z b f) hs sec_size
  obtain ⟨c0, c1, c2, c3⟩ := cont_sec (f := f) hv
  rw [e1]
  exact ⟨size4 _ _ sec_size hs, ⟨(front4 _ _ sec_size 0 (by omega)).trans c0, (front4 _ _ sec_size 1 (by omega)).trans c1, (front4 _ _ sec_size 2 (by omega)).trans c2, (front4 _ _ sec_size 3 (by omega)).trans c3⟩, e2⟩
theorem torn_old (hs : o.size = 8) (h : cont o q' z' b') : (tnS o (secS q z b f) 1).size = 8 ∧ cont (tnS o (secS q z b f) 1) q' z' b' ∧ tnE o (secS q z b f) 1 = 0 := by
  obtain ⟨e1, e2⟩ := tn1 o (secS q z b f) hs sec_size
  obtain ⟨c0, c1, c2, c3⟩ := h
  rw [e1]
  exact ⟨size4 _ _ hs sec_size, ⟨(front4 _ _ hs 0 (by omega)).trans c0, (front4 _ _ hs 1 (by omega)).trans c1, (front4 _ _ hs 2 (by omega)).trans c2, (front4 _ _ hs 3 (by omega)).trans c3⟩, e2⟩
end
def pickS (W : Int) (a b : ByteArray) : ByteArray := if W = 0 then a else b
theorem pick0 (a b : ByteArray) : pickS 0 a b = a := rfl
theorem pick1 (a b : ByteArray) : pickS 1 a b = b := rfl

/-- It returns an inode that is the good one, or one of those that were tried. -/
def RetGot (q z b : Int) (ts : List (Int × Int × Int)) (w : World) (e : Ending) (w' : World) : Prop :=
  ∃ gq gz gb i : Int, e = .returned (.tuple #[inoV gq gz gb, .int .i64 i, .bool true]) ∧ ((gq = q ∧ gz = z ∧ gb = b) ∨ (gq, gz, gb) ∈ ts) ∧ Grew w w'
theorem choose_inv (W : Int) (hW : W = 0 ∨ W = 1) (q z b cq cz cb f : Int) (s : ByteArray) (ts : List (Int × Int × Int)) (w : World) (hv : validI q z b = true) (hf : withB f 7 = true) (hc : validI cq cz cb = true)
    (hs : cont s cq cz cb) (hcond : cq < q ∨ (cq = q ∧ cz = z ∧ cb = b) ∨ (cq, cz, cb) ∈ ts) :
    Calls Try.prog 15 #[.string (pickS W (secS q z b f) s), .string (pickS W s (secS q z b f)), .int .i64 f] w (RetGot q z b ts w) := by
  obtain ⟨v1, v2, v3⟩ := sec_vals hv hf
  have ok := sec_ok hv hf
  rcases hW with rfl | rfl
  · rw [pick0, pick0]
    cases hB : chB (secS q z b f) s f
    · exact (choose_all _ s f w).mono fun e w' ⟨he, hg⟩ => ⟨q, z, b, 0, by rw [he]; simp [chQ, chZ, chX, chI, chO, hB, ok, v1, v2, v3], .inl ⟨rfl, rfl, rfl⟩, hg⟩
    · have hB' := hB
      unfold chB at hB'
      rw [Bool.and_eq_true, ok, Bool.not_true, Bool.false_or, decide_eq_true_eq, v1] at hB'
      obtain ⟨hd, hlt⟩ := hB'
      obtain ⟨u1, u2, u3⟩ := cont_dec hc hs hd
      rw [u1] at hlt
      exact (choose_all _ s f w).mono fun e w' ⟨he, hg⟩ => ⟨cq, cz, cb, 1, by rw [he]; simp [chQ, chZ, chX, chI, chO, hB, u1, u2, u3], .inr (by rcases hcond with h | h | h <;> first | (exfalso; omega) | exact h), hg⟩
  · rw [pick1, pick1]
    cases hB : chB s (secS q z b f) f
    · have hB' := hB
      unfold chB at hB'
      rw [ok, Bool.true_and, Bool.or_eq_false_iff, decide_eq_false_iff_not, v1] at hB'
      obtain ⟨hd, hlt⟩ := hB'
      have hd : dOK s f = true := by simpa using hd
      obtain ⟨u1, u2, u3⟩ := cont_dec hc hs hd
      rw [u1] at hlt
      exact (choose_all s _ f w).mono fun e w' ⟨he, hg⟩ => ⟨cq, cz, cb, 0, by rw [he]; simp [chQ, chZ, chX, chI, chO, hB, hd, u1, u2, u3], (by rcases hcond with h | h | h <;> first | (exfalso; omega) | exact .inl h | exact .inr h), hg⟩
    · exact (choose_all s _ f w).mono fun e w' ⟨he, hg⟩ => ⟨q, z, b, 1, by rw [he]; simp [chQ, chZ, chX, chI, chO, hB, v1, v2, v3], .inl ⟨rfl, rfl, rfl⟩, hg⟩

/-- Inodes as the cells of a row. -/
def flat : List (Int × Int × Int) → List Value
  | [] => []
  | t :: ts => .int .i64 t.1 :: .int .i64 t.2.1 :: .int .i64 t.2.2 :: flat ts
theorem flat_len : ∀ ts, (flat ts).length = ts.length * 3
  | [] => rfl
  | t :: ts => by simp only [flat, List.length_cons, flat_len ts]; omega
theorem flat_snoc : ∀ ts (q z b : Int), flat (ts ++ [(q, z, b)]) = flat ts ++ [.int .i64 q, .int .i64 z, .int .i64 b]
  | [], _, _, _ => rfl
  | t :: ts, q, z, b => by simp only [List.cons_append, flat, flat_snoc ts]
theorem flat_at : ∀ (ts : List (Int × Int × Int)) (k : Nat) (h : k < ts.length), (flat ts)[k * 3]? = some (.int .i64 ts[k].1) ∧ (flat ts)[k * 3 + 1]? = some (.int .i64 ts[k].2.1) ∧ (flat ts)[k * 3 + 2]? = some (.int .i64 ts[k].2.2)
  | t :: ts, 0, _ => ⟨rfl, rfl, rfl⟩
  | t :: ts, k + 1, h => by
    have := flat_at ts k (by simpa using h)
    rw [show (k + 1) * 3 = k * 3 + 3 from by omega]
    simpa [flat] using this

/-- A row of inodes of the call's own, from block B on. -/
def Rw (w : World) (B : Nat) (v : Value) (ts : List (Int × Int × Int)) : Prop := w.ownsRow B 28 3 v ts.length (flat ts)
section
variable {w w' : World} {B : Nat} {v : Value} {ts : List (Int × Int × Int)}
theorem Rw.keptG {r : Option Nat} (h : Rw w B v ts) (g : w.grownBy w' r) (hr : ∀ k, r = some k → k < B) : Rw w' B v ts := by
  refine World.ownsRow.kept h g ?_
  cases ho : v.ownBlock with
  | none => exact .inl rfl
  | some k =>
    refine .inr fun e => ?_
    have h1 := (World.ownsRow.lt h k ho).1
    have h2 := hr k e.symm
    omega
theorem Rw.grew (h : Rw w B v ts) (g : Grew w w') : Rw w' B v ts := h.keptG g.grown (by simp)
theorem Rw.past (h : Rw w B v ts) {b : Nat} (g : w.grownBy w' (some b)) (hb : b < B) : Rw w' B v ts := h.keptG g (fun k e => by injection e with e; omega)
theorem Rw.alloc (h : Rw w B v ts) (o : Obj) : Rw (w.alloc o) B v ts := World.ownsRow.alloc h o
theorem Rw.drew (h : Rw w B v ts) : Rw w.drew B v ts := h
theorem Rw.set (h : Rw w B v ts) {p : Addr} (hp : p.block < B) (u : Value) : Rw (w.setCell p u) B v ts :=
  h.keptG (r := some p.block) (grown_set (grown_refl w (some p.block)) (.inl rfl) u) (fun k e => by injection e with e; omega)
theorem Rw.nil (w : World) (B : Nat) : Rw w B (.slice none 0 0) [] := World.ownsRow_nil w B _ 3
theorem Rw.above (h : Rw w B v ts) : ∀ k, v.ownBlock = some k → B ≤ k := fun k hk => (World.ownsRow.lt h k hk).1
theorem Rw.snoc {q z b : Int} (h : w.ownsRow B 28 3 v (ts.length + 1) (flat ts ++ [.int .i64 q, .int .i64 z, .int .i64 b])) : Rw w B v (ts ++ [(q, z, b)]) := by
  unfold Rw
  rw [List.length_append, flat_snoc]
  exact h
end
section
variable {w w' : World} {B : Nat} {r : Option Nat}
theorem Own.keptA {g : Nat} {t : TypeId} {cs : Array Value} (h : Own w g t cs) (k : w.grownBy w' r) (hr : ∀ x, r = some x → B ≤ x) (hg : g < B) : Own w' g t cs :=
  h.since (k.block g h.lt (fun e => by have := hr g e.symm; omega))
theorem Tp.keptA {b B0 : Nat} (h : Tp B0 w b) (k : w.grownBy w' r) (hr : ∀ x, r = some x → B ≤ x) (hB : B0 ≤ B) : Tp B0 w' b :=
  h.elim fun rem h => ⟨rem, h.since k.size fun j hj hw => k.block j hw (fun e => by have := hr j e.symm; omega)⟩
theorem Grew.keptA {a : World} (h : Grew a w) (k : w.grownBy w' r) (hr : ∀ x, r = some x → B ≤ x) (hB : a.heap.size ≤ B) : Grew a w' :=
  Below.grown h k h.size (fun x e => by have := hr x e; omega)
end
theorem Rw.shape {w : World} {B : Nat} {v : Value} {ts : List (Int × Int × Int)} (h : Rw w B v ts) : (v = .slice none 0 0 ∧ ts = []) ∨
    ∃ g cap, v = .slice (some ⟨g, 0, none⟩) ts.length cap ∧ g < w.heap.size ∧ ∀ k (hk : k < ts.length), w.cell? ⟨g, k * 3, none⟩ = some (.int .i64 ts[k].1) ∧ w.cell? ⟨g, k * 3 + 1, none⟩ = some (.int .i64 ts[k].2.1) ∧ w.cell? ⟨g, k * 3 + 2, none⟩ = some (.int .i64 ts[k].2.2) := by
  have h0 := h
  obtain ⟨-, h1 | ⟨g, cap, cur, rfl, -, hb, -⟩⟩ := h
  · exact .inl ⟨h1.1, List.length_eq_zero_iff.1 h1.2⟩
  · refine .inr ⟨g, cap, rfl, (Array.getElem?_eq_some_iff.1 hb).1, fun k hk => ?_⟩
    obtain ⟨f0, f1, f2⟩ := flat_at ts k hk
    exact ⟨(World.ownsRow.cellAt h0 (k * 3) (by omega)).trans f0, (World.ownsRow.cellAt h0 (k * 3 + 1) (by omega)).trans f1, (World.ownsRow.cellAt h0 (k * 3 + 2) (by omega)).trans f2⟩
theorem Rw.drewN {w : World} {B : Nat} {v : Value} {ts : List (Int × Int × Int)} (h : Rw w B v ts) (n : Nat) : Rw (w.drewN n) B v ts := h
theorem Rw.view {w : World} {B : Nat} {v : Value} {ts : List (Int × Int × Int)} (h : Rw w B v ts) : (v = .slice none 0 0 ∧ ts = []) ∨
    ∃ (g cap n : Nat) (T0 T1 T2 : Nat → Int), v = .slice (some ⟨g, 0, none⟩) n cap ∧ n = ts.length ∧
      (∀ k, k < n → w.cell? ⟨g, k * 3, none⟩ = some (.int .i64 (T0 k)) ∧ w.cell? ⟨g, k * 3 + 1, none⟩ = some (.int .i64 (T1 k)) ∧ w.cell? ⟨g, k * 3 + 2, none⟩ = some (.int .i64 (T2 k))) ∧
      (∀ a b c, (a, b, c) ∈ ts → ∃ j, j < n ∧ T0 j = a ∧ T1 j = b ∧ T2 j = c) := by
  rcases h.shape with h | ⟨g, cap, hv, -, hc⟩
  · exact .inl h
  · refine .inr ⟨g, cap, ts.length, fun k => (ts.getD k (0, 0, 0)).1, fun k => (ts.getD k (0, 0, 0)).2.1, fun k => (ts.getD k (0, 0, 0)).2.2, hv, rfl, fun k hk => ?_, fun a b c hm => ?_⟩
    · have e : ts.getD k (0, 0, 0) = ts[k] := by simp [List.getD, hk]
      simp only [e]
      exact hc k hk
    · obtain ⟨j, hj, e⟩ := List.mem_iff_getElem.1 hm
      refine ⟨j, hj, ?_⟩
      have e2 : ts.getD j (0, 0, 0) = (a, b, c) := by simp [List.getD, hj, e]
      simp only [e2]
      exact ⟨trivial, trivial, trivial⟩
theorem info_ino : (Try.prog.info? 28).map (fun i => (i.zero, i.size, i.bytes)) = some (some (.agg #[.int .i64 0, .int .i64 0, .int .i64 0]), 3, 24) := by kernel_rfl
end Go.Proofs.Ytbcakadefineiaa
