/- What scanning, touching twice and balancing mean (layer 8): no program is named here. -/
import Derived.Test.YteaofieijginhaaLr
namespace Go.Mine
open Go Go.RowKit

theorem scn_held {held : Int → Bool} {L : List Int} {n g : Int} : ∀ (k : Nat) {s : Lr × List Int}, g ∈ (scnN held L n k s).2 → g ∈ s.2 ∨ held g = false
  | 0, _, h => .inl h
  | k + 1, s, h => by
    unfold scnN at h
    split at h
    · rcases scn_held k h with h | h
      · unfold scnS at h
        cases hh : held (L.getD k 0) <;> rw [hh] at h <;> simp only at h
        · cases hr : decide (L.getD k 0 ∈ s.1.r) <;> rw [hr] at h <;> simp only at h
          · rcases List.mem_append.1 h with h | h
            · exact .inl h
            · rw [List.mem_singleton] at h
              exact .inr (h ▸ hh)
          · exact .inl h
        · exact .inl h
      · exact .inr h
    · exact .inl h
theorem take_not {L : List Int} (hn : L.Nodup) {k : Nat} (hk : k < L.length) : ¬L.getD k 0 ∈ L.take k := by
  rw [List.getD, List.getElem?_eq_getElem hk, Option.getD_some]
  intro h
  obtain ⟨j, hj, e⟩ := List.mem_take_iff_getElem.1 h
  have hj2 : j < k := by omega
  have := (List.nodup_iff_pairwise_ne.1 hn)
  have := List.pairwise_iff_getElem.1 this j k (by omega) hk hj2
  exact this e
theorem scn_ref {held : Int → Bool} {L : List Int} {n f : Int} (hn : L.Nodup) : ∀ (k : Nat) {s : Lr × List Int}, k ≤ L.length → ¬f ∈ s.2 → (f ∈ s.1.r ∨ ¬f ∈ L.take k) → ¬f ∈ (scnN held L n k s).2
  | 0, _, _, h, _ => h
  | k + 1, s, hk, h, hr => by
    unfold scnN
    split
    · have ht := take_not hn (show k < L.length by omega)
      have hsub : f ∈ L.take k → f ∈ L.take (k + 1) := fun h => by rw [List.take_add_one]; exact List.mem_append_left _ h
      have hself : f = L.getD k 0 → f ∈ L.take (k + 1) := fun e => by
        rw [List.take_add_one, List.getElem?_eq_getElem (by omega : k < L.length)]
        rw [List.getD, List.getElem?_eq_getElem (by omega : k < L.length), Option.getD_some] at e
        exact List.mem_append_right _ (by rw [e]; exact List.mem_singleton.2 rfl)
      by_cases e : f = L.getD k 0
      · have hfr : f ∈ s.1.r := hr.resolve_right fun h => h (hself e)
        refine scn_ref hn k (by omega) ?_ (.inr (by rw [e]; exact ht))
        unfold scnS
        rw [← e]
        cases held f
        · rw [decide_eq_true hfr]; exact h
        · exact h
      · refine scn_ref hn k (by omega) ?_ ?_
        · unfold scnS
          cases held (L.getD k 0)
          · cases decide (L.getD k 0 ∈ s.1.r)
            · show ¬f ∈ s.2 ++ [L.getD k 0]
              rw [List.mem_append, List.mem_singleton]
              rintro (h1 | h1)
              · exact h h1
              · exact e h1
            · exact h
          · exact h
        · rcases hr with hr | hr
          · left
            unfold scnS
            cases held (L.getD k 0)
            · cases decide (L.getD k 0 ∈ s.1.r)
              · exact hr
              · exact mem_wol.2 ⟨hr, e⟩
            · exact hr
          · exact .inr fun h => hr (hsub h)
    · exact h
theorem remE_ok {x : Lr} {f : Int} (h : OkP x) (hf : f ∈ x.all) : remE x f = 0 := by
  have hb := h.1 f hf
  unfold remE
  rw [show okB x = true from decide_eq_true h, decide_eq_true hb, show inB x f = true from by unfold inB; unfold Lr.all at hf; simpa using hf]
/-- A frame that is touched is no victim of the next scan; touched again, it is active. -/
theorem second {x : Lr} {f : Int} (h : OkP x) (hf : f ∈ x.i) (n : Int) (held : Int → Bool) :
    remE x f = 0 ∧ remE (touX x f) f = 0 ∧ (¬f ∈ (scnF (touX x f) n held).2) ∧ f ∈ (touX (touX x f) f).a := by
  have ha : f ∈ x.all := List.mem_append_right _ hf
  have e1 := remE_ok h ha
  obtain ⟨h1, p1⟩ := ok_tou (f := f) h
  have e2 := remE_ok h1 (p1.mem_iff.2 ha)
  refine ⟨e1, e2, ?_, ?_⟩
  · unfold scnF
    split
    · simp
    · refine scn_ref (nodup_i h1) _ (Nat.le_refl _) (by simp) ?_
      rw [List.take_length]
      unfold touX
      rw [if_pos e1]
      cases hr : decide (f ∈ x.r)
      · exact .inl (mem_inl.2 (.inl rfl))
      · rw [decide_eq_true hf]
        exact .inr fun h => (mem_wol.1 h).2 rfl
  · cases hr : decide (f ∈ x.r)
    · have ey : touX x f = ⟨x.a, x.i, inl x.r f⟩ := by unfold touX; rw [if_pos e1, hr]
      rw [ey] at e2 ⊢
      unfold touX
      rw [if_pos e2, show decide (f ∈ inl x.r f) = true from decide_eq_true (mem_inl.2 (.inl rfl)), decide_eq_true hf]
      exact List.mem_cons_self ..
    · have ey : touX x f = ⟨f :: x.a, wol x.i f, wol x.r f⟩ := by unfold touX; rw [if_pos e1, hr, decide_eq_true hf]
      rw [ey] at e2 ⊢
      unfold touX
      rw [if_pos e2, show decide (f ∈ wol x.r f) = false from decide_eq_false fun h => (mem_wol.1 h).2 rfl]
      exact List.mem_cons_self ..
/-- How many of the frames are not referenced. -/
def freN (r : List Int) (l : List Int) : Nat := (l.filter fun f => decide (¬f ∈ r)).length
theorem freN_snoc (r l : List Int) (f : Int) : freN r (l ++ [f]) = freN r l + if f ∈ r then 0 else 1 := by
  unfold freN
  rw [List.filter_append, List.length_append]
  by_cases h : f ∈ r <;> simp [h]
theorem freN_wol {r l : List Int} {f : Int} (h : ¬f ∈ l) : freN (wol r f) l = freN r l := by
  unfold freN
  congr 1
  refine List.filter_congr fun y hy => ?_
  refine decide_eq_decide.2 ?_
  rw [mem_wol]
  have : ¬y = f := fun e => h (e ▸ hy)
  simp [this]
theorem bal_count : ∀ (n : Nat) (x : Lr) (R O : List Int), x.a = R ++ O → O.length = n → x.a.Nodup →
    x.a.length ≤ (balN n x).a.length + freN x.r O ∧ (balN n x).a.length + (balN n x).i.length = x.a.length + x.i.length ∧ ((balN n x).a.length ≤ (balN n x).i.length ∨ (balN n x).a.length + freN x.r O = x.a.length)
  | 0, x, R, O, e, hl, _ => by
    have : O = [] := List.length_eq_zero_iff.1 hl
    subst this
    exact ⟨by show x.a.length ≤ x.a.length + _; omega, rfl, .inr rfl⟩
  | n + 1, x, R, O, e, hl, hn => by
    have hne : O ≠ [] := by intro h; rw [h] at hl; simp at hl
    have hO := last_split hne
    have hOl : O.dropLast.length = n := by rw [List.length_dropLast]; omega
    unfold balN
    split
    · next h0 =>
      have ea : x.a = (R ++ O.dropLast) ++ [O.getLastD 0] := by rw [e, List.append_assoc, ← hO]
      generalize O.getLastD 0 = f at *
      generalize O.dropLast = O' at *
      have hl1 : x.a.getLastD 0 = f := by rw [ea]; simp
      have hl2 : x.a.dropLast = R ++ O' := by rw [ea]; simp
      have hfO : ¬f ∈ O' := by
        intro h
        rw [ea] at hn
        have := (List.nodup_append.1 hn).2.2 f (List.mem_append_right _ h) f (List.mem_singleton.2 rfl)
        exact this rfl
      have hn' : (f :: (R ++ O')).Nodup := by
        rw [ea] at hn
        exact (List.perm_append_singleton f (R ++ O')).nodup_iff.1 hn
      have hlen : x.a.length = R.length + O'.length + 1 := by rw [ea]; simp; omega
      rw [hO, freN_snoc]
      by_cases hr : f ∈ x.r
      · have es : balS x = ⟨f :: (R ++ O'), x.i, wol x.r f⟩ := by unfold balS; rw [hl1, hl2, decide_eq_true hr]
        rw [es]
        obtain ⟨h1, h2, h3⟩ := bal_count n ⟨f :: (R ++ O'), x.i, wol x.r f⟩ (f :: R) O' rfl hOl hn'
        rw [show freN (Lr.mk (f :: (R ++ O')) x.i (wol x.r f)).r O' = freN x.r O' from freN_wol hfO] at h1 h3
        rw [show (Lr.mk (f :: (R ++ O')) x.i (wol x.r f)).a.length = R.length + O'.length + 1 from by simp] at h1 h2 h3
        rw [show (Lr.mk (f :: (R ++ O')) x.i (wol x.r f)).i = x.i from rfl] at h2
        rw [if_pos hr]
        omega
      · have es : balS x = ⟨R ++ O', f :: x.i, x.r⟩ := by unfold balS; rw [hl1, hl2, decide_eq_false hr]
        rw [es]
        obtain ⟨h1, h2, h3⟩ := bal_count n ⟨R ++ O', f :: x.i, x.r⟩ R O' rfl hOl (List.nodup_cons.1 hn').2
        rw [show (Lr.mk (R ++ O') (f :: x.i) x.r).a.length = R.length + O'.length from by simp] at h1 h2 h3
        rw [show (Lr.mk (R ++ O') (f :: x.i) x.r).i.length = x.i.length + 1 from by simp] at h2
        rw [show (Lr.mk (R ++ O') (f :: x.i) x.r).r = x.r from rfl] at h1 h3
        rw [if_neg hr]
        omega
    · next h0 => exact ⟨by omega, rfl, .inl (by omega)⟩
theorem balanced {x : Lr} (h : OkP x) : (x.a.length ≤ x.i.length → balX x = x) ∧
    (x.i.length < x.a.length → x.a.length ≤ 2 * freN x.r x.a + x.i.length → (balX x).a.length ≤ (balX x).i.length) ∧
    (x.i.length < x.a.length → 2 * freN x.r x.a + x.i.length < x.a.length → (balX x).a.length + freN x.r x.a = x.a.length) := by
  obtain ⟨h1, h2, h3⟩ := bal_count x.a.length x [] x.a rfl rfl (nodup_a h)
  have e : balX x = balN x.a.length x := by unfold balX; rw [show okB x = true from decide_eq_true h]
  refine ⟨fun h0 => ?_, ?_, ?_⟩
  · rw [e]
    cases hn : x.a.length with
    | zero => rfl
    | succ n => unfold balN; rw [if_neg (by omega)]
  · rw [e]; omega
  · rw [e]; omega
/-- The frames 1 .. c, the last one first. -/
def dscL : Nat → List Int
  | 0 => []
  | c + 1 => ((c : Int) + 1) :: dscL c
theorem dsc_mem {c : Nat} {f : Int} : f ∈ dscL c ↔ 1 ≤ f ∧ f ≤ c := by
  induction c with
  | zero => simp [dscL]; omega
  | succ c ih => rw [dscL, List.mem_cons, ih]; omega
theorem dsc_len (c : Nat) : (dscL c).length = c := by induction c with
  | zero => rfl
  | succ c ih => rw [dscL, List.length_cons, ih]
theorem dsc_at {c k : Nat} (h : k < c) : (dscL c).getD k 0 = (c : Int) - k := by
  induction c generalizing k with
  | zero => omega
  | succ c ih =>
    cases k with
    | zero => show ((c : Int) + 1) = _; omega
    | succ k =>
      show (dscL c).getD k 0 = _
      rw [ih (by omega)]; omega
theorem dsc_nodup : ∀ c : Nat, (dscL c).Nodup
  | 0 => List.nodup_nil
  | c + 1 => List.nodup_cons.2 ⟨fun h => by have := dsc_mem.1 h; omega, dsc_nodup c⟩
theorem dsc_ok {c : Nat} (h : c ≤ 64) {r : List Int} (hr : ∀ f ∈ r, 1 ≤ f ∧ f ≤ c) (ha : AscP r) : OkP ⟨[], dscL c, r⟩ :=
  ⟨fun f hf => by have := dsc_mem.1 (show f ∈ dscL c from hf); omega, dsc_nodup c, fun f hf => dsc_mem.2 (hr f hf), ha⟩
theorem dsc_add {c : Nat} (h : c < 64) : addE ⟨[], dscL c, []⟩ ((c : Int) + 1) = 0 ∧ addX ⟨[], dscL c, []⟩ ((c : Int) + 1) false = ⟨[], dscL (c + 1), []⟩ := by
  have hok := dsc_ok (c := c) (by omega) (r := []) (by simp) List.Pairwise.nil
  have he : addE ⟨[], dscL c, []⟩ ((c : Int) + 1) = 0 := by
    unfold addE
    rw [show okB ⟨[], dscL c, []⟩ = true from decide_eq_true hok, decide_eq_true (by omega : 1 ≤ (c : Int) + 1 ∧ (c : Int) + 1 ≤ 64)]
    have : inB ⟨[], dscL c, []⟩ ((c : Int) + 1) = false := by
      unfold inB
      rw [show decide ((c : Int) + 1 ∈ ([] : List Int)) = false from rfl, Bool.false_or]
      exact decide_eq_false fun h => by have := dsc_mem.1 h; omega
    rw [this]
  exact ⟨he, by unfold addX; rw [if_pos he]; rfl⟩
/-- The frames up to k that were not touched, but at most n. -/
def wntL (t : Int → Bool) (n : Int) : Nat → List Int
  | 0 => []
  | k + 1 => if ((wntL t n k).length : Int) < n ∧ t ((k : Int) + 1) = false then wntL t n k ++ [(k : Int) + 1] else wntL t n k
theorem wnt_stop {t : Int → Bool} {n : Int} {k : Nat} (h : ¬((wntL t n k).length : Int) < n) : ∀ m, k ≤ m → wntL t n m = wntL t n k
  | 0, hm => by have : k = 0 := by omega
                subst this; rfl
  | m + 1, hm => by
    by_cases e : k = m + 1
    · subst e; rfl
    · have ih := wnt_stop h m (by omega)
      rw [wntL, ih, if_neg (fun hh => h hh.1)]
theorem wnt_len (t : Int → Bool) (n : Int) : ∀ k, (wntL t n k).length ≤ k
  | 0 => Nat.le_refl _
  | k + 1 => by
    have := wnt_len t n k
    rw [wntL]; split
    · rw [List.length_append]; simp; omega
    · omega
theorem scn_old {t : Int → Bool} {n : Int} {c : Nat} : ∀ (k : Nat) (s : Lr × List Int), k ≤ c → s.2 = wntL t n (c - k) → (∀ g : Int, (c : Int) - k < g → g ≤ c → (g ∈ s.1.r ↔ t g = true)) → (scnN (fun _ => false) (dscL c) n k s).2 = wntL t n c
  | 0, s, _, h, _ => by show s.2 = _; rw [h, Nat.sub_zero]
  | k + 1, s, hk, h, hr => by
    have hat := dsc_at (show k < c by omega)
    have hck : c - k = (c - (k + 1)) + 1 := by omega
    have hcast : ((c - (k + 1) : Nat) : Int) + 1 = (c : Int) - k := by omega
    unfold scnN
    split
    · next hlt =>
      rw [h] at hlt
      have hg := hr ((c : Int) - k) (by omega) (by omega)
      refine scn_old k _ (by omega) ?_ ?_
      · rw [hat, hck, wntL, hcast]
        unfold scnS
        cases ht : t ((c : Int) - k)
        · rw [show decide ((c : Int) - k ∈ s.1.r) = false from decide_eq_false fun h => by rw [hg.1 h] at ht; exact absurd ht (by simp), if_pos ⟨hlt, rfl⟩, ← h]
        · rw [show decide ((c : Int) - k ∈ s.1.r) = true from decide_eq_true (hg.2 ht), if_neg (fun h => by simp at h), ← h]
      · intro g g0 g1
        rw [hat]
        have hne : ¬g = (c : Int) - k := by omega
        unfold scnS
        cases decide ((c : Int) - k ∈ s.1.r)
        · exact hr g (by omega) g1
        · show g ∈ wol s.1.r _ ↔ _
          rw [mem_wol]
          exact ⟨fun h => (hr g (by omega) g1).1 h.1, fun h => ⟨(hr g (by omega) g1).2 h, hne⟩⟩
    · next hlt =>
      rw [h] at hlt
      rw [h, wnt_stop hlt c (by omega)]
theorem oldest {t : Int → Bool} {n : Int} {c : Nat} {r : List Int} (hc : c ≤ 64) (hn : 1 ≤ n) (hr : ∀ g : Int, 1 ≤ g → g ≤ c → (g ∈ r ↔ t g = true)) (hr2 : ∀ f ∈ r, 1 ≤ f ∧ f ≤ c) (ha : AscP r) :
    (scnF ⟨[], dscL c, r⟩ n (fun _ => false)).2 = wntL t n c := by
  unfold scnF
  rw [show okB ⟨[], dscL c, r⟩ = true from decide_eq_true (dsc_ok hc hr2 ha), decide_eq_true hn]
  show (scnN (fun _ => false) (dscL c) n (dscL c).length (⟨[], dscL c, r⟩, [])).2 = _
  rw [dsc_len]
  refine scn_old c _ (Nat.le_refl _) (by rw [Nat.sub_self]; rfl) fun g g0 g1 => hr g (by omega) g1
end Go.Mine
