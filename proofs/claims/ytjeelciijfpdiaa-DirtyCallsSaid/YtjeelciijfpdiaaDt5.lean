/- Layer 13, the program's Complete: endPeriod, countPage. -/
import Derived.Test.YtjeelciijfpdiaaDt4
import Derived.BigRegion
namespace Go.Mine
open Go Go.RowKit
/-- Nothing that was there has turned but two blocks. -/
structure Two (g h : Nat) (w w' : World) : Prop where
  os : w'.os = w.os
  tape : w'.tape = w.tape
  output : w'.output = w.output
  size : w.heap.size ≤ w'.heap.size
  block : ∀ k, k < w.heap.size → k ≠ g → k ≠ h → w'.heap[k]? = w.heap[k]?
theorem Two.refl (g h : Nat) (w : World) : Two g h w w := ⟨rfl, rfl, rfl, Nat.le_refl _, fun _ _ _ _ => rfl⟩
theorem Two.trans {g h : Nat} {a b c : World} (x : Two g h a b) (y : Two g h b c) : Two g h a c :=
  ⟨y.os.trans x.os, y.tape.trans x.tape, y.output.trans x.output, Nat.le_trans x.size y.size, fun k hk h1 h2 => (y.block k (Nat.lt_of_lt_of_le hk x.size) h1 h2).trans (x.block k hk h1 h2)⟩
theorem Two.set {g h : Nat} {a b : World} (x : Two g h a b) (p : Addr) (hp : p.block = g ∨ p.block = h) (u : Value) : Two g h a (b.setCell p u) :=
  ⟨x.os, x.tape, x.output, by simpa [World.setCell] using x.size, fun k hk h1 h2 => (Below.heap_setCell b p u k (by rintro rfl; rcases hp with hp | hp; exact h1 hp; exact h2 hp)).trans (x.block k hk h1 h2)⟩
theorem Two.drew {g h : Nat} {a b : World} (x : Two g h a b) : Two g h a b.drew := ⟨x.os, x.tape, x.output, x.size, x.block⟩
theorem Two.drewN {g h : Nat} {a b : World} (x : Two g h a b) (n : Nat) : Two g h a (b.drewN n) := ⟨x.os, x.tape, x.output, x.size, x.block⟩
theorem Grew.two {g h : Nat} {w a b : World} (G : Grew w a) (x : Two g h a b) (h1 : w.heap.size ≤ g) (h2 : w.heap.size ≤ h) : Grew w b :=
  Below.trans G ⟨x.os, x.tape, x.output, x.size, fun k hk => by
    by_cases e : k < a.heap.size
    · exact x.block k e (by omega) (by omega)
    · have := G.size; omega⟩
theorem Own.two' {g h k : Nat} {t : TypeId} {cs : Array Value} {a b : World} (o : Own a k t cs) (x : Two g h a b) (h1 : k ≠ g) (h2 : k ≠ h) : Own b k t cs := o.since (x.block k o.lt h1 h2)
/-- The first k halved. -/
def halK (k : Nat) (L : List Int) : List Int := (L.take k).map (· / 2) ++ L.drop k
theorem halK_0 (L : List Int) : halK 0 L = L := by simp [halK]
theorem halK_len (k : Nat) (L : List Int) : (halK k L).length = L.length := by simp [halK]; omega
theorem halK_all (L : List Int) : halK L.length L = halD L := by simp [halK, halD]
theorem halK_at {k : Nat} {L : List Int} (h : k < L.length) : (halK k L).getD k 0 = L.getD k 0 := by
  unfold halK
  rw [List.getD_eq_getElem?_getD, List.getElem?_append_right (by simp; omega)]
  simp [List.getD, Nat.min_eq_left (Nat.le_of_lt h)]
theorem halK_s {k : Nat} {L : List Int} (h : k < L.length) : (halK k L).set k (L.getD k 0 / 2) = halK (k + 1) L := by
  have e : L.drop k = L.getD k 0 :: L.drop (k + 1) := by
    rw [List.drop_eq_getElem_cons h]; simp [List.getD, h]
  unfold halK
  rw [List.set_append_right _ _ (by simp; omega), take_getD (d := 0) L k h, e]
  simp [Nat.min_eq_left (Nat.le_of_lt h)]
end Go.Mine
namespace Go.Proofs.Ytjeelciijfpdiaa
open Go.RowKit Go.Mine

/-- Nothing is returned; block g holds cs, the row v holds L; nothing else that was there has turned. -/
def RetTw (g h : Nat) (cs : Array Value) (B : Nat) (v : Value) (L : List Int) (w : World) (e : Ending) (w' : World) : Prop :=
  e = .returned (.tuple #[]) ∧ Own w' g 27 cs ∧ RowE 3 1 enc1 w' B v L ∧ Two g h w w'
set_option maxHeartbeats 4000000 in
theorem endP_p {B g h n c : Nat} {L : List Int} {P l : Int} {w : World} (O : Own w g 27 #[.slice (some ⟨h, 0, none⟩) n c, .int .i64 P, .int .i64 l]) (R : RowE 3 1 enc1 w B (.slice (some ⟨h, 0, none⟩) n c) L)
    (hne : g ≠ h) (hs : n ≤ 1000) (ev : ∀ k, k < L.length → 0 ≤ L.getD k 0 ∧ L.getD k 0 ≤ 1000000) :
    Calls Try.prog 32 #[.pointer (some ⟨g, 0, none⟩)] w (RetTw g h #[.slice (some ⟨h, 0, none⟩) n c, .int .i64 P, .int .i64 P] B (.slice (some ⟨h, 0, none⟩) n c) (halD L) w) := by
  have HO := Lib.hid O
  have HR := Lib.hid R
  have HN : Hid (L.length = n) := Lib.hid R.atI.1.symm
  have HE := Lib.hid ev
  obtain ⟨c0, c1, c2, -⟩ := O.three
  clear O R ev
  go_enter Try.func32, Try.ntmps32
  go_wp2_with fail
  clear c0 c1 c2
  go_loopw [8] (fun iv wr => ∃ i : Nat, iv = .int .i64 i ∧ i ≤ n ∧ Own wr g 27 #[.slice (some ⟨h, 0, none⟩) n c, .int .i64 P, .int .i64 l] ∧ RowE 3 1 enc1 wr B (.slice (some ⟨h, 0, none⟩) n c) (halK i L) ∧ Two g h w wr) (fun iv _ => n - (intOf iv).toNat)
  case atStart => exact ⟨0, rfl, by omega, HO.out, by rw [halK_0]; exact HR.out, Two.refl _ _ _⟩
  case round =>
    obtain ⟨i, rfl, hi, O, R, T⟩ := hrel
    obtain ⟨wo, rfl⟩ : ∃ wo : World, wo = wr := ⟨_, rfl⟩
    have HO1 := Lib.hid O
    have HR1 := Lib.hid R
    have HT1 := Lib.hid T
    obtain ⟨c0, c1, c2, f0, f1, f2⟩ := O.three
    by_cases hlt : i < n
    · have hiL : i < L.length := by rw [HN.out]; exact hlt
      obtain ⟨h', e', -, hg, d0, z0⟩ := R.atI.2 i hlt
      injection e' with e'
      injection e' with e'
      subst e'
      rw [halK_at hiL] at d0
      have hb := HE.out i hiL
      have hst := halK_s hiL
      obtain ⟨y, hy⟩ : ∃ y, L.getD i 0 = y := ⟨_, rfl⟩
      rw [hy] at d0 hb hst
      obtain ⟨u, hu⟩ : ∃ u, y / 2 = u := ⟨_, rfl⟩
      have m0 : Int.tdiv y 2 = u := by rw [Int.tdiv_eq_ediv_of_nonneg hb.1, hu]
      have m1 : IntKind.i64.wrap u = u := IntWalk.i64_in _ (by omega)
      have m2 : wrap64 u = u := IntWalk.wrap64_in _ (by omega)
      rw [hu] at hst
      have HST := Lib.hid hst
      have hi0 : (0 : Int) ≤ (i : Int) := by omega
      have hi1 : (i : Int) < (n : Int) := by omega
      clear O R T hb hst hy hu
      go_wp2
      refine ⟨⟨i + 1, by go_num, by omega, HO1.out.far (p := ⟨h, i, none⟩) hne _, ?_, HT1.out.set ⟨h, i, none⟩ (.inr rfl) _⟩, by simp [intOf] <;> omega⟩
      rw [← HST.out]
      exact HR1.out.storeI i u
    · obtain rfl : i = n := by omega
      have hR : RowE 3 1 enc1 wo B (.slice (some ⟨h, 0, none⟩) i c) (halD L) := by rw [← halK_all, HN.out]; exact R
      have HR2 := Lib.hid (RowE.keptG (r := some g) hR (grown_set (p := ⟨g, 2, none⟩) (grown_refl _ _) (.inl rfl) (.int .i64 P)) fun k e ho => by injection e with e; injection ho with ho; exact hne (e.trans ho.symm))
      clear O R T hR
      go_wp2
      go_end0
      exact ⟨rfl, HO1.out.set 2 (.int .i64 P), HR2.out, HT1.out.set ⟨g, 2, none⟩ (.inl rfl) _⟩
set_option maxHeartbeats 4000000 in
theorem cntP_p {B g h n c d : Nat} {L : List Int} {P l : Int} {w : World} (O : Own w g 27 #[.slice (some ⟨h, 0, none⟩) n c, .int .i64 P, .int .i64 l]) (R : RowE 3 1 enc1 w B (.slice (some ⟨h, 0, none⟩) n c) L)
    (hne : g ≠ h) (hd : d < n) (ok : OkD ⟨L, P, l⟩) :
    Calls Try.prog 27 #[.pointer (some ⟨g, 0, none⟩), .int .i64 d] w (RetTw g h #[.slice (some ⟨h, 0, none⟩) n c, .int .i64 P, .int .i64 (stD d ⟨L, P, l⟩).l] B (.slice (some ⟨h, 0, none⟩) n c) (stD d ⟨L, P, l⟩).e w) := by
  have HO := Lib.hid O
  have HR := Lib.hid R
  have HN : Hid (L.length = n) := Lib.hid R.atI.1.symm
  have hdL : d < L.length := by rw [HN.out]; exact hd
  have HE := Lib.hid ok
  obtain ⟨h', e', -, hg, d0, z0⟩ := R.atI.2 d hd
  injection e' with e'
  injection e' with e'
  subst e'
  have hb := ok.ev d hdL
  have l1 := ok.l1
  have l2 := ok.l2
  have p2 := ok.p2
  simp only at hb l1 l2 p2
  obtain ⟨c0, c1, c2, f0, f1, f2⟩ := O.three
  have hinc : incD d L = L.set d (min (L.getD d 0 + 1) 1000000) := rfl
  obtain ⟨y, hy⟩ : ∃ y, L.getD d 0 = y := ⟨_, rfl⟩
  rw [hy] at d0 hb hinc
  obtain ⟨u, hu⟩ : ∃ u, min (y + 1) 1000000 = u := ⟨_, rfl⟩
  rw [hu] at hinc
  have HR1 := Lib.hid (HR.out.storeI d u)
  rw [← hinc] at HR1
  have HO1 := Lib.hid (HO.out.far (p := ⟨h, d, none⟩) hne (.int .i64 u))
  have HT1 := Lib.hid ((Two.refl g h w).set ⟨h, d, none⟩ (.inr rfl) (.int .i64 u))
  have m1 : IntKind.i64.wrap (y + 1) = y + 1 := IntWalk.i64_in _ (by omega)
  have m1' : wrap64 (y + 1) = y + 1 := IntWalk.wrap64_in _ (by omega)
  have hi0 : (0 : Int) ≤ (d : Int) := by omega
  have hi1 : (d : Int) < (n : Int) := by omega
  have hs : n ≤ 4 := by rw [← HN.out]; exact ok.n4
  clear O R ok hinc
  go_enter Try.func27, Try.ntmps27
  go_upto_region 0 with fail
  go_region
  rw [show (if 1000000 < y + 1 then 1000000 else y + 1) = u from by rw [← hu]; split <;> omega]
  replace HR1 := Lib.hid (HR1.out.drew)
  replace HO1 := Lib.hid HO1.out.drew
  replace HT1 := Lib.hid HT1.out.drew
  generalize World.drew (World.setCell w _ _) = w1 at *
  clear c0 c1 c2 f0 f1 f2 d0 z0 hu m1 m1' HR HO
  obtain ⟨c0, c1, c2, f0, f1, f2⟩ := HO1.out.three
  have m2 : IntKind.i64.wrap (l - 1) = l - 1 := IntWalk.i64_in _ (by omega)
  have m2' : wrap64 (l - 1) = l - 1 := IntWalk.wrap64_in _ (by omega)
  have HO2 := Lib.hid (HO1.out.set 2 (.int .i64 (l - 1)))
  have HT2 := Lib.hid (HT1.out.set ⟨g, 2, none⟩ (.inl rfl) (.int .i64 (l - 1)))
  have HR2 := Lib.hid (RowE.keptG (r := some g) HR1.out (grown_set (p := ⟨g, 2, none⟩) (grown_refl _ _) (.inl rfl) (.int .i64 (l - 1))) fun k e ho => by injection e with e; injection ho with ho; exact hne (e.trans ho.symm))
  by_cases hl : l = 1
  · have HS := Lib.hid (st_t (d := d) (x := ⟨L, P, l⟩) hl)
    subst hl
    have e10 : (1 : Int) - 1 = 0 := rfl
    rw [e10] at HO2 HR2 HT2
    have hev := Lib.hid (inc_ok hdL HE.out.ev)
    go_wp2_with fail
    with_reducible refine (endP_p HO2.out HR2.out hne (by omega) (fun k hk => by rw [inc_len] at hk; exact hev.out k hk)).mono ?_
    rintro e w2 ⟨rfl, O3, R3, T3⟩
    have HO3 := Lib.hid O3
    have HR3 := Lib.hid R3
    have HT3 := Lib.hid (HT2.out.trans T3)
    clear O3 R3 T3
    go_wp2
    go_end0
    rw [HS.out]
    exact ⟨rfl, HO3.out, HR3.out, HT3.out⟩
  · have HS := Lib.hid (st_f (d := d) (x := ⟨L, P, l⟩) hl)
    have hl1 : ¬l - 1 = 0 := by omega
    have hl2 : (l - 1 == 0) = false := by simpa using hl1
    go_wp2
    go_end0
    rw [HS.out]
    exact ⟨rfl, HO2.out, HR2.out, HT2.out⟩
end Go.Proofs.Ytjeelciijfpdiaa
