/- Layer 13: isWithin, isWrong, hasDevice, Check of the program. -/
import Derived.Test.YtjeelciijfpdiaaDtM
import Derived.Test.YtjeelciijfpdiaaTape
namespace Go.Proofs.Ytjeelciijfpdiaa
open Go.RowKit Go.Mine

theorem isWithin_p {n l m : Int} {b : Bool} {w : World} (hb : frB n l m = b) : Calls Try.prog 24 #[.int .i64 n, .int .i64 l, .int .i64 m] w (RetS (.bool b) w) := by
  have HB := Lib.hid hb
  clear hb
  by_cases t1 : l ≤ n
  · by_cases t2 : n ≤ m
    · have HE : Hid (b = true) := Lib.hid (by rw [← HB.out]; exact frB_t t1 t2)
      go_enter Try.func24, Try.ntmps24
      go_wp2
      go_ret
      exact ⟨ret_bool HE.out.symm, rfl⟩
    · have HE : Hid (b = false) := Lib.hid (by rw [← HB.out]; exact frB_2 t2)
      go_enter Try.func24, Try.ntmps24
      go_wp2
      go_ret
      exact ⟨ret_bool HE.out.symm, rfl⟩
  · have HE : Hid (b = false) := Lib.hid (by rw [← HB.out]; exact frB_1 t1)
    go_enter Try.func24, Try.ntmps24
    go_wp2
    go_ret
    exact ⟨ret_bool HE.out.symm, rfl⟩
theorem isWrong_p {x : Int} {b : Bool} {w : World} (hb : wrI x = b) : Calls Try.prog 29 #[.int .i64 x] w (RetS (.bool b) w) := by
  obtain ⟨q, hq⟩ : ∃ q, frB x 0 1000000 = q := ⟨_, rfl⟩
  have HE : Hid (b = !q) := Lib.hid (by rw [← hb, ← hq]; rfl)
  have HQ := Lib.hid hq
  clear hb hq
  go_enter Try.func29, Try.ntmps29
  go_wp2_with fail
  with_reducible refine (isWithin_p HQ.out).mono ?_
  rintro e w1 ⟨rfl, rfl⟩
  go_wp2
  go_ret
  exact ⟨ret_bool HE.out.symm, rfl⟩
/-- The first place of a number that can't be events; -1 if there is none. -/
def RetIw (L : List Int) (w : World) (e' : Ending) (w' : World) : Prop := ∃ j : Int, e' = .returned (.int .i64 j) ∧ Grew w w' ∧ ((j = -1 ∧ L.any wrI = false) ∨ (0 ≤ j ∧ L.any wrI = true))
set_option maxHeartbeats 2000000 in
theorem indexW_p {p : Nat → Prop} {a : Option Addr} {n c : Nat} {L : List Int} {w : World} (h : RdI w p a n L) (hs : L.length ≤ 1000) :
    Calls Try.prog 33 #[.slice a n c, .func (.func 29) #[] #[]] w (RetIw L w) := by
  have HN := Lib.hid h.1.symm
  have hs : n ≤ 1000 := by rw [h.1]; exact hs
  have HZ := Lib.hid h
  clear h
  go_enter Try.func33, Try.ntmps33
  go_wp2_with fail
  go_loopw [8] (fun iv wr => ∃ i : Nat, iv = .int .i64 i ∧ i ≤ n ∧ Hid (∀ j, j < i → wrI (L.getD j 0) = false) ∧ Grew w wr) (fun iv _ => n - (intOf iv).toNat)
  case atStart => exact ⟨0, rfl, by omega, Lib.hid fun j hj => by omega, Grew.refl _⟩
  case round =>
    obtain ⟨i, rfl, hi, HB, G⟩ := hrel
    obtain ⟨wo, rfl⟩ : ∃ wo : World, wo = wr := ⟨_, rfl⟩
    by_cases hlt : i < n
    · have hiL : i < L.length := by rw [HN.out]; exact hlt
      obtain ⟨g, o, rfl, -, hg, c0⟩ := (HZ.out.grew G).at_ hiL
      have HNX : Hid (wrI (L.getD i 0) = false → ∀ j, j < i + 1 → wrI (L.getD j 0) = false) := Lib.hid fun h j hj => by
        by_cases e : j = i
        · rw [e]; exact h
        · exact HB.out j (by omega)
      have HAN : Hid (wrI (L.getD i 0) = true → L.any wrI = true) := Lib.hid fun h => by
        refine List.any_eq_true.2 ⟨_, List.getElem_mem hiL, ?_⟩
        have e : L.getD i 0 = L[i] := by simp [List.getD, hiL]
        rw [← e]; exact h
      obtain ⟨x, hx⟩ : ∃ x, L.getD i 0 = x := ⟨_, rfl⟩
      rw [hx] at c0 HNX HAN
      have hi0 : (0 : Int) ≤ (i : Int) := by omega
      have hi1 : (i : Int) < (n : Int) := by omega
      have HG := Lib.hid G
      clear hx G HB
      cases hq : wrI x
      · have HNX2 := Lib.hid (HNX.out hq)
        have HQ := Lib.hid hq
        clear hq HNX HAN
        go_wp2_with (go_at_call 29; (with_reducible refine (isWrong_p HQ.out).mono ?_); rintro e2 w2 ⟨rfl, rfl⟩)
        exact ⟨⟨i + 1, by go_num, by omega, HNX2, HG.out⟩, by simp [intOf] <;> omega⟩
      · have HAN2 := Lib.hid (HAN.out hq)
        have HQ := Lib.hid hq
        clear hq HNX HAN
        go_wp2_with (go_at_call 29; (with_reducible refine (isWrong_p HQ.out).mono ?_); rintro e2 w2 ⟨rfl, rfl⟩)
        go_ret
        exact ⟨i, rfl, HG.out, .inr ⟨by omega, HAN2.out⟩⟩
    · obtain rfl : i = n := by omega
      have HE : Hid (L.any wrI = false) := Lib.hid (by
        rw [List.any_eq_false]
        intro z hz
        obtain ⟨k, hk, rfl⟩ := List.getElem_of_mem hz
        have := HB.out k (by rw [← HN.out]; exact hk)
        have e : L.getD k 0 = L[k] := by simp [List.getD, hk]
        rw [e] at this
        simp [this])
      go_wp2
      go_ret
      exact ⟨-1, rfl, G, .inl ⟨rfl, HE.out⟩⟩
theorem contW_p {p : Nat → Prop} {a : Option Addr} {n c : Nat} {L : List Int} {w : World} (h : RdI w p a n L) (hs : L.length ≤ 1000) {b : Bool} (hb : L.any wrI = b) :
    Calls Try.prog 28 #[.slice a n c, .func (.func 29) #[] #[]] w (RetG (.bool b) w) := by
  have HB := Lib.hid hb
  clear hb
  go_enter Try.func28, Try.ntmps28
  go_wp2_with fail
  with_reducible refine (indexW_p h hs).mono ?_
  rintro e1 w1 ⟨j, rfl, g1, ⟨rfl, h2⟩ | ⟨hj, h2⟩⟩
  · go_wp2
    go_ret
    exact ⟨ret_bool (by rw [← HB.out, h2]), g1⟩
  · go_wp2
    go_ret
    exact ⟨ret_bool (by rw [← HB.out, h2]), g1⟩
theorem hasD_p {p : Nat → Prop} {v : Value} {x : Pd} {d : Int} {b : Bool} {w : World} (h : PdR w p v x) (hs : x.e.length ≤ 1000) (hb : hasD x d = b) : Calls Try.prog 26 #[v, .int .i64 d] w (RetG (.bool b) w) := by
  obtain ⟨a, c, rfl, h⟩ := h
  have HB : Hid (frB d 0 ((x.e.length : Int) - 1) = b) := Lib.hid hb
  clear hb h
  obtain ⟨n, hn⟩ : ∃ n, x.e.length = n := ⟨_, rfl⟩
  rw [hn] at HB hs ⊢
  generalize x.p = P at *
  generalize x.l = l at *
  have HG := Lib.hid ((Grew.refl w).alloc (.cells #[.slice a n c, .int .i64 P, .int .i64 l] 27))
  clear hn
  go_enter Try.func26, Try.ntmps26
  go_wp2_with fail
  with_reducible refine (isWithin_p HB.out).mono ?_
  rintro e w1 ⟨rfl, rfl⟩
  go_wp2
  go_ret
  exact ⟨rfl, HG.out⟩
set_option maxHeartbeats 2000000 in
theorem check_p {p : Nat → Prop} {v : Value} {x : Pd} {b : Bool} {w : World} (h : PdR w p v x) (hs : x.e.length ≤ 1000) (hb : okD x = b) : Calls Try.prog 14 #[v] w (RetG (.bool b) w) := by
  obtain ⟨a, c, rfl, h⟩ := h
  have HB := Lib.hid hb
  clear hb
  have HW := Lib.hid (okD_ways x)
  obtain ⟨L, P, l⟩ := x
  simp only at h hs HW ⊢
  obtain ⟨n, hn⟩ : ∃ n, L.length = n := ⟨_, rfl⟩
  have HN := Lib.hid hn
  rw [hn] at h HW ⊢
  have HZ := Lib.hid (h.grew ((Grew.refl w).alloc (.cells #[.slice a n c, .int .i64 P, .int .i64 l] 27)))
  have HG := Lib.hid ((Grew.refl w).alloc (.cells #[.slice a n c, .int .i64 P, .int .i64 l] 27))
  have HO := Lib.hid (Own.new w 27 #[.slice a n c, .int .i64 P, .int .i64 l])
  clear h hn
  rcases HW.out with ⟨e, h1⟩ | ⟨e, h1, h2⟩ | ⟨e, h1, h2, h3⟩ | ⟨e, h1, h2, h3⟩
  · have HE : Hid (b = false) := Lib.hid (HB.out.symm.trans e)
    have H1 := Lib.hid h1
    clear h1 e HW
    go_enter Try.func14, Try.ntmps14
    go_wp2_with fail
    with_reducible refine (isWithin_p H1.out).mono ?_
    rintro e w1 ⟨rfl, rfl⟩
    go_wp2
    go_ret
    exact ⟨ret_bool HE.out.symm, HG.out⟩
  · have HE : Hid (b = false) := Lib.hid (HB.out.symm.trans e)
    have H1 := Lib.hid h1
    have H2 := Lib.hid h2
    clear h1 h2 e HW
    go_enter Try.func14, Try.ntmps14
    go_wp2_with fail
    with_reducible refine (isWithin_p H1.out).mono ?_
    rintro e w1 ⟨rfl, rfl⟩
    go_wp2_with fail
    with_reducible refine (contW_p HZ.out hs H2.out).mono ?_
    rintro e w1 ⟨rfl, g1⟩
    have HG1 := Lib.hid (HG.out.trans g1)
    clear g1
    go_wp2
    go_ret
    exact ⟨ret_bool HE.out.symm, HG1.out⟩
  · have HE : Hid (b = false) := Lib.hid (HB.out.symm.trans e)
    have H1 := Lib.hid h1
    have H2 := Lib.hid h2
    have H3 := Lib.hid h3
    clear h1 h2 h3 e HW
    go_enter Try.func14, Try.ntmps14
    go_wp2_with fail
    with_reducible refine (isWithin_p H1.out).mono ?_
    rintro e w1 ⟨rfl, rfl⟩
    go_wp2_with fail
    with_reducible refine (contW_p HZ.out hs H2.out).mono ?_
    rintro e w1 ⟨rfl, g1⟩
    have HG1 := Lib.hid (HG.out.trans g1)
    obtain ⟨c0, c1, c2, -⟩ := (HO.out.grew g1).three
    clear g1
    go_wp2_with fail
    with_reducible refine (isWithin_p H3.out).mono ?_
    rintro e w1 ⟨rfl, rfl⟩
    go_wp2
    go_ret
    exact ⟨ret_bool HE.out.symm, HG1.out⟩
  · have HE : Hid (frB l 1 P = b) := Lib.hid (e.symm.trans HB.out)
    have H1 := Lib.hid h1
    have H2 := Lib.hid h2
    have H3 := Lib.hid h3
    clear h1 h2 h3 e HW
    go_enter Try.func14, Try.ntmps14
    go_wp2_with fail
    with_reducible refine (isWithin_p H1.out).mono ?_
    rintro e w1 ⟨rfl, rfl⟩
    go_wp2_with fail
    with_reducible refine (contW_p HZ.out hs H2.out).mono ?_
    rintro e w1 ⟨rfl, g1⟩
    have HG1 := Lib.hid (HG.out.trans g1)
    obtain ⟨c0, c1, c2, -⟩ := (HO.out.grew g1).three
    clear g1
    go_wp2_with fail
    with_reducible refine (isWithin_p H3.out).mono ?_
    rintro e w1 ⟨rfl, rfl⟩
    go_wp2_with fail
    with_reducible refine (isWithin_p HE.out).mono ?_
    rintro e w1 ⟨rfl, rfl⟩
    go_wp2
    go_ret
    exact ⟨rfl, HG1.out⟩
end Go.Proofs.Ytjeelciijfpdiaa
