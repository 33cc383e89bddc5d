/- AreaUndone holds: an area that is mapped and unmapped again leaves everything as it was, and what was cut out of an area is found in two parts that show the same pages. -/
import Derived.Test.YtnlhdbengppnpaaAs1
namespace Go.Mine
open Go Go.RowKit
theorem cut_same {b : Ar} {s e : Int} (hb : rtA b = true) (hse : s < e) (h : endA b ≤ s ∨ e ≤ b.s) : cutR b s e = [b] := by
  have r := rtA_iff.1 hb
  have hE : endA b = b.s + b.n := rfl
  unfold cutR
  rcases h with h | h
  · rw [if_pos (by omega), if_neg (by omega), befR_1 (by omega), Int.min_eq_left (by omega)]; rfl
  · rw [if_neg (by omega), if_pos (by omega), frmR_1 (by omega), Int.max_eq_left (by omega), Int.add_zero, Int.sub_zero, Int.add_zero]; rfl
theorem cut_gone {a : Ar} : cutR a a.s (endA a) = [] := by
  unfold cutR
  rw [if_neg (by omega), if_neg (by omega)]
  rfl
theorem wo_same {L : List Ar} {s e : Int} (hse : s < e) (h : ∀ b ∈ L, rtA b = true ∧ (endA b ≤ s ∨ e ≤ b.s)) : woR L s e = L := by
  induction L with
  | nil => rfl
  | cons b l ih =>
    obtain ⟨h1, h2⟩ := h b (List.mem_cons_self ..)
    rw [woR_cons, cut_same h1 hse h2, ih (fun c hc => h c (List.mem_cons_of_mem _ hc))]
    rfl
theorem wo_ins {L : List Ar} {a : Ar} (hL : ∀ b ∈ L, rtA b = true) (ha : rtA a = true) (ho : ovR L a = false) : woR (insR L a) a.s (endA a) = L := by
  have r := rtA_iff.1 ha
  have hE : endA a = a.s + a.n := rfl
  have hs : ∀ M : List Ar, (∀ b ∈ M, b ∈ L) → woR M a.s (endA a) = M := fun M hM => wo_same (by omega) fun b hb => ⟨hL b (hM b hb), by
    have h1 := ovR_mem ho (hM b hb)
    by_cases h : endA b ≤ a.s
    · exact .inl h
    · refine .inr ?_
      by_cases h2 : endA a ≤ b.s
      · exact h2
      · rw [ovA_iff.2 (by omega)] at h1; cases h1⟩
  unfold insR
  rw [woR_app, woR_cons, cut_gone, List.nil_append, hs _ (fun b hb => List.mem_of_mem_take hb), hs _ (fun b hb => List.mem_of_mem_drop hb), List.take_append_drop]
theorem mem_rt {L : List Ar} (h : okR L = true) : ∀ b ∈ L, rtA b = true := fun _ hb => (chR_mem (okR_iff.1 h).2 hb).1
/-- Mapped and unmapped again. -/
theorem und1 {L : List Ar} {a : Ar} (h : eM L a = 0) : unmR (insR L a) a.s a.n = (L, 0) := by
  obtain ⟨h1, h2, h3, h4⟩ := eM_ok h
  have r := rtA_iff.1 h2
  have hw : woR (insR L a) a.s (a.s + a.n) = L := wo_ins (mem_rt h1) h2 h3
  have he : eU (insR L a) a.s a.n = 0 := eU_0 (ins_ok h) (inB_iff.2 r.1)
  rw [unmR_0 he (by rw [hw]; omega), hw]
theorem ch_lt : ∀ {L : List Ar} {lo : Int} {i j : Nat}, chR lo L = true → i < j → j < L.length → endA (L.getD i zR) ≤ (L.getD j zR).s
  | [], _, _, _, _, _, hj => absurd hj (by simp)
  | a :: l, lo, i, j, h, hij, hj => by
    obtain ⟨h1, h2, h3⟩ := chR_cons.1 h
    obtain ⟨j, rfl⟩ : ∃ j', j = j' + 1 := ⟨j - 1, by omega⟩
    have hj' : j < l.length := by simpa using hj
    rcases i with _ | i
    · have := (chR_mem h3 (a := l[j]) (List.getElem_mem hj')).2
      rw [← rD hj'] at this
      exact this
    · have q := ch_lt (L := l) (i := i) (j := j) h3 (by omega) hj'
      exact q
/-- A page is cut out of an area. -/
theorem und2 {L : List Ar} (h : okR L = true) (h8 : L.length < 8) {k : Nat} (hk : k < L.length) {a : Ar} (ha : L.getD k zR = a) {x : Int} (h1 : a.s < x) (h2 : x + 1 < endA a) :
    ∃ Y, unmR L x 1 = (Y, 0) ∧ Y.length = L.length + 1 ∧ okR Y = true ∧ fdX Y (x - 1) = (⟨a.s, x - a.s, a.f, a.p, a.w⟩, true) ∧ fdX Y (x + 1) = (⟨x + 1, a.s + a.n - x - 1, a.f, a.p + x + 1 - a.s, a.w⟩, true) ∧ fdX Y x = (zR, false) := by
  have hc := (okR_iff.1 h).2
  have r := rtD' h hk
  rw [ha] at r
  have hE : endA a = a.s + a.n := rfl
  have hsplit : L = L.take k ++ a :: L.drop (k + 1) := by
    have e : L.drop k = L.getD k zR :: L.drop (k + 1) := by rw [rD hk]; exact List.drop_eq_getElem_cons hk
    rw [← ha, ← e, List.take_append_drop]
  have hlo : ∀ b ∈ L.take k, rtA b = true ∧ endA b ≤ a.s := fun b hb => ⟨mem_rt h b (List.mem_of_mem_take hb), by
    obtain ⟨i, hi, rfl⟩ := List.getElem_of_mem hb
    rw [List.length_take] at hi
    have := ch_lt hc (show i < k by omega) hk
    rw [ha, rD (by omega)] at this
    rw [List.getElem_take]
    exact this⟩
  have hhi : ∀ b ∈ L.drop (k + 1), rtA b = true ∧ endA a ≤ b.s := fun b hb => ⟨mem_rt h b (List.mem_of_mem_drop hb), by
    obtain ⟨i, hi, rfl⟩ := List.getElem_of_mem hb
    rw [List.length_drop] at hi
    have := ch_lt hc (show k < k + 1 + i by omega) (show k + 1 + i < L.length by omega)
    rw [ha, rD (show k + 1 + i < L.length by omega)] at this
    rw [List.getElem_drop]
    exact this⟩
  have hcut : cutR a x (x + 1) = [⟨a.s, x - a.s, a.f, a.p, a.w⟩, ⟨x + 1, a.s + a.n - x - 1, a.f, a.p + x + 1 - a.s, a.w⟩] := by
    unfold cutR
    rw [if_pos h1, if_pos h2, befR_1 h1, frmR_1 h2, Int.min_eq_right (by omega), Int.max_eq_right (by omega)]
    show [_, _] = [_, _]
    congr 2
    · congr 1 <;> omega
  have hY : woR L x (x + 1) = L.take k ++ ([⟨a.s, x - a.s, a.f, a.p, a.w⟩, ⟨x + 1, a.s + a.n - x - 1, a.f, a.p + x + 1 - a.s, a.w⟩] ++ L.drop (k + 1)) := by
    rw [hsplit]
    rw [woR_app, woR_cons, hcut]
    have e1 : (L.take k ++ a :: L.drop (k + 1)).take k = L.take k := by rw [← hsplit]
    have e2 : (L.take k ++ a :: L.drop (k + 1)).drop (k + 1) = L.drop (k + 1) := by rw [← hsplit]
    rw [e1, e2, wo_same (by omega) (fun b hb => ⟨(hlo b hb).1, .inl (by have := (hlo b hb).2; omega)⟩), wo_same (by omega) (fun b hb => ⟨(hhi b hb).1, .inr (by have := (hhi b hb).2; omega)⟩)]
  have hlen : (woR L x (x + 1)).length = L.length + 1 := by
    rw [hY]
    simp
    omega
  have he : eU L x 1 = 0 := eU_0 h (inB_iff.2 (by omega))
  have hu : unmR L x 1 = (woR L x (x + 1), 0) := unmR_0 he (by rw [hlen]; omega)
  have hok : okR (woR L x (x + 1)) = true := by have := unmR_ok (s := x) (n := 1) h; rw [hu] at this; exact this
  have hpre : ∀ q, a.s ≤ q → findR (L.take k) q = none := fun q hq => findR_none.2 fun j hj => by
    have := (hlo ((L.take k)[j]) (List.getElem_mem hj)).2
    rw [rD hj]
    exact hitR_no (.inr (by omega))
  refine ⟨_, hu, hlen, hok, ?_, ?_, ?_⟩
  · refine fdX_s ?_
    rw [fndR_1 hok, hY, findR_app, hpre _ (by omega), Option.none_or]
    exact findR_y (hitR_iff.2 (by unfold endA; simp only; omega))
  · refine fdX_s ?_
    rw [fndR_1 hok, hY, findR_app, hpre _ (by omega), Option.none_or]
    show findR (_ :: _ :: _) _ = _
    rw [findR_n (hitR_no (.inr (by unfold endA; simp only; omega)))]
    exact findR_y (hitR_iff.2 (by unfold endA; simp only; omega))
  · have := (fndR_unm (L := L) (s := x) (n := 1) (by rw [hu]) x).1 (by omega)
    rw [hu] at this
    exact fdX_n this
end Go.Mine
namespace Go.Proofs.Ytnlhdbengppnpaa
open Go.ChangeShapes Go.WideShapes Go.ChangeAt Go.RowKit Go.Mine

set_option maxRecDepth 100000 in
set_option maxHeartbeats 16000000 in
theorem undone_core (A : Option Addr) (c : Nat) (xs : List Int) (A2 : Option Addr) (c2 : Nat) (xs2 : List Int) (w : World) (hr : IntRow w A xs) (hm : xs.length ≤ maxLen) (hr2 : IntRow w A2 xs2) (hm2 : xs2.length ≤ maxLen) :
    Calls Try.prog 6 #[.slice A xs.length c, .slice A2 xs2.length c2] w (RetG (.bool true) w) := by
  have tp := Tp.made hr hm c 25
  have gA := (Grew.refl w).alloc (.cells #[.slice A xs.length c, .int .i64 0] 25)
  have hbw : w.heap.size + 1 ≤ (w.alloc (.cells #[.slice A xs.length c, .int .i64 0] 25)).heap.size := by simp
  have HR2 := Lib.hid hr2
  have HM2 := Lib.hid hm2
  clear hr hm hr2 hm2
  generalize hX : xs.length = X at *
  clear hX
  obtain ⟨X2, hX2⟩ : ∃ X2, xs2.length = X2 := ⟨_, rfl⟩
  have HX2 := Lib.hid hX2
  rw [hX2]
  clear hX2
  go_enter Try.func6, Try.ntmps6
  go_wp2_with fail
  with_reducible refine (areas_x _ _ _ tp hbw).mono ?_
  rintro e w1 ⟨v, L, rfl, hok, R1, T1, g1⟩
  have HG1 := Lib.hid (gA.past g1 (Nat.le_refl _))
  have HR1 := Lib.hid R1
  have HOK := Lib.hid hok
  have HS := Lib.hid (okR_sm hok)
  have tp2 := Tp.made (HR2.out.grew HG1.out) HM2.out c2 25
  rw [HX2.out] at tp2
  have hsz := HG1.out.size
  have G2 := (Grew.refl w1).alloc (.cells #[.slice A2 X2 c2, .int .i64 0] 25)
  have hbw2 : w1.heap.size + 1 ≤ (w1.alloc (.cells #[.slice A2 X2 c2, .int .i64 0] 25)).heap.size := by simp
  clear gA tp g1 R1 T1 hbw hok HR2 HM2 HX2
  go_wp2_with fail
  with_reducible refine (next_x _ _ _ _ (by omega) (by omega) tp2).mono ?_
  rintro e w3 ⟨q, q0, q1, rfl, T3, g3⟩
  have HG3 := Lib.hid (G2.past g3 (Nat.le_refl _))
  have HR3 := Lib.hid (HR1.out.grew HG3.out)
  obtain ⟨n, hn⟩ : ∃ n, 1 + q = n := ⟨_, rfl⟩
  have hwq : IntKind.i64.wrap (1 + q) = n := by rw [IntWalk.i64_in _ (by omega), hn]
  have hn0 : 1 ≤ n := by omega
  have hn1 : n ≤ 5 := by omega
  clear g3 tp2 G2 hbw2 hn
  obtain ⟨⟨p, ok⟩, hp⟩ : ∃ x, rmR L n = x := ⟨_, rfl⟩
  have HP := Lib.hid hp
  have h8 := (okR_iff.1 HOK.out).1
  obtain ⟨a0, c0, rfl, -, -⟩ := HR3.out.slice
  have HRM := Lib.hid (room_p HR3.out HS.out HP.out)
  obtain ⟨N, hN⟩ : ∃ N, L.length = N := ⟨_, rfl⟩
  have HN := Lib.hid hN
  rw [hN] at HRM HR1 HR3 h8 ⊢
  clear hN hp q0 q1
  cases ok
  · go_wp2_with fail
    with_reducible refine HRM.out.mono ?_
    rintro e9 w4 ⟨rfl, g4⟩
    have HGX := Lib.hid (HG3.out.trans g4)
    have TX := T3.grew g4
    clear g4 T3 HR3 HG3 HRM
    have HRX := Lib.hid (HR1.out.grew HGX.out)
    have hsX := HGX.out.size
    by_cases hz0 : N = 0
    · subst hz0
      try rw [show ((0 : Nat) : Int) = 0 from rfl]
      go_wp2_with fail
      with_reducible refine (awake_any _).mono ?_
      rintro e9 w5 ⟨rfl, g5⟩
      have HGY := Lib.hid (HG1.out.trans (HGX.out.trans g5))
      go_wp2
      go_ret
      exact ⟨rfl, HGY.out⟩
    have hz0' : ((N : Int) == 0) = false := beq_false_of_ne (by omega)
    by_cases hz8 : N = 8
    · subst hz8
      try rw [show ((8 : Nat) : Int) = 8 from rfl]
      go_wp2_with fail
      with_reducible refine (awake_any _).mono ?_
      rintro e9 w5 ⟨rfl, g5⟩
      have HGY := Lib.hid (HG1.out.trans (HGX.out.trans g5))
      go_wp2
      go_ret
      exact ⟨rfl, HGY.out⟩
    have hz8' : ((N : Int) == 8) = false := beq_false_of_ne (by omega)
    have hpi0 : (1 : Int) ≤ (N : Int) := by omega
    have hpi1 : (N : Int) ≤ 1000000 := by omega
    go_wp2_with fail
    with_reducible refine (next_x _ _ _ _ hpi0 hpi1 TX).mono ?_
    rintro e9 w9 ⟨q9, c1, c2, rfl, T9, g9⟩
    obtain ⟨k, rfl⟩ := Int.eq_ofNat_of_zero_le c1
    have HG9 := Lib.hid (HGX.out.past g9 (Nat.le_refl _))
    have HR9 := Lib.hid (HR1.out.grew HG9.out)
    have hs9 := HG9.out.size
    have hkl : k < L.length := by rw [HN.out]; omega
    have hkk : (0 : Int) ≤ (k : Int) := by omega
    obtain ⟨ga, oa, rfl, -, hga, y0, y1, y2, y3, y4⟩ := HR9.out.at5 hkl
    obtain ⟨a, ha⟩ : ∃ a, L.getD k zR = a := ⟨_, rfl⟩
    rw [show L.getD k (⟨0, 0, 0, 0, false⟩ : Ar) = a from ha] at y0 y1 y2 y3 y4
    have HAK := Lib.hid ha
    have ra := rtD' HOK.out hkl
    rw [ha] at ra
    have HB10 := Lib.hid (Own.new w9 30 #[.int .i64 a.s, .int .i64 a.n, .int .i64 a.f, .int .i64 a.p, .bool a.w])
    have HG10 := Lib.hid (HG9.out.alloc (.cells #[.int .i64 a.s, .int .i64 a.n, .int .i64 a.f, .int .i64 a.p, .bool a.w] 30))
    have T10 := T9.alloc (.cells #[.int .i64 a.s, .int .i64 a.n, .int .i64 a.f, .int .i64 a.p, .bool a.w] 30)
    have hb10 : w1.heap.size + 1 ≤ (w9.alloc (.cells #[.int .i64 a.s, .int .i64 a.n, .int .i64 a.f, .int .i64 a.p, .bool a.w] 30)).heap.size := by have := T10.lt; omega
    have hbb : w1.heap.size < w9.heap.size := T9.lt
    clear g9 ha TX HGX HRX hsX
    by_cases h3 : a.n < 3
    · go_wp2_with fail
      with_reducible refine (awake_any _).mono ?_
      rintro e9 w11 ⟨rfl, g11⟩
      have HGY := Lib.hid (HG1.out.trans (HG10.out.trans g11))
      go_wp2
      go_ret
      exact ⟨rfl, HGY.out⟩
    have h3' : decide (a.n < 3) = false := decide_eq_false h3
    have hv1 : IntKind.i64.wrap (a.s + 1) = a.s + 1 := IntWalk.i64_in _ (by omega)
    have hv2 : IntKind.i64.wrap (a.n - 2) = a.n - 2 := IntWalk.i64_in _ (by omega)
    go_upto_region 15 with fail
    obtain ⟨x0, x1, x2, x3, x4⟩ := HB10.out.five
    generalize w9.alloc (.cells #[.int .i64 a.s, .int .i64 a.n, .int .i64 a.f, .int .i64 a.p, .bool a.w] 30) = w10 at *
    obtain ⟨bb, hbe⟩ : ∃ b, w9.heap.size = b := ⟨_, rfl⟩
    generalize w9.heap.size = bb' at *
    subst hbe
    generalize bb' = bb at *
    refine wp_region_held_drew (S := fun w' => w'.cell? ⟨bb, 0, none⟩ = some (.int .i64 a.s) ∧ w'.cell? ⟨bb, 1, none⟩ = some (.int .i64 a.n)) (by kernel_rfl) ?_ (fun hHeld => ?_)
    · (try dsimp only); (refine ⟨?_, ?_⟩ <;> (repeat (first | (with_reducible assumption) | (with_reducible refine far_drew ?_))))
    first | refine wpAnyH_take (i := 0) (v := undef) rfl (by kernel_rfl) (by kernel_rfl) (by kernel_rfl) (fun _ _ _ h => h) (Or.inr ⟨by rfl, rfl⟩) (by assumption) ?_ | (refine' wpAnyH_take (i := 0) (v := _) rfl (by kernel_rfl) (by kernel_rfl) (by kernel_rfl) (fun _ _ _ h => h) (Or.inl ⟨by rfl, ?hy0a⟩) (by assumption) ?rest0a; case hy0a => (intro w hSw; (try dsimp only at hSw); (first | (go_simp; done) | (go_simp; with_reducible rfl))))
    try simp only [Act.put, List.setIfInBounds_toArray, List.set_cons_zero, List.set_cons_succ, List.getElem_toArray, List.getElem_cons_zero, List.getElem_cons_succ]
    first | refine wpAnyH_take (i := 1) (v := undef) rfl (by kernel_rfl) (by kernel_rfl) (by kernel_rfl) (fun _ _ _ h => h) (Or.inr ⟨by rfl, rfl⟩) (by assumption) ?_ | (refine' wpAnyH_take (i := 1) (v := _) rfl (by kernel_rfl) (by kernel_rfl) (by kernel_rfl) (fun _ _ _ h => h) (Or.inl ⟨by rfl, ?hy1a⟩) (by assumption) ?rest1a; case hy1a => (intro w hSw; (try dsimp only at hSw); (first | (go_simp; done) | (go_simp; with_reducible rfl))))
    try simp only [Act.put, List.setIfInBounds_toArray, List.set_cons_zero, List.set_cons_succ, List.getElem_toArray, List.getElem_cons_zero, List.getElem_cons_succ]
    first | refine wpAnyH_take (i := 2) (v := undef) rfl (by kernel_rfl) (by kernel_rfl) (by kernel_rfl) (fun _ _ _ h => h) (Or.inr ⟨by rfl, rfl⟩) (by assumption) ?_ | (refine' wpAnyH_take (i := 2) (v := _) rfl (by kernel_rfl) (by kernel_rfl) (by kernel_rfl) (fun _ _ _ h => h) (Or.inl ⟨by rfl, ?hy2a⟩) (by assumption) ?rest2a; case hy2a => (intro w hSw; (try dsimp only at hSw); (first | (go_simp; done) | (go_simp; with_reducible rfl))))
    try simp only [Act.put, List.setIfInBounds_toArray, List.set_cons_zero, List.set_cons_succ, List.getElem_toArray, List.getElem_cons_zero, List.getElem_cons_succ]
    first | refine wpAnyH_take (i := 3) (v := undef) rfl (by kernel_rfl) (by kernel_rfl) (by kernel_rfl) (fun _ _ _ h => h) (Or.inr ⟨by rfl, rfl⟩) (by assumption) ?_ | (refine' wpAnyH_take (i := 3) (v := _) rfl (by kernel_rfl) (by kernel_rfl) (by kernel_rfl) (fun _ _ _ h => h) (Or.inl ⟨by rfl, ?hy3a⟩) (by assumption) ?rest3a; case hy3a => (intro w hSw; (try dsimp only at hSw); (first | (go_simp; done) | (go_simp; with_reducible rfl))))
    try simp only [Act.put, List.setIfInBounds_toArray, List.set_cons_zero, List.set_cons_succ, List.getElem_toArray, List.getElem_cons_zero, List.getElem_cons_succ]
    first | refine wpAnyH_take (i := 4) (v := undef) rfl (by kernel_rfl) (by kernel_rfl) (by kernel_rfl) (fun _ _ _ h => h) (Or.inr ⟨by rfl, rfl⟩) (by assumption) ?_ | (refine' wpAnyH_take (i := 4) (v := _) rfl (by kernel_rfl) (by kernel_rfl) (by kernel_rfl) (fun _ _ _ h => h) (Or.inl ⟨by rfl, ?hy4a⟩) (by assumption) ?rest4a; case hy4a => (intro w hSw; (try dsimp only at hSw); (first | (go_simp; done) | (go_simp; with_reducible rfl))))
    try simp only [Act.put, List.setIfInBounds_toArray, List.set_cons_zero, List.set_cons_succ, List.getElem_toArray, List.getElem_cons_zero, List.getElem_cons_succ]
    first | refine wpAnyH_take (i := 5) (v := undef) rfl (by kernel_rfl) (by kernel_rfl) (by kernel_rfl) (fun _ _ _ h => h) (Or.inr ⟨by rfl, rfl⟩) (by assumption) ?_ | (refine' wpAnyH_take (i := 5) (v := _) rfl (by kernel_rfl) (by kernel_rfl) (by kernel_rfl) (fun _ _ _ h => h) (Or.inl ⟨by rfl, ?hy5a⟩) (by assumption) ?rest5a; case hy5a => (intro w hSw; (try dsimp only at hSw); (first | (go_simp; done) | (go_simp; with_reducible rfl))))
    try simp only [Act.put, List.setIfInBounds_toArray, List.set_cons_zero, List.set_cons_succ, List.getElem_toArray, List.getElem_cons_zero, List.getElem_cons_succ]
    first | refine wpAnyH_take (i := 6) (v := undef) rfl (by kernel_rfl) (by kernel_rfl) (by kernel_rfl) (fun _ _ _ h => h) (Or.inr ⟨by rfl, rfl⟩) (by assumption) ?_ | (refine' wpAnyH_take (i := 6) (v := _) rfl (by kernel_rfl) (by kernel_rfl) (by kernel_rfl) (fun _ _ _ h => h) (Or.inl ⟨by rfl, ?hy6a⟩) (by assumption) ?rest6a; case hy6a => (intro w hSw; (try dsimp only at hSw); (first | (go_simp; done) | (go_simp; with_reducible rfl))))
    try simp only [Act.put, List.setIfInBounds_toArray, List.set_cons_zero, List.set_cons_succ, List.getElem_toArray, List.getElem_cons_zero, List.getElem_cons_succ]
    refine wpAnyH_ready (rs := [7]) (by kernel_rfl) (by simp) ?_
    refine AllReadyH.cons rfl (fun K hK => ?_) AllReadyH.nil
    try simp only [Act.put, List.setIfInBounds_toArray, List.set_cons_zero, List.set_cons_succ, List.getElem_toArray, List.getElem_cons_zero, List.getElem_cons_succ]
    go_simp; go_at_call 8; (with_reducible refine (next_x _ _ _ _ (by omega) (by omega) T10.drew).mono ?_); rintro e9 w11 ⟨q11, d0, d1, rfl, T11, g11⟩; have HB11 := Lib.hid (HB10.out.drew.past g11 (by omega)); have HG11 := Lib.hid (HG10.out.drew.past g11 (by omega)); obtain ⟨x0, x1, x2, x3, x4⟩ := HB11.out.five
    refine hK.out _ _ ?_ (fun hHeld => ?_)
    · (try dsimp only); (refine ⟨?_, ?_⟩ <;> (repeat (first | (with_reducible assumption) | (with_reducible refine far_drew ?_))))
    clear hK K
    try simp only [Act.put, List.setIfInBounds_toArray, List.set_cons_zero, List.set_cons_succ, List.getElem_toArray, List.getElem_cons_zero, List.getElem_cons_succ]
    first | refine wpAnyH_take (i := 8) (v := undef) rfl (by kernel_rfl) (by kernel_rfl) (by kernel_rfl) (fun _ _ _ h => h) (Or.inr ⟨by rfl, rfl⟩) (by assumption) ?_ | (refine' wpAnyH_take (i := 8) (v := _) rfl (by kernel_rfl) (by kernel_rfl) (by kernel_rfl) (fun _ _ _ h => h) (Or.inl ⟨by rfl, ?hy8a⟩) (by assumption) ?rest8a; case hy8a => (intro w hSw; (try dsimp only at hSw); (first | (go_simp; done) | (go_simp; with_reducible rfl))))
    try simp only [Act.put, List.setIfInBounds_toArray, List.set_cons_zero, List.set_cons_succ, List.getElem_toArray, List.getElem_cons_zero, List.getElem_cons_succ]
    first | refine wpAnyH_take (i := 9) (v := undef) rfl (by kernel_rfl) (by kernel_rfl) (by kernel_rfl) (fun _ _ _ h => h) (Or.inr ⟨by rfl, rfl⟩) (by assumption) ?_ | (refine' wpAnyH_take (i := 9) (v := _) rfl (by kernel_rfl) (by kernel_rfl) (by kernel_rfl) (fun _ _ _ h => h) (Or.inl ⟨by rfl, ?hy9a⟩) (by assumption) ?rest9a; case hy9a => (intro w hSw; (try dsimp only at hSw); (first | (go_simp; done) | (go_simp; with_reducible rfl))))
    try simp only [Act.put, List.setIfInBounds_toArray, List.set_cons_zero, List.set_cons_succ, List.getElem_toArray, List.getElem_cons_zero, List.getElem_cons_succ]
    refine wpAnyH_done (by kernel_rfl) ?_ _
    have hv3 : IntKind.i64.wrap (a.s + 1 + q11) = a.s + 1 + q11 := IntWalk.i64_in _ (by omega)
    obtain ⟨x, hx⟩ : ∃ x, a.s + 1 + q11 = x := ⟨_, rfl⟩
    rw [hv3, hx]
    have hx0 : a.s < x := by omega
    have hx2 : x + 1 < a.s + a.n := by omega
    have hx1 : x + 1 < endA a := hx2
    obtain ⟨Y, u1, u2, u3, u4, u5, u6⟩ := und2 HOK.out (by rw [HN.out]; omega) hkl HAK.out hx0 hx1
    have HU1 := Lib.hid u1
    have HU3 := Lib.hid (okR_sm u3)
    have HU4 := Lib.hid u4
    have HU5 := Lib.hid u5
    have HU6 := Lib.hid u6
    have HYL : Hid (Y.length = N + 1) := Lib.hid (by rw [u2, HN.out])
    have HR11 := Lib.hid (HR1.out.grew HG11.out)
    have hvm : IntKind.i64.wrap (x - 1) = x - 1 := IntWalk.i64_in _ (by omega)
    have hvp : IntKind.i64.wrap (x + 1) = x + 1 := IntWalk.i64_in _ (by omega)
    clear u1 u2 u3 u4 u5 u6 hHeld hv3 g11 HR9 HG9 HG10 HB10 T10 y0 y1 y2 y3 y4 x0 x1 x2 x3 x4 hx d0 d1 T11 hb10 hx1
    go_wp2_with fail
    with_reducible refine (unmap_p HR11.out (Nat.zero_le _) HS.out (by omega)).mono ?_
    rw [HU1.out]
    rintro e9 w12 ⟨vu, rfl, R12, g12⟩
    have HY12 := Lib.hid R12
    have HG12 := Lib.hid (HG11.out.trans g12)
    have HB12 := Lib.hid (HB11.out.grew g12)
    clear R12 g12 HG11 HB11 HR11
    go_wp2_with fail
    with_reducible refine (find_p HY12.out HU3.out HU4.out).mono ?_
    rintro e9 w13 ⟨rfl, g13⟩
    have HY13 := Lib.hid ((HY12.out.grew g13).alloc (.cells #[.int .i64 a.s, .int .i64 (x - a.s), .int .i64 a.f, .int .i64 a.p, .bool a.w] 30))
    have HG13 := Lib.hid ((HG12.out.trans g13).alloc (.cells #[.int .i64 a.s, .int .i64 (x - a.s), .int .i64 a.f, .int .i64 a.p, .bool a.w] 30))
    have HB13 := Lib.hid ((HB12.out.grew g13).alloc (.cells #[.int .i64 a.s, .int .i64 (x - a.s), .int .i64 a.f, .int .i64 a.p, .bool a.w] 30))
    have HP13 := Lib.hid (Own.new w13 30 #[.int .i64 a.s, .int .i64 (x - a.s), .int .i64 a.f, .int .i64 a.p, .bool a.w])
    clear g13 HY12 HG12 HB12
    go_wp2_with fail
    with_reducible refine (find_p HY13.out HU3.out HU5.out).mono ?_
    rintro e9 w14 ⟨rfl, g14⟩
    have HY14 := Lib.hid ((HY13.out.grew g14).alloc (.cells #[.int .i64 (x + 1), .int .i64 (a.s + a.n - x - 1), .int .i64 a.f, .int .i64 (a.p + x + 1 - a.s), .bool a.w] 30))
    have HG14 := Lib.hid ((HG13.out.trans g14).alloc (.cells #[.int .i64 (x + 1), .int .i64 (a.s + a.n - x - 1), .int .i64 a.f, .int .i64 (a.p + x + 1 - a.s), .bool a.w] 30))
    have HB14 := Lib.hid ((HB13.out.grew g14).alloc (.cells #[.int .i64 (x + 1), .int .i64 (a.s + a.n - x - 1), .int .i64 a.f, .int .i64 (a.p + x + 1 - a.s), .bool a.w] 30))
    have HP14 := Lib.hid ((HP13.out.grew g14).alloc (.cells #[.int .i64 (x + 1), .int .i64 (a.s + a.n - x - 1), .int .i64 a.f, .int .i64 (a.p + x + 1 - a.s), .bool a.w] 30))
    have HQ14 := Lib.hid (Own.new w14 30 #[.int .i64 (x + 1), .int .i64 (a.s + a.n - x - 1), .int .i64 a.f, .int .i64 (a.p + x + 1 - a.s), .bool a.w])
    clear g14 HY13 HG13 HB13 HP13
    go_wp2_with fail
    with_reducible refine (find_p HY14.out HU3.out HU6.out).mono ?_
    rintro e9 w15 ⟨rfl, g15⟩
    have HY15 := Lib.hid ((HY14.out.grew g15).alloc (.cells #[.int .i64 0, .int .i64 0, .int .i64 0, .int .i64 0, .bool false] 30))
    have HG15 := Lib.hid ((HG14.out.trans g15).alloc (.cells #[.int .i64 0, .int .i64 0, .int .i64 0, .int .i64 0, .bool false] 30))
    have HB15 := Lib.hid ((HB14.out.grew g15).alloc (.cells #[.int .i64 0, .int .i64 0, .int .i64 0, .int .i64 0, .bool false] 30))
    have HP15 := Lib.hid ((HP14.out.grew g15).alloc (.cells #[.int .i64 0, .int .i64 0, .int .i64 0, .int .i64 0, .bool false] 30))
    have HQ15 := Lib.hid ((HQ14.out.grew g15).alloc (.cells #[.int .i64 0, .int .i64 0, .int .i64 0, .int .i64 0, .bool false] 30))
    clear g15 HY14 HG14 HB14 HP14 HQ14
    obtain ⟨x0, x1, x2, x3, x4⟩ := HB15.out.five
    obtain ⟨p0, p1, p2, p3, p4⟩ := HP15.out.five
    obtain ⟨z0, z1, z2, z3, z4⟩ := HQ15.out.five
    obtain ⟨ay, cy, rfl, -, -⟩ := HY15.out.slice
    rw [HYL.out]
    have hv4 : IntKind.i64.wrap (x - a.s) = x - a.s := IntWalk.i64_in _ (by omega)
    have hv5 : IntKind.i64.wrap (a.p + x) = a.p + x := IntWalk.i64_in _ (by omega)
    have hv6 : IntKind.i64.wrap (a.p + x + 1) = a.p + x + 1 := IntWalk.i64_in _ (by omega)
    have hv7 : IntKind.i64.wrap (a.p + x + 1 - a.s) = a.p + x + 1 - a.s := IntWalk.i64_in _ (by omega)
    have hv8 : IntKind.i64.wrap (a.s + a.n) = a.s + a.n := IntWalk.i64_in _ (by omega)
    have hv9 : IntKind.i64.wrap (a.s + a.n - x) = a.s + a.n - x := IntWalk.i64_in _ (by omega)
    have hv10 : IntKind.i64.wrap (a.s + a.n - x - 1) = a.s + a.n - x - 1 := IntWalk.i64_in _ (by omega)
    have hv11 : IntKind.i64.wrap ((N : Int) + 1) = (N : Int) + 1 := IntWalk.i64_in _ (by omega)
    go_wp2_with fail
    with_reducible refine (awake_any _).mono ?_
    rintro e9 w16 ⟨rfl, g16⟩
    have HGY := Lib.hid (HG1.out.trans (HG15.out.trans g16))
    clear g16
    go_wp2
    go_ret
    exact ⟨by simp, HGY.out⟩
  · by_cases hN8 : N = 8
    · subst hN8
      go_wp2_with fail
      with_reducible refine HRM.out.mono ?_
      rintro e9 w4 ⟨rfl, g4⟩
      have HGX := Lib.hid (HG3.out.trans g4)
      clear g4
      go_wp2_with fail
      with_reducible refine (awake_any _).mono ?_
      rintro e9 w5 ⟨rfl, g5⟩
      have HGY := Lib.hid (HG1.out.trans (HGX.out.trans g5))
      go_wp2
      go_ret
      exact ⟨rfl, HGY.out⟩
    · have hN8l : (N : Int) < 8 := by omega
      obtain ⟨r1, r2, r3, r4⟩ := rmR_room HOK.out HP.out
      have hem : eM L ⟨p, n, 7, 0, false⟩ = 0 := eM_0 HOK.out (rtA_iff.2 ⟨⟨r2, hn0, r3⟩, by simp only; omega, Int.le_refl _, by simp only; omega⟩) (r4 _ rfl rfl) (by rw [HN.out]; exact hN8)
      have HM := Lib.hid (mapR_0 hem)
      have HOK2 := Lib.hid (ins_ok hem)
      have HUN : Hid (unmR (insR L ⟨p, n, 7, 0, false⟩) p n = (L, 0)) := Lib.hid (und1 hem)
      clear r4 hem
      go_wp2_with fail
      with_reducible refine HRM.out.mono ?_
      rintro e9 w4 ⟨rfl, g4⟩
      have HG4 := Lib.hid (HG3.out.trans g4)
      have HR4 := Lib.hid (HR3.out.grew g4)
      have T4 := T3.grew g4
      clear g4 HG3 HR3 T3 HRM
      go_wp2_with fail
      with_reducible refine (map_p (a := ⟨p, n, 7, 0, false⟩) HR4.out (Nat.zero_le _) HS.out (show n ≤ _ by omega)).mono ?_
      rw [HM.out]
      rintro e9 w5 ⟨vy, rfl, R5, g5⟩
      have HG5 := Lib.hid (HG4.out.trans g5)
      have HR5 := Lib.hid (HR4.out.grew g5)
      have T5 := T4.grew g5
      have HY5 := Lib.hid R5
      clear g5 HG4 HR4 T4 R5
      go_wp2_with fail
      with_reducible refine (unmap_p HY5.out (Nat.zero_le _) (okR_sm HOK2.out) (by omega)).mono ?_
      rw [HUN.out]
      rintro e9 w6 ⟨vz, rfl, R6, g6⟩
      have HG6 := Lib.hid (HG5.out.trans g6)
      have HR6 := Lib.hid (RdS.wider (HR5.out.grew g6) (Nat.zero_le _))
      have T6 := T5.grew g6
      have HZ6 := Lib.hid R6
      clear g6 HG5 HR5 T5 R6 HY5
      go_wp2_with fail
      with_reducible refine (same_q HZ6.out HR6.out (by rw [HN.out]; omega)).mono ?_
      rintro e9 w7 ⟨rfl, g7⟩
      have HGX := Lib.hid (HG6.out.trans g7)
      have TX := T6.grew g7
      clear g7 HG6 HR6 T6 HZ6 hN8l hN8
      have HRX := Lib.hid (HR1.out.grew HGX.out)
      have hsX := HGX.out.size
      by_cases hz0 : N = 0
      · subst hz0
        try rw [show ((0 : Nat) : Int) = 0 from rfl]
        go_wp2_with fail
        with_reducible refine (awake_any _).mono ?_
        rintro e9 w5 ⟨rfl, g5⟩
        have HGY := Lib.hid (HG1.out.trans (HGX.out.trans g5))
        go_wp2
        go_ret
        exact ⟨rfl, HGY.out⟩
      have hz0' : ((N : Int) == 0) = false := beq_false_of_ne (by omega)
      by_cases hz8 : N = 8
      · subst hz8
        try rw [show ((8 : Nat) : Int) = 8 from rfl]
        go_wp2_with fail
        with_reducible refine (awake_any _).mono ?_
        rintro e9 w5 ⟨rfl, g5⟩
        have HGY := Lib.hid (HG1.out.trans (HGX.out.trans g5))
        go_wp2
        go_ret
        exact ⟨rfl, HGY.out⟩
      have hz8' : ((N : Int) == 8) = false := beq_false_of_ne (by omega)
      have hpi0 : (1 : Int) ≤ (N : Int) := by omega
      have hpi1 : (N : Int) ≤ 1000000 := by omega
      go_wp2_with fail
      with_reducible refine (next_x _ _ _ _ hpi0 hpi1 TX).mono ?_
      rintro e9 w9 ⟨q9, c1, c2, rfl, T9, g9⟩
      obtain ⟨k, rfl⟩ := Int.eq_ofNat_of_zero_le c1
      have HG9 := Lib.hid (HGX.out.past g9 (Nat.le_refl _))
      have HR9 := Lib.hid (HR1.out.grew HG9.out)
      have hs9 := HG9.out.size
      have hkl : k < L.length := by rw [HN.out]; omega
      have hkk : (0 : Int) ≤ (k : Int) := by omega
      obtain ⟨ga, oa, rfl, -, hga, y0, y1, y2, y3, y4⟩ := HR9.out.at5 hkl
      obtain ⟨a, ha⟩ : ∃ a, L.getD k zR = a := ⟨_, rfl⟩
      rw [show L.getD k (⟨0, 0, 0, 0, false⟩ : Ar) = a from ha] at y0 y1 y2 y3 y4
      have HAK := Lib.hid ha
      have ra := rtD' HOK.out hkl
      rw [ha] at ra
      have HB10 := Lib.hid (Own.new w9 30 #[.int .i64 a.s, .int .i64 a.n, .int .i64 a.f, .int .i64 a.p, .bool a.w])
      have HG10 := Lib.hid (HG9.out.alloc (.cells #[.int .i64 a.s, .int .i64 a.n, .int .i64 a.f, .int .i64 a.p, .bool a.w] 30))
      have T10 := T9.alloc (.cells #[.int .i64 a.s, .int .i64 a.n, .int .i64 a.f, .int .i64 a.p, .bool a.w] 30)
      have hb10 : w1.heap.size + 1 ≤ (w9.alloc (.cells #[.int .i64 a.s, .int .i64 a.n, .int .i64 a.f, .int .i64 a.p, .bool a.w] 30)).heap.size := by have := T10.lt; omega
      have hbb : w1.heap.size < w9.heap.size := T9.lt
      clear g9 ha TX HGX HRX hsX
      by_cases h3 : a.n < 3
      · go_wp2_with fail
        with_reducible refine (awake_any _).mono ?_
        rintro e9 w11 ⟨rfl, g11⟩
        have HGY := Lib.hid (HG1.out.trans (HG10.out.trans g11))
        go_wp2
        go_ret
        exact ⟨rfl, HGY.out⟩
      have h3' : decide (a.n < 3) = false := decide_eq_false h3
      have hv1 : IntKind.i64.wrap (a.s + 1) = a.s + 1 := IntWalk.i64_in _ (by omega)
      have hv2 : IntKind.i64.wrap (a.n - 2) = a.n - 2 := IntWalk.i64_in _ (by omega)
      go_upto_region 15 with fail
      obtain ⟨x0, x1, x2, x3, x4⟩ := HB10.out.five
      generalize w9.alloc (.cells #[.int .i64 a.s, .int .i64 a.n, .int .i64 a.f, .int .i64 a.p, .bool a.w] 30) = w10 at *
      obtain ⟨bb, hbe⟩ : ∃ b, w9.heap.size = b := ⟨_, rfl⟩
      generalize w9.heap.size = bb' at *
      subst hbe
      generalize bb' = bb at *
      refine wp_region_held_drew (S := fun w' => w'.cell? ⟨bb, 0, none⟩ = some (.int .i64 a.s) ∧ w'.cell? ⟨bb, 1, none⟩ = some (.int .i64 a.n)) (by kernel_rfl) ?_ (fun hHeld => ?_)
      · (try dsimp only); (refine ⟨?_, ?_⟩ <;> (repeat (first | (with_reducible assumption) | (with_reducible refine far_drew ?_))))
      first | refine wpAnyH_take (i := 0) (v := undef) rfl (by kernel_rfl) (by kernel_rfl) (by kernel_rfl) (fun _ _ _ h => h) (Or.inr ⟨by rfl, rfl⟩) (by assumption) ?_ | (refine' wpAnyH_take (i := 0) (v := _) rfl (by kernel_rfl) (by kernel_rfl) (by kernel_rfl) (fun _ _ _ h => h) (Or.inl ⟨by rfl, ?hy0b⟩) (by assumption) ?rest0b; case hy0b => (intro w hSw; (try dsimp only at hSw); (first | (go_simp; done) | (go_simp; with_reducible rfl))))
      try simp only [Act.put, List.setIfInBounds_toArray, List.set_cons_zero, List.set_cons_succ, List.getElem_toArray, List.getElem_cons_zero, List.getElem_cons_succ]
      first | refine wpAnyH_take (i := 1) (v := undef) rfl (by kernel_rfl) (by kernel_rfl) (by kernel_rfl) (fun _ _ _ h => h) (Or.inr ⟨by rfl, rfl⟩) (by assumption) ?_ | (refine' wpAnyH_take (i := 1) (v := _) rfl (by kernel_rfl) (by kernel_rfl) (by kernel_rfl) (fun _ _ _ h => h) (Or.inl ⟨by rfl, ?hy1b⟩) (by assumption) ?rest1b; case hy1b => (intro w hSw; (try dsimp only at hSw); (first | (go_simp; done) | (go_simp; with_reducible rfl))))
      try simp only [Act.put, List.setIfInBounds_toArray, List.set_cons_zero, List.set_cons_succ, List.getElem_toArray, List.getElem_cons_zero, List.getElem_cons_succ]
      first | refine wpAnyH_take (i := 2) (v := undef) rfl (by kernel_rfl) (by kernel_rfl) (by kernel_rfl) (fun _ _ _ h => h) (Or.inr ⟨by rfl, rfl⟩) (by assumption) ?_ | (refine' wpAnyH_take (i := 2) (v := _) rfl (by kernel_rfl) (by kernel_rfl) (by kernel_rfl) (fun _ _ _ h => h) (Or.inl ⟨by rfl, ?hy2b⟩) (by assumption) ?rest2b; case hy2b => (intro w hSw; (try dsimp only at hSw); (first | (go_simp; done) | (go_simp; with_reducible rfl))))
      try simp only [Act.put, List.setIfInBounds_toArray, List.set_cons_zero, List.set_cons_succ, List.getElem_toArray, List.getElem_cons_zero, List.getElem_cons_succ]
      first | refine wpAnyH_take (i := 3) (v := undef) rfl (by kernel_rfl) (by kernel_rfl) (by kernel_rfl) (fun _ _ _ h => h) (Or.inr ⟨by rfl, rfl⟩) (by assumption) ?_ | (refine' wpAnyH_take (i := 3) (v := _) rfl (by kernel_rfl) (by kernel_rfl) (by kernel_rfl) (fun _ _ _ h => h) (Or.inl ⟨by rfl, ?hy3b⟩) (by assumption) ?rest3b; case hy3b => (intro w hSw; (try dsimp only at hSw); (first | (go_simp; done) | (go_simp; with_reducible rfl))))
      try simp only [Act.put, List.setIfInBounds_toArray, List.set_cons_zero, List.set_cons_succ, List.getElem_toArray, List.getElem_cons_zero, List.getElem_cons_succ]
      first | refine wpAnyH_take (i := 4) (v := undef) rfl (by kernel_rfl) (by kernel_rfl) (by kernel_rfl) (fun _ _ _ h => h) (Or.inr ⟨by rfl, rfl⟩) (by assumption) ?_ | (refine' wpAnyH_take (i := 4) (v := _) rfl (by kernel_rfl) (by kernel_rfl) (by kernel_rfl) (fun _ _ _ h => h) (Or.inl ⟨by rfl, ?hy4b⟩) (by assumption) ?rest4b; case hy4b => (intro w hSw; (try dsimp only at hSw); (first | (go_simp; done) | (go_simp; with_reducible rfl))))
      try simp only [Act.put, List.setIfInBounds_toArray, List.set_cons_zero, List.set_cons_succ, List.getElem_toArray, List.getElem_cons_zero, List.getElem_cons_succ]
      first | refine wpAnyH_take (i := 5) (v := undef) rfl (by kernel_rfl) (by kernel_rfl) (by kernel_rfl) (fun _ _ _ h => h) (Or.inr ⟨by rfl, rfl⟩) (by assumption) ?_ | (refine' wpAnyH_take (i := 5) (v := _) rfl (by kernel_rfl) (by kernel_rfl) (by kernel_rfl) (fun _ _ _ h => h) (Or.inl ⟨by rfl, ?hy5b⟩) (by assumption) ?rest5b; case hy5b => (intro w hSw; (try dsimp only at hSw); (first | (go_simp; done) | (go_simp; with_reducible rfl))))
      try simp only [Act.put, List.setIfInBounds_toArray, List.set_cons_zero, List.set_cons_succ, List.getElem_toArray, List.getElem_cons_zero, List.getElem_cons_succ]
      first | refine wpAnyH_take (i := 6) (v := undef) rfl (by kernel_rfl) (by kernel_rfl) (by kernel_rfl) (fun _ _ _ h => h) (Or.inr ⟨by rfl, rfl⟩) (by assumption) ?_ | (refine' wpAnyH_take (i := 6) (v := _) rfl (by kernel_rfl) (by kernel_rfl) (by kernel_rfl) (fun _ _ _ h => h) (Or.inl ⟨by rfl, ?hy6b⟩) (by assumption) ?rest6b; case hy6b => (intro w hSw; (try dsimp only at hSw); (first | (go_simp; done) | (go_simp; with_reducible rfl))))
      try simp only [Act.put, List.setIfInBounds_toArray, List.set_cons_zero, List.set_cons_succ, List.getElem_toArray, List.getElem_cons_zero, List.getElem_cons_succ]
      refine wpAnyH_ready (rs := [7]) (by kernel_rfl) (by simp) ?_
      refine AllReadyH.cons rfl (fun K hK => ?_) AllReadyH.nil
      try simp only [Act.put, List.setIfInBounds_toArray, List.set_cons_zero, List.set_cons_succ, List.getElem_toArray, List.getElem_cons_zero, List.getElem_cons_succ]
      go_simp; go_at_call 8; (with_reducible refine (next_x _ _ _ _ (by omega) (by omega) T10.drew).mono ?_); rintro e9 w11 ⟨q11, d0, d1, rfl, T11, g11⟩; have HB11 := Lib.hid (HB10.out.drew.past g11 (by omega)); have HG11 := Lib.hid (HG10.out.drew.past g11 (by omega)); obtain ⟨x0, x1, x2, x3, x4⟩ := HB11.out.five
      refine hK.out _ _ ?_ (fun hHeld => ?_)
      · (try dsimp only); (refine ⟨?_, ?_⟩ <;> (repeat (first | (with_reducible assumption) | (with_reducible refine far_drew ?_))))
      clear hK K
      try simp only [Act.put, List.setIfInBounds_toArray, List.set_cons_zero, List.set_cons_succ, List.getElem_toArray, List.getElem_cons_zero, List.getElem_cons_succ]
      first | refine wpAnyH_take (i := 8) (v := undef) rfl (by kernel_rfl) (by kernel_rfl) (by kernel_rfl) (fun _ _ _ h => h) (Or.inr ⟨by rfl, rfl⟩) (by assumption) ?_ | (refine' wpAnyH_take (i := 8) (v := _) rfl (by kernel_rfl) (by kernel_rfl) (by kernel_rfl) (fun _ _ _ h => h) (Or.inl ⟨by rfl, ?hy8b⟩) (by assumption) ?rest8b; case hy8b => (intro w hSw; (try dsimp only at hSw); (first | (go_simp; done) | (go_simp; with_reducible rfl))))
      try simp only [Act.put, List.setIfInBounds_toArray, List.set_cons_zero, List.set_cons_succ, List.getElem_toArray, List.getElem_cons_zero, List.getElem_cons_succ]
      first | refine wpAnyH_take (i := 9) (v := undef) rfl (by kernel_rfl) (by kernel_rfl) (by kernel_rfl) (fun _ _ _ h => h) (Or.inr ⟨by rfl, rfl⟩) (by assumption) ?_ | (refine' wpAnyH_take (i := 9) (v := _) rfl (by kernel_rfl) (by kernel_rfl) (by kernel_rfl) (fun _ _ _ h => h) (Or.inl ⟨by rfl, ?hy9b⟩) (by assumption) ?rest9b; case hy9b => (intro w hSw; (try dsimp only at hSw); (first | (go_simp; done) | (go_simp; with_reducible rfl))))
      try simp only [Act.put, List.setIfInBounds_toArray, List.set_cons_zero, List.set_cons_succ, List.getElem_toArray, List.getElem_cons_zero, List.getElem_cons_succ]
      refine wpAnyH_done (by kernel_rfl) ?_ _
      have hv3 : IntKind.i64.wrap (a.s + 1 + q11) = a.s + 1 + q11 := IntWalk.i64_in _ (by omega)
      obtain ⟨x, hx⟩ : ∃ x, a.s + 1 + q11 = x := ⟨_, rfl⟩
      rw [hv3, hx]
      have hx0 : a.s < x := by omega
      have hx2 : x + 1 < a.s + a.n := by omega
      have hx1 : x + 1 < endA a := hx2
      obtain ⟨Y, u1, u2, u3, u4, u5, u6⟩ := und2 HOK.out (by rw [HN.out]; omega) hkl HAK.out hx0 hx1
      have HU1 := Lib.hid u1
      have HU3 := Lib.hid (okR_sm u3)
      have HU4 := Lib.hid u4
      have HU5 := Lib.hid u5
      have HU6 := Lib.hid u6
      have HYL : Hid (Y.length = N + 1) := Lib.hid (by rw [u2, HN.out])
      have HR11 := Lib.hid (HR1.out.grew HG11.out)
      have hvm : IntKind.i64.wrap (x - 1) = x - 1 := IntWalk.i64_in _ (by omega)
      have hvp : IntKind.i64.wrap (x + 1) = x + 1 := IntWalk.i64_in _ (by omega)
      clear u1 u2 u3 u4 u5 u6 hHeld hv3 g11 HR9 HG9 HG10 HB10 T10 y0 y1 y2 y3 y4 x0 x1 x2 x3 x4 hx d0 d1 T11 hb10 hx1
      go_wp2_with fail
      with_reducible refine (unmap_p HR11.out (Nat.zero_le _) HS.out (by omega)).mono ?_
      rw [HU1.out]
      rintro e9 w12 ⟨vu, rfl, R12, g12⟩
      have HY12 := Lib.hid R12
      have HG12 := Lib.hid (HG11.out.trans g12)
      have HB12 := Lib.hid (HB11.out.grew g12)
      clear R12 g12 HG11 HB11 HR11
      go_wp2_with fail
      with_reducible refine (find_p HY12.out HU3.out HU4.out).mono ?_
      rintro e9 w13 ⟨rfl, g13⟩
      have HY13 := Lib.hid ((HY12.out.grew g13).alloc (.cells #[.int .i64 a.s, .int .i64 (x - a.s), .int .i64 a.f, .int .i64 a.p, .bool a.w] 30))
      have HG13 := Lib.hid ((HG12.out.trans g13).alloc (.cells #[.int .i64 a.s, .int .i64 (x - a.s), .int .i64 a.f, .int .i64 a.p, .bool a.w] 30))
      have HB13 := Lib.hid ((HB12.out.grew g13).alloc (.cells #[.int .i64 a.s, .int .i64 (x - a.s), .int .i64 a.f, .int .i64 a.p, .bool a.w] 30))
      have HP13 := Lib.hid (Own.new w13 30 #[.int .i64 a.s, .int .i64 (x - a.s), .int .i64 a.f, .int .i64 a.p, .bool a.w])
      clear g13 HY12 HG12 HB12
      go_wp2_with fail
      with_reducible refine (find_p HY13.out HU3.out HU5.out).mono ?_
      rintro e9 w14 ⟨rfl, g14⟩
      have HY14 := Lib.hid ((HY13.out.grew g14).alloc (.cells #[.int .i64 (x + 1), .int .i64 (a.s + a.n - x - 1), .int .i64 a.f, .int .i64 (a.p + x + 1 - a.s), .bool a.w] 30))
      have HG14 := Lib.hid ((HG13.out.trans g14).alloc (.cells #[.int .i64 (x + 1), .int .i64 (a.s + a.n - x - 1), .int .i64 a.f, .int .i64 (a.p + x + 1 - a.s), .bool a.w] 30))
      have HB14 := Lib.hid ((HB13.out.grew g14).alloc (.cells #[.int .i64 (x + 1), .int .i64 (a.s + a.n - x - 1), .int .i64 a.f, .int .i64 (a.p + x + 1 - a.s), .bool a.w] 30))
      have HP14 := Lib.hid ((HP13.out.grew g14).alloc (.cells #[.int .i64 (x + 1), .int .i64 (a.s + a.n - x - 1), .int .i64 a.f, .int .i64 (a.p + x + 1 - a.s), .bool a.w] 30))
      have HQ14 := Lib.hid (Own.new w14 30 #[.int .i64 (x + 1), .int .i64 (a.s + a.n - x - 1), .int .i64 a.f, .int .i64 (a.p + x + 1 - a.s), .bool a.w])
      clear g14 HY13 HG13 HB13 HP13
      go_wp2_with fail
      with_reducible refine (find_p HY14.out HU3.out HU6.out).mono ?_
      rintro e9 w15 ⟨rfl, g15⟩
      have HY15 := Lib.hid ((HY14.out.grew g15).alloc (.cells #[.int .i64 0, .int .i64 0, .int .i64 0, .int .i64 0, .bool false] 30))
      have HG15 := Lib.hid ((HG14.out.trans g15).alloc (.cells #[.int .i64 0, .int .i64 0, .int .i64 0, .int .i64 0, .bool false] 30))
      have HB15 := Lib.hid ((HB14.out.grew g15).alloc (.cells #[.int .i64 0, .int .i64 0, .int .i64 0, .int .i64 0, .bool false] 30))
      have HP15 := Lib.hid ((HP14.out.grew g15).alloc (.cells #[.int .i64 0, .int .i64 0, .int .i64 0, .int .i64 0, .bool false] 30))
      have HQ15 := Lib.hid ((HQ14.out.grew g15).alloc (.cells #[.int .i64 0, .int .i64 0, .int .i64 0, .int .i64 0, .bool false] 30))
      clear g15 HY14 HG14 HB14 HP14 HQ14
      obtain ⟨x0, x1, x2, x3, x4⟩ := HB15.out.five
      obtain ⟨p0, p1, p2, p3, p4⟩ := HP15.out.five
      obtain ⟨z0, z1, z2, z3, z4⟩ := HQ15.out.five
      obtain ⟨ay, cy, rfl, -, -⟩ := HY15.out.slice
      rw [HYL.out]
      have hv4 : IntKind.i64.wrap (x - a.s) = x - a.s := IntWalk.i64_in _ (by omega)
      have hv5 : IntKind.i64.wrap (a.p + x) = a.p + x := IntWalk.i64_in _ (by omega)
      have hv6 : IntKind.i64.wrap (a.p + x + 1) = a.p + x + 1 := IntWalk.i64_in _ (by omega)
      have hv7 : IntKind.i64.wrap (a.p + x + 1 - a.s) = a.p + x + 1 - a.s := IntWalk.i64_in _ (by omega)
      have hv8 : IntKind.i64.wrap (a.s + a.n) = a.s + a.n := IntWalk.i64_in _ (by omega)
      have hv9 : IntKind.i64.wrap (a.s + a.n - x) = a.s + a.n - x := IntWalk.i64_in _ (by omega)
      have hv10 : IntKind.i64.wrap (a.s + a.n - x - 1) = a.s + a.n - x - 1 := IntWalk.i64_in _ (by omega)
      have hv11 : IntKind.i64.wrap ((N : Int) + 1) = (N : Int) + 1 := IntWalk.i64_in _ (by omega)
      go_wp2_with fail
      with_reducible refine (awake_any _).mono ?_
      rintro e9 w16 ⟨rfl, g16⟩
      have HGY := Lib.hid (HG1.out.trans (HG15.out.trans g16))
      clear g16
      go_wp2
      go_ret
      exact ⟨by simp, HGY.out⟩

theorem Try.own : ownKnob Try.prog.godebug = none := by kernel_rfl
theorem Try.laidOut : laidOutB Try.prog = true := by kernel_rfl

theorem areaUndone_contract (W : World) (base : Nat) (args : Array Value) (H : Type) (enc : TypeId × Value → H) (ds : List (DataW H)) (p : List MemPlace)
    (hval : ∀ (j : Nat) t v, Try.f6.params[j]? = some t → args[j]? = some v → Value.okWide Try.prog W .any base t v)
    (hA : DataW.TrodAll enc Try.prog W 0 (fun _ => true) true Try.f6.params.toList args.toList ds p) :
    (∃ d0 d1, ds = [d0, d1]) ∧ Calls Try.prog 6 args W fun e W' => e = .returned (.bool true) ∧ Below W.heap.size W W' := by
  rw [Try.params6] at hval hA
  obtain ⟨v0, v1, d0, d1, p0, p1, ha, hd, hp, h0, h1⟩ := args_2 hA
  subst ha hd
  obtain ⟨A0, c0, xs0, rfl, hr0, hm0⟩ := open_introw Try.underlying22 Try.underlying3 (by kernel_rfl) (hval 0 _ _ rfl rfl) h0
  obtain ⟨A1, c1, xs1, rfl, hr1, hm1⟩ := open_introw Try.underlying22 Try.underlying3 (by kernel_rfl) (hval 1 _ _ rfl rfl) h1
  exact ⟨⟨_, _, rfl⟩, (undone_core A0 c0 xs0 A1 c1 xs1 W hr0 hm0 hr1 hm1).mono fun _ _ h => h⟩

set_option maxRecDepth 100000 in
theorem areaUndone_lifted (os : Os) (started : os.Started) (H : Type) (enc : TypeId × Value → H) :
    ReturnsInHanded {} Try.checked os 6 .any (Rows.areaUndoneSpec.pre6 enc Try.prog Try.f6 Rows.areaUndoneRow.domain false) (Rows.areaUndoneSpec.post enc Try.prog Try.f6 false true false false) := by
  refine returnsInHanded_of_change (C := Try.checked) Try.own started (by kernel_rfl) Try.func6
    (ChangeSpec.witness6 (enc := enc) (C := Try.checked) false ⟨#[], #[.slice none 0 0, .slice none 0 0], []⟩ 8 (by kernel_rfl) (by kernel_rfl) (by kernel_rfl) (by kernel_rfl)) ?_
  intro W base args ds gs before hval hW _ _
  obtain ⟨p, q, hA, hV, hrest⟩ := id hW
  obtain ⟨⟨d0, d1, rfl⟩, hc⟩ := areaUndone_contract W base args H enc ds p hval hA
  obtain ⟨rfl, -⟩ := trodVars_none hV
  refine hc.mono fun e W' ⟨he, hb⟩ => ⟨_, he, ?_⟩
  exact law_close (tb := 4) Try.laidOut (by rw [Try.params6]; decide +kernel) Try.underlying4 rfl rfl hW rfl rfl rfl hb

theorem areaUndone_holds : Rows.AreaUndoneSaid :=
  OpenClaim.holds_of_wide 6 Try.f6 rfl rfl rfl rfl rfl rfl rfl ⟨rfl, rfl, rfl, rfl, rfl⟩ rfl rfl rfl rfl rfl (by kernel_rfl) Try.func6 (by kernel_rfl)
    (of_decide_eq_true (by kernel_rfl)) (by unfold Func.isWrapper; first | (rw [if_pos (by decide +kernel)]; kernel_rfl) | (rw [if_neg (by decide +kernel)]; exact ⟨rfl, rfl⟩))
    (fun os started H enc _ => areaUndone_lifted os started H enc)
end Go.Proofs.Ytnlhdbengppnpaa
