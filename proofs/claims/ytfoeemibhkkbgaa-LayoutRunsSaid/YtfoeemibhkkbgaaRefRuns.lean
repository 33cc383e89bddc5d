/- The reference's Runs (layer 4). -/
import Derived.Test.YtfoeemibhkkbgaaRuns
namespace Go.Proofs.Ytfoeemibhkkbgaa
attribute [local go_sem ↓] Go.wp_at_zero Go.wp_at_succ
open Go.RowKit Go.Mine

theorem fm_set (M : List Sp) (s c d : Int) : ((M ++ [(s, c)]).flatMap enc2).set (M.length * 2 + 1) (.int .i64 d) = (M ++ [(s, d)]).flatMap enc2 := by
  rw [List.flatMap_append, List.flatMap_append, List.set_append_right _ _ (by rw [fm_len enc2_len]; omega), fm_len enc2_len, show M.length * 2 + 1 - M.length * 2 = 1 from by omega]
  rfl
theorem good_reL {lo : Int} {L : List Sp} {q q' m : Int} (h : Good lo L q) (hq : lo ≤ q) (hq' : q + 2 ≤ q') : Good lo (reL L q m) q' := by
  rcases List.eq_nil_or_concat L with rfl | ⟨M, ⟨s, c⟩, rfl⟩
  · intro y hy; simp [reL] at hy; subst hy; simp; omega
  · rw [List.concat_eq_append] at h ⊢
    obtain ⟨h1, h2, h3, h4, h5⟩ := good_left h
    by_cases e : s + c = q ∧ c + 2 ≤ m
    · rw [reL_yes _ _ _ _ _ e.1 e.2]; exact good_snoc (good_wider h1 (by omega)) (by simp at *; omega)
    · rw [reL_no _ _ _ _ _ e]; exact good_snoc (good_wider h (by omega)) (by simp; omega)
theorem ref_good {s m : Int} {xs : List Int} (h0 : 0 ≤ s) (h1 : s ≤ 6) : ∀ k, k ≤ 8 → Good (s * 18 + 2) (refL s xs m k) (s * 18 + 2 + k * 2)
  | 0, _ => fun y hy => by simp [refL] at hy
  | k + 1, hk => by
    have ih := ref_good (m := m) (xs := xs) h0 h1 k (by omega)
    rw [refL]
    split
    · rw [pag_eq h0 h1 (by omega)]
      exact good_reL ih (by omega) (by omega)
    · exact good_wider ih (by omega)
theorem ref_len (s m : Int) (xs : List Int) : ∀ k, (refL s xs m k).length ≤ k
  | 0 => by simp [refL]
  | k + 1 => by
    have ih := ref_len s m xs k
    rw [refL]
    split
    · rcases List.eq_nil_or_concat (refL s xs m k) with e | ⟨M, ⟨a, b⟩, e⟩
      · rw [e, reL_nil]; simp
      · rw [e, List.concat_eq_append] at ih ⊢
        by_cases e2 : a + b = pagF s k ∧ b + 2 ≤ m
        · rw [reL_yes _ _ _ _ _ e2.1 e2.2]; simp at *; omega
        · rw [reL_no _ _ _ _ _ e2]; simp at *; omega
    · omega

set_option maxRecDepth 100000 in
set_option maxHeartbeats 8000000 in
theorem rruns_any (B : Nat) (v : Value) (xs : List Int) (s m : Int) (w : World) (hl : xs.length ≤ 1000000) (hm : (Lit.int .i64 m).wf = true) (R : RowE 3 1 enc1 w B v xs) :
    Calls Try.prog 21 #[.int .i64 s, v, .int .i64 m] w (RetR (runsL s m xs) w) := by
  have hm' := wf_le hm
  clear hm
  cases h1 : withB s 6
  · have e : runsL s m xs = [] := by rw [runsL, if_neg]; have := withB_false h1; omega
    rw [e]
    clear e R
    go_enter Try.func21, Try.ntmps21
    go_wp2_with (go_at_call 27; (with_reducible refine (rslot_any _ _).mono ?_); rintro e w1 ⟨rfl, rfl⟩)
    go_ret
    exact ⟨_, rfl, RowE.nil _ _, Grew.refl _⟩
  · obtain ⟨s0, s1⟩ := withB_true h1
    by_cases h2 : m < 2
    · have e : runsL s m xs = [] := by rw [runsL, if_neg]; omega
      rw [e]
      clear e R
      go_enter Try.func21, Try.ntmps21
      go_wp2_with (go_at_call 27; (with_reducible refine (rslot_any _ _).mono ?_); rintro e w1 ⟨rfl, rfl⟩)
      go_ret
      exact ⟨_, rfl, RowE.nil _ _, Grew.refl _⟩
    · have h3 : 2 ≤ m := by omega
      have e := Lib.hid (show runsL s m xs = refL s xs (m / 2 * 2) 8 from by rw [runsL, if_pos ⟨⟨s0, s1⟩, h3⟩, runs_same s0 s1 (by omega) (by omega) 8 (Nat.le_refl _)])
      obtain ⟨a, X, c, rfl, hX, hcell⟩ := R.ints
      have HC := Lib.hid hcell
      have HX := Lib.hid hX
      have hX2 : X ≤ 1000000 := by omega
      clear hcell hX hl R
      go_enter Try.func21, Try.ntmps21
      go_wp2_with (go_at_call 27; (with_reducible refine (rslot_any _ _).mono ?_); rintro e w1 ⟨rfl, rfl⟩)
      have hn0 : 2 ≤ m / 2 * 2 := by omega
      have hn1 : m / 2 * 2 ≤ 9223372036854775807 := by omega
      obtain ⟨n, hn⟩ : ∃ n, m / 2 * 2 = n := ⟨_, rfl⟩
      rw [hn] at hn0 hn1 e ⊢
      have HN := Lib.hid hn
      clear hn
      go_loopw [7, 8] (fun v i wr => ∃ (k : Nat) (r : Value), r = v ∧ i = .int .i64 k ∧ k ≤ 8 ∧ RowE 36 2 enc2 wr w.heap.size r (refL s xs n k) ∧ Grew w wr) (fun _ i _ => 8 - (intOf i).toNat)
      case atStart => exact ⟨0, _, rfl, rfl, by omega, RowE.nil _ _, Grew.refl _⟩
      case round =>
        obtain ⟨k, r, rfl, rfl, hk, R, G⟩ := hrel
        obtain ⟨wo, rfl⟩ : ∃ wo : World, wo = wr := ⟨_, rfl⟩
        have HR := Lib.hid R
        clear R
        by_cases hlt : k < 8
        · have d8 : decide ((k : Int) < 8) = true := decide_eq_true (by omega)
          go_wp2
          go_loop [9, 10] (fun b i => ∃ j : Nat, i = .int .i64 j ∧ j ≤ X ∧ b = .bool (chB (xs.take j) k)) (fun _ i => X - (intOf i).toNat)
          case atStart => exact ⟨0, rfl, by omega, rfl⟩
          case round =>
            obtain ⟨j, rfl, hj, rfl⟩ := hrel
            by_cases hlj : j < X
            · obtain ⟨g, rfl, hg, -, hx0⟩ := HC.out j hlj
              have c0 := (G.cells.1 g j hg).trans hx0
              have tt := take_getD (d := (0 : Int)) xs j (by rw [← HX.out]; exact hlj)
              generalize xs.getD j 0 = x at *
              have ts := Lib.hid (show chB (xs.take (j + 1)) k = (chB (xs.take j) k || decide ((k : Int) = x)) from by rw [tt, chB_snoc])
              clear tt hx0
              cases hb : chB (xs.take j) k
              · by_cases hx : x = (k : Int)
                · have e1 : (x == (k : Int)) = true := by simp [hx]
                  have ts2 := Lib.hid (show chB (xs.take (j + 1)) k = true from by rw [ts.out, hb, hx]; simp)
                  clear hx ts
                  go_wp2
                  go_round
                  case rel => exact ⟨j + 1, by go_num, by omega, by rw [ts2.out]⟩
                  case measure => simp [intOf]; omega
                · have e1 : (x == (k : Int)) = false := by simpa using hx
                  have ts2 := Lib.hid (show chB (xs.take (j + 1)) k = false from by rw [ts.out, hb]; simp; omega)
                  clear hx ts
                  go_wp2
                  go_round
                  case rel => exact ⟨j + 1, by go_num, by omega, by rw [ts2.out]⟩
                  case measure => simp [intOf]; omega
              · have ts2 := Lib.hid (show chB (xs.take (j + 1)) k = true from by rw [ts.out, hb]; simp)
                clear ts
                go_wp2
                go_round
                case rel => exact ⟨j + 1, by go_num, by omega, by rw [ts2.out]⟩
                case measure => simp [intOf]; omega
            · have hjX : j = X := by omega
              subst hjX
              rw [List.take_of_length_le (by rw [← HX.out]; omega)]
              cases hb : chB xs k
              · go_wp2
                go_roundw
                case rel => exact ⟨k + 1, _, rfl, by go_num, by omega, by rw [refL, hb]; exact HR.out, G⟩
                case measure => simp [intOf]; omega
              · have q0 : pagF s k = s * 18 + 2 + k * 2 := pag_eq s0 s1 hlt
                have ql : 0 ≤ pagF s k ∧ pagF s k ≤ 200 := by omega
                have HRL : Hid (refL s xs n (k + 1) = reL (refL s xs n k) (pagF s k) n) := Lib.hid (by rw [refL, hb, if_pos rfl])
                have HG := Lib.hid (ref_good (m := n) (xs := xs) s0 s1 k hk)
                have HL := Lib.hid (ref_len s n xs k)
                clear q0
                obtain ⟨q, hq⟩ : ∃ q, pagF s k = q := ⟨_, rfl⟩
                rw [hq] at ql HRL
                have hok : ∀ x y, Grew w (wo.drewN x) ∧ w.heap.size ≤ ((wo.drewN x).alloc y).heap.size := fun x y => ⟨G.drewN x, by have := G.size; simp; omega⟩
                have HOK := Lib.hid hok
                clear hok
                rcases List.eq_nil_or_concat (refL s xs n k) with eL | ⟨M, ⟨a1, c1⟩, eL⟩
                · rw [eL] at HR HRL
                  have hn : ∃ b c, r = .slice b 0 c := by
                    obtain ⟨b, c, hv⟩ := HR.out.len
                    exact ⟨b, c, hv⟩
                  obtain ⟨b, c, rfl⟩ := hn
                  have HEL := Lib.hid eL
                  clear eL
                  go_wp2_with (go_at_call 16; (with_reducible refine (rpage_any _ _ _).mono ?_); rintro e w1 ⟨rfl, rfl⟩)
                  clear hq
                  go_quiet (fail)
                  go_wp2_with (at_builtin; go_loud (refine wpList_append_row _ rfl (.tmp 88) (.tmp 91) 34 rfl w.heap.size info_span Try.underlying34 (by decide) (by decide) enc2_len (.slice b 0 c) [] rfl ((HR.out.drewN _).alloc _) _ _ (q, 2) rfl (Own.new _ _ _) enc2_one (by decide) (by decide) (HOK.out _ _).2 ?_; intro g cap w2 R2 G2 o2))
                  go_roundw
                  case rel => exact ⟨k + 1, _, rfl, by go_num, by omega, by rw [HRL.out, reL_nil]; exact R2, (((HOK.out _ (.cells #[] 0)).1).alloc _).keptA G2 (fun x e => HR.out.above x e) (Nat.le_refl _)⟩
                  case measure => simp [intOf]; omega
                · rw [eL] at HR HRL
                  rw [List.concat_eq_append] at HR HRL
                  have hgd := HG.out
                  rw [eL, List.concat_eq_append] at hgd
                  obtain ⟨-, g1, g2, -, g4⟩ := good_left hgd
                  simp only at g1 g2 g4
                  have hln := HL.out
                  rw [eL, List.concat_eq_append, List.length_append, List.length_singleton] at hln
                  have HEL := Lib.hid eL
                  clear eL hgd
                  rcases HR.out.shape enc2_len with ⟨-, h⟩ | ⟨g, cap, rfl, hgB, hg, hcap, hcm, hcell, hfr⟩
                  · simp at h
                  have h0 : wo.cell? ⟨g, M.length * 2, none⟩ = some (.int .i64 a1) := by
                    have := hcell M.length (by simp) 0 (by omega)
                    simpa [enc2] using this
                  have h1 : wo.cell? ⟨g, M.length * 2 + 1, none⟩ = some (.int .i64 c1) := by
                    have := hcell M.length (by simp) 1 (by omega)
                    simpa [enc2] using this
                  have h2 := hfr (M.length * 2 + 1)
                  have HL2 := Lib.hid (show (M ++ [(a1, c1)]).length = M.length + 1 from by simp)
                  have HFS := Lib.hid (fm_set M a1 c1 (c1 + 2))
                  clear hcell hfr hcap hcm
                  rw [HL2.out] at HR ⊢
                  obtain ⟨p, hp⟩ : ∃ p, M.length = p := ⟨_, rfl⟩
                  rw [hp] at h0 h1 h2 hln HL2 HFS HR ⊢
                  have HP := Lib.hid hp
                  clear hp
                  have hg0 : decide ((0 : Int) < (p : Int) + 1) = true := decide_eq_true (by omega)
                  have k0 : (0 : Int) ≤ (p : Int) := by omega
                  have k1 : (p : Int) < (p : Int) + 1 := by omega
                  by_cases e1 : a1 + c1 = q
                  · have b1 : (a1 + c1 == q) = true := by simp [e1]
                    have E1 := Lib.hid e1
                    clear e1
                    by_cases e2 : c1 + 2 ≤ n
                    · have b2 : decide (c1 + 2 ≤ n) = true := decide_eq_true e2
                      have w1 : IntKind.i64.wrap (p : Int) = p := IntWalk.i64_in _ (by omega)
                      have w2 : IntKind.i64.wrap (a1 + c1) = a1 + c1 := IntWalk.i64_in _ (by omega)
                      have w3 : IntKind.i64.wrap (c1 + 2) = c1 + 2 := IntWalk.i64_in _ (by omega)
                      go_wp2_with (go_at_call 16; (with_reducible refine (rpage_any _ _ _).mono ?_); rintro e w1 ⟨rfl, rfl⟩)
                      clear hq
                      go_quiet (fail)
                      clear w1 w2 w3
                      go_wp2
                      go_roundw
                      case rel =>
                        refine ⟨k + 1, _, rfl, by go_num, by omega, ?_, (HOK.out _ (.cells #[] 0)).1.set (p := ⟨g, p * 2 + 1, none⟩) hgB _⟩
                        rw [HRL.out, reL_yes _ _ _ _ _ E1.out e2]
                        have k := RowE.stored (L' := M ++ [(a1, c1 + 2)]) (cap := cap) (g := g) (by rw [HL2.out]; exact HR.out.drewN nq) (p * 2 + 1) (.int .i64 (c1 + 2)) (by simp) (by rw [← HFS.out])
                        rw [HL2.out] at k
                        exact k
                      case measure => simp [intOf]; omega
                    · have b2 : decide (c1 + 2 ≤ n) = false := decide_eq_false e2
                      have w1 : IntKind.i64.wrap (p : Int) = p := IntWalk.i64_in _ (by omega)
                      have w2 : IntKind.i64.wrap (a1 + c1) = a1 + c1 := IntWalk.i64_in _ (by omega)
                      have w3 : IntKind.i64.wrap (c1 + 2) = c1 + 2 := IntWalk.i64_in _ (by omega)
                      go_wp2_with (go_at_call 16; (with_reducible refine (rpage_any _ _ _).mono ?_); rintro e w1 ⟨rfl, rfl⟩)
                      clear hq
                      go_quiet (fail)
                      clear w1 w2 w3
                      have HR3 : RowE 36 2 enc2 wo w.heap.size (.slice (some ⟨g, 0, none⟩) (p + 1) cap) (M ++ [(a1, c1)]) := HR.out
                      have hl6 : (M ++ [(a1, c1)]).length < 1000000 := by rw [HL2.out]; omega
                      go_wp2_with (at_builtin; go_loud (refine wpList_append_row _ rfl (.tmp 88) (.tmp 91) 34 rfl w.heap.size info_span Try.underlying34 (by decide) (by decide) enc2_len (.slice (some ⟨g, 0, none⟩) (p + 1) cap) (M ++ [(a1, c1)]) rfl ((HR.out.drewN _).alloc _) _ _ (q, 2) rfl (Own.new _ _ _) enc2_one hl6 (by decide) (HOK.out _ _).2 ?_; intro g cap w2 R2 G2 o2))
                      go_roundw
                      case rel => exact ⟨k + 1, _, rfl, by go_num, by omega, by rw [HRL.out, reL_no _ _ _ _ _ (by omega)]; simpa using R2, (((HOK.out _ (.cells #[] 0)).1).alloc _).keptA G2 (fun x e => HR.out.above x e) (Nat.le_refl _)⟩
                      case measure => simp [intOf]; omega
                  · have b1 : (a1 + c1 == q) = false := by simpa using e1
                    have E1 := Lib.hid e1
                    clear e1
                    have w1 : IntKind.i64.wrap (p : Int) = p := IntWalk.i64_in _ (by omega)
                    have w2 : IntKind.i64.wrap (a1 + c1) = a1 + c1 := IntWalk.i64_in _ (by omega)
                    go_wp2_with (go_at_call 16; (with_reducible refine (rpage_any _ _ _).mono ?_); rintro e w1 ⟨rfl, rfl⟩)
                    clear hq
                    go_quiet (fail)
                    clear w1 w2
                    have hl6 : (M ++ [(a1, c1)]).length < 1000000 := by rw [HL2.out]; omega
                    go_wp2_with (at_builtin; go_loud (refine wpList_append_row _ rfl (.tmp 88) (.tmp 91) 34 rfl w.heap.size info_span Try.underlying34 (by decide) (by decide) enc2_len (.slice (some ⟨g, 0, none⟩) (p + 1) cap) (M ++ [(a1, c1)]) rfl ((HR.out.drewN _).alloc _) _ _ (q, 2) rfl (Own.new _ _ _) enc2_one hl6 (by decide) (HOK.out _ _).2 ?_; intro g cap w2 R2 G2 o2))
                    go_roundw
                    case rel => exact ⟨k + 1, _, rfl, by go_num, by omega, by rw [HRL.out, reL_no _ _ _ _ _ (by have := E1.out; omega)]; simpa using R2, (((HOK.out _ (.cells #[] 0)).1).alloc _).keptA G2 (fun x e => HR.out.above x e) (Nat.le_refl _)⟩
                    case measure => simp [intOf]; omega
        · have hk8 : k = 8 := by omega
          subst hk8
          go_wp2
          go_ret
          rw [Hid.out ‹Hid (runsL s m xs = _)›]
          exact ⟨_, rfl, HR.out, G⟩
end Go.Proofs.Ytfoeemibhkkbgaa
