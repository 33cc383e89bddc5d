/- The reference of layer 10: Give. -/
import Derived.Test.YtphccdfdknihdaaZr3
namespace Go.Mine
open Go Go.RowKit
/-- What has been copied of the free frames xs behind k of them, with f in its place. -/
def GvI (f : Int) (xs : List Int) (k : Nat) (b : Bool) (F : List Int) : Prop := ¬f ∈ xs.take k ∧
  ((b = false ∧ F = xs.take k ∧ ∀ y ∈ xs.take k, ¬f < y) ∨ (b = true ∧ ∃ j, j < k ∧ F = xs.take j ++ f :: (xs.take k).drop j ∧ (∀ y ∈ xs.take j, ¬f < y) ∧ f < xs.getD j 0))
theorem takeI {xs : List Int} {k : Nat} (h : k < xs.length) : xs.take (k + 1) = xs.take k ++ [xs.getD k 0] := by
  rw [List.take_add_one, List.getElem?_eq_getElem h, List.getD, List.getElem?_eq_getElem h]; rfl
theorem GvI.zero (f : Int) (xs : List Int) : GvI f xs 0 false [] := ⟨by simp, .inl ⟨rfl, by simp, by simp⟩⟩
theorem GvI.nex {f : Int} {xs : List Int} {k : Nat} (hk : k < xs.length) (hn : ¬f ∈ xs.take k) (hy : ¬xs.getD k 0 = f) : ¬f ∈ xs.take (k + 1) := by
  rw [takeI hk]
  intro h
  rcases List.mem_append.1 h with h | h
  · exact hn h
  · exact hy (List.mem_singleton.1 h).symm
theorem GvI.put {f : Int} {xs F : List Int} {k : Nat} (h : GvI f xs k false F) (hk : k < xs.length) (hy : ¬xs.getD k 0 = f) (hf : f < xs.getD k 0) : GvI f xs (k + 1) true (F ++ [f] ++ [xs.getD k 0]) := by
  obtain ⟨h1, ⟨-, rfl, h2⟩ | ⟨h0, -⟩⟩ := h
  · refine ⟨GvI.nex hk h1 hy, .inr ⟨rfl, k, by omega, ?_, h2, hf⟩⟩
    rw [takeI hk, List.drop_left' (by rw [List.length_take]; omega)]
    simp
  · exact absurd h0 (by decide)
theorem GvI.skip {f : Int} {xs F : List Int} {k : Nat} (h : GvI f xs k false F) (hk : k < xs.length) (hy : ¬xs.getD k 0 = f) (hf : ¬f < xs.getD k 0) : GvI f xs (k + 1) false (F ++ [xs.getD k 0]) := by
  obtain ⟨h1, ⟨-, rfl, h2⟩ | ⟨h0, -⟩⟩ := h
  · refine ⟨GvI.nex hk h1 hy, .inl ⟨rfl, (takeI hk).symm, fun y hm => ?_⟩⟩
    rw [takeI hk] at hm
    rcases List.mem_append.1 hm with hm | hm
    · exact h2 y hm
    · rw [List.mem_singleton.1 hm]; exact hf
  · exact absurd h0 (by decide)
theorem GvI.after {f : Int} {xs F : List Int} {k : Nat} (h : GvI f xs k true F) (hk : k < xs.length) (hy : ¬xs.getD k 0 = f) : GvI f xs (k + 1) true (F ++ [xs.getD k 0]) := by
  obtain ⟨h1, ⟨h0, -⟩ | ⟨-, j, hj, rfl, h2, h3⟩⟩ := h
  · exact absurd h0 (by decide)
  · refine ⟨GvI.nex hk h1 hy, .inr ⟨rfl, j, by omega, ?_, h2, h3⟩⟩
    rw [takeI hk, List.drop_append_of_le_length (by rw [List.length_take]; omega)]
    simp
theorem GvI.len {f : Int} {xs F : List Int} {k : Nat} {b : Bool} (h : GvI f xs k b F) : F.length ≤ k + 1 := by
  obtain ⟨-, ⟨-, rfl, -⟩ | ⟨-, j, hj, rfl, -⟩⟩ := h
  · rw [List.length_take]; omega
  · rw [List.length_append, List.length_cons, List.length_drop, List.length_take, List.length_take]; omega
theorem GvI.end1 {f : Int} {xs F : List Int} (h : GvI f xs xs.length true F) : ¬f ∈ xs ∧ F = insI f xs := by
  obtain ⟨h1, ⟨h0, -⟩ | ⟨-, j, hj, rfl, h2, h3⟩⟩ := h
  · exact absurd h0 (by decide)
  · rw [List.take_length] at h1 ⊢
    exact ⟨h1, (insI_at h2 (.inr h3) (by omega)).symm⟩
theorem GvI.end0 {f : Int} {xs F : List Int} (h : GvI f xs xs.length false F) : ¬f ∈ xs ∧ F ++ [f] = insI f xs := by
  obtain ⟨h1, ⟨-, rfl, h2⟩ | ⟨h0, -⟩⟩ := h
  · rw [List.take_length] at h1 ⊢
    refine ⟨h1, ?_⟩
    rw [insI_at (m := xs.length) h2 (.inl rfl) (Nat.le_refl _), List.take_length, List.drop_length]
  · exact absurd h0 (by decide)
end Go.Mine
namespace Go.Proofs.Ytphccdfdknihdaa
open Go.RowKit Go.Mine

/-- It returns zones and an error. -/
def RetE2 (p : Nat → Prop) (X : List Zo × Int) (B : Nat) (w : World) (e : Ending) (w' : World) : Prop := ∃ v, e = .returned (.tuple #[v, .int .i64 X.2]) ∧ ZsR w' (pN p B) v X.1 ∧ Grew w w'
theorem inZ_f {f : Int} {z : Zo} (h : f < z.f ∨ z.f + z.s ≤ f) : inZ f z = false := decide_eq_false fun ⟨h1, h2⟩ => by rcases h with h | h <;> omega
theorem inZ_t {f : Int} {z : Zo} (h : z.f ≤ f) (h2 : f < z.f + z.s) : inZ f z = true := decide_eq_true ⟨h, h2⟩
set_option maxRecDepth 100000 in
set_option maxHeartbeats 8000000 in
theorem give_q {p : Nat → Prop} {v : Value} {L : List Zo} {w : World} {f : Int} (h : ZsR w p v L) (hs : SmZ L) : Calls Try.prog 15 #[v, .int .i64 f] w (RetE2 p (givX L f) w.heap.size w) := by
  obtain ⟨a, c, rfl⟩ := h.slice
  have HS := Lib.hid hs
  obtain ⟨n, hn⟩ : ∃ n, L.length = n := ⟨_, rfl⟩
  have HN := Lib.hid hn
  have hl : n ≤ 1000 := hn ▸ hs.1
  rw [hn] at h ⊢
  have HZ := Lib.hid h
  clear h hs hn
  cases hr : okB L
  · rw [givX_1 hr]
    go_enter Try.func15, Try.ntmps15
    go_wp2_with fail
    with_reducible refine (check_q HZ.out HS.out hr).mono ?_
    rintro e1 w1 ⟨rfl, g1⟩
    go_wp2
    refine bodyPost_ret (v := .tuple #[.slice a n c, .int .i64 1]) (by simp [results, Try.results15, go_sem]) rfl ⟨_, rfl, (HZ.out.grew g1).mono fun g h _ => pN_l h, g1⟩
  · have HOK := Lib.hid hr
    have HX2 : Hid (whZ f L = none → givX L f = (L, 2)) := Lib.hid fun h => givX_2 hr h
    have HX5 : Hid (∀ i, whZ f L = some i → f ∈ frI L i → givX L f = (L, 5)) := Lib.hid fun i h h2 => givX_5 hr h h2
    have HX0 : Hid (∀ i, whZ f L = some i → ¬f ∈ frI L i → givX L f = (setF L i (insI f (frI L i)), 0)) := Lib.hid fun i h h2 => givX_0 hr h h2
    generalize givX L f = X at *
    go_enter Try.func15, Try.ntmps15
    go_wp2_with fail
    with_reducible refine (check_q HZ.out HS.out hr).mono ?_
    rintro e1 w1 ⟨rfl, g1⟩
    clear hr
    go_wp2_with fail
    go_loopw [6] (fun iv wr => ∃ i : Nat, iv = .int .i64 i ∧ i ≤ n ∧ Hid (∀ j, j < i → inZ f (L.getD j zoZ) = false) ∧ Grew w wr) (fun iv _ => n - (intOf iv).toNat)
    case atStart => exact ⟨0, rfl, by omega, Lib.hid fun j hj => by omega, g1⟩
    case round =>
      obtain ⟨i, rfl, hi, HB, G⟩ := hrel
      obtain ⟨wo, rfl⟩ : ∃ wo : World, wo = wr := ⟨_, rfl⟩
      by_cases hlt : i < n
      · have hiL : i < L.length := by rw [HN.out]; exact hlt
        obtain ⟨g, a', c', rfl, -, hg, c0, c1, c2, c3, c4, c5, hri, hcp⟩ := (HZ.out.grew G).at_ hiL
        have hfr := HS.out.2 i hiL
        have HNX : Hid (inZ f (L.getD i zoZ) = false → ∀ j, j < i + 1 → inZ f (L.getD j zoZ) = false) := Lib.hid fun h j hj => by
          by_cases e : j = i
          · rw [e]; exact h
          · exact HB.out j (by omega)
        have HWH : Hid (inZ f (L.getD i zoZ) = true → whZ f L = some i) := Lib.hid fun h => whZ_some hiL h HB.out
        have hsz : (L.getD i zoZ).f + (L.getD i zoZ).s ≤ 65 ∧ 1 ≤ (L.getD i zoZ).f ∧ 1 ≤ (L.getD i zoZ).s := by
          obtain ⟨nx, h1, h2⟩ := ok_at HOK.out hiL
          obtain ⟨b1, b2, b3, -⟩ := h2
          omega
        replace HX5 : Hid (whZ f L = some i → f ∈ (L.getD i zoZ).fr → X = (L, 5)) := Lib.hid (HX5.out i)
        replace HX0 : Hid (whZ f L = some i → ¬f ∈ (L.getD i zoZ).fr → X = (L.set i { L.getD i zoZ with fr := insI f (L.getD i zoZ).fr }, 0)) := Lib.hid (HX0.out i)
        obtain ⟨⟨zf, zs, zm, zl, zh, fr⟩, hzd⟩ : ∃ z, L.getD i zoZ = z := ⟨_, rfl⟩
        rw [hzd] at c0 c1 c2 c3 c4 c5 hri hcp hfr hsz HNX HWH HX5 HX0
        simp only at c0 c1 c2 c3 c4 c5 hri hcp hfr hsz HX5 HX0
        obtain ⟨s1, s2, s3⟩ := hsz
        have hi0 : (0 : Int) ≤ (i : Int) := by omega
        have hi1 : (i : Int) < (n : Int) := by omega
        have HG := Lib.hid (G.alloc (.cells (cZ zf zs zm zl zh a' fr.length c') 42))
        have hws := G.size
        have HRI := Lib.hid hri
        clear hzd hri G
        by_cases t1 : f < zf
        · have HNX2 := Lib.hid (HNX.out (inZ_f (.inl t1)))
          go_wp2
          exact ⟨⟨i + 1, by go_num, by omega, HNX2, HG.out⟩, by simp [intOf] <;> omega⟩
        · by_cases t2 : zf + zs ≤ f
          · have HNX2 := Lib.hid (HNX.out (inZ_f (.inr t2)))
            go_wp2
            exact ⟨⟨i + 1, by go_num, by omega, HNX2, HG.out⟩, by simp [intOf] <;> omega⟩
          · have HW := HWH.out (inZ_t (show zf ≤ f by omega) (show f < zf + zs by omega))
            replace HX5 := Lib.hid (HX5.out HW)
            replace HX0 := Lib.hid (HX0.out HW)
            have HBX := Lib.hid (Own.new wo 42 (cZ zf zs zm zl zh a' fr.length c'))
            have HRI2 := Lib.hid (HRI.out.keep (q := p) (w' := wo.alloc (.cells (cZ zf zs zm zl zh a' fr.length c') 42)) (by simp) (fun _ a _ => a) fun g _ hg => Below.heap_alloc wo _ g hg)
            have hsz : wo.heap.size + 1 = (wo.alloc (.cells (cZ zf zs zm zl zh a' fr.length c') 42)).heap.size := by simp
            clear HW HNX HWH HRI
            obtain ⟨m, hm⟩ : ∃ m, fr.length = m := ⟨_, rfl⟩
            have HM := Lib.hid hm
            rw [hm] at hfr HBX HRI2 hsz HG c5 hcp
            clear hm
            go_wp2_with fail
            generalize hsx : wo.heap.size = sx at *
            generalize World.alloc wo _ = wa at *
            clear c0 c1 c2 c3 c4 c5 hg hsx
            go_loopw [8, 9, 10] (fun fv bv kv wi => ∃ (k : Nat) (b : Bool) (F : List Int) (r : Value), r = fv ∧ bv = .bool b ∧ kv = .int .i64 k ∧ k ≤ m ∧ Hid (GvI f fr k b F) ∧ RowE 3 1 enc1 wi wa.heap.size r F ∧ Grew wa wi) (fun _ _ kv _ => m - (intOf kv).toNat)
            case atStart => exact ⟨0, false, [], _, rfl, rfl, rfl, by omega, Lib.hid (GvI.zero f fr), RowE.nil _ _, Grew.refl _⟩
            case round =>
              obtain ⟨k, b, F, r, rfl, rfl, rfl, hk, HF, R, G2⟩ := hrel
              obtain ⟨wi, rfl⟩ : ∃ wi : World, wi = wr := ⟨_, rfl⟩
              obtain ⟨z0, z1, z2, z3, z4, z5⟩ := (HBX.out.grew G2).six
              have hFl := HF.out.len
              have hx6 : F.length < 1000000 := by omega
              have hz6 : ∀ o, wa.heap.size ≤ (wi.alloc o).heap.size := fun o => by have := G2.size; simp; omega
              by_cases hkm : k < m
              · have hkL : k < fr.length := by rw [HM.out]; exact hkm
                obtain ⟨gf, of, rfl, -, hgf, x0⟩ := HRI2.out.at_ hkL
                have hgi : gf < wi.heap.size := Nat.lt_of_lt_of_le hgf G2.size
                have x1 := (G2.cells.1 gf _ hgf).trans x0
                have HEX : Hid (fr.getD k 0 = f → f ∈ fr) := Lib.hid fun h => by rw [← h, getD_get hkL]; exact List.getElem_mem hkL
                have HP1 : Hid (b = false → ¬fr.getD k 0 = f → f < fr.getD k 0 → GvI f fr (k + 1) true (F ++ [f] ++ [fr.getD k 0])) := Lib.hid fun h1 h2 h3 => (h1 ▸ HF.out : GvI f fr k false F).put hkL h2 h3
                have HP2 : Hid (b = false → ¬fr.getD k 0 = f → ¬f < fr.getD k 0 → GvI f fr (k + 1) false (F ++ [fr.getD k 0])) := Lib.hid fun h1 h2 h3 => (h1 ▸ HF.out : GvI f fr k false F).skip hkL h2 h3
                have HP3 : Hid (b = true → ¬fr.getD k 0 = f → GvI f fr (k + 1) true (F ++ [fr.getD k 0])) := Lib.hid fun h1 h2 => (h1 ▸ HF.out : GvI f fr k true F).after hkL h2
                generalize fr.getD k 0 = y at *
                have j0 : (0 : Int) ≤ (k : Int) := by omega
                have j1 : (k : Int) < (m : Int) := by omega
                have HG2 := Lib.hid G2
                have HR := Lib.hid R
                have HXC := Lib.hid x0
                clear x0 G2 R
                by_cases hy : y = f
                · have q0 : (y == f) = true := by simp [hy]
                  have HX := Lib.hid (HX5.out (HEX.out hy))
                  have HGG := Lib.hid (HG.out.trans HG2.out)
                  go_wp2
                  refine bodyPost_ret (v := .tuple #[.slice (some ⟨g, 0, none⟩) n c, .int .i64 5]) (by simp [results, Try.results15, go_sem]) rfl ⟨_, by rw [HX.out], by rw [HX.out]; exact (HZ.out.grew HGG.out).mono fun g h _ => pN_l h, HGG.out⟩
                · have q0 : (y == f) = false := by simp [hy]
                  cases b
                  · by_cases hfy : f < y
                    · have HF2 := Lib.hid (HP1.out rfl hy hfy)
                      clear HP1 HP2 HP3 HEX HX5
                      go_upto_region 18 with (at_builtin; go_loud (
                        refine wpList_append_row _ rfl _ _ 22 rfl wa.heap.size info_int Try.underlying22 (by decide) (by decide) enc1_len _ (F) rfl (HR.out.alloc _) _ _ f rfl (Own.new _ _ _) enc1_one hx6 (by decide) (hz6 _) ?_
                        intro g3 cap3 w3 R3 G3 o3
                        have HG3 := Lib.hid (Grew.keptA (B := wa.heap.size) (HG2.out.alloc _) G3 (fun x e => HR.out.above x e) (Nat.le_refl _))
                        have HR3 := Lib.hid R3
                        clear R3 G3 o3 z0 z1 z2 z3 z4 z5
                        obtain ⟨z0, z1, z2, z3, z4, z5⟩ := (HBX.out.grew HG3.out).six
                        have zfz := (HBX.out.grew HG3.out).frozen 5))
                      have x9 := (HG3.out.cells.1 gf _ hgf).trans HXC.out
                      have hx7 : (F ++ [f]).length < 1000000 := by rw [List.length_append, List.length_singleton]; omega
                      have hz7 : ∀ o, wa.heap.size ≤ (w3.alloc o).heap.size := fun o => by have := HG3.out.size; simp; omega
                      go_wp2_with (at_builtin; go_loud (
                        refine wpList_append_row _ rfl _ _ 22 rfl wa.heap.size info_int Try.underlying22 (by decide) (by decide) enc1_len _ (F ++ [f]) rfl (HR3.out.alloc _) _ _ y rfl (Own.new _ _ _) enc1_one hx7 (by decide) (hz7 _) ?_
                        intro g4 cap4 w4 R4 G4 o4
                        have HG4 := Lib.hid (Grew.keptA (B := wa.heap.size) (HG3.out.alloc _) G4 (fun x e => HR3.out.above x e) (Nat.le_refl _))
                        have HR4 := Lib.hid R4
                        clear R4 G4 o4 z0 z1 z2 z3 z4 z5
                        obtain ⟨z0, z1, z2, z3, z4, z5⟩ := (HBX.out.grew HG4.out).six
                        have zfz := (HBX.out.grew HG4.out).frozen 5))
                      exact ⟨⟨k + 1, true, _, _, rfl, rfl, by go_num, by omega, HF2, (by have h := HR4.out; rw [List.length_append] at h; exact h), HG4.out⟩, by simp [intOf] <;> omega⟩
                    · have HF2 := Lib.hid (HP2.out rfl hy hfy)
                      clear HP1 HP2 HP3 HEX HX5
                      go_wp2_with (at_builtin; go_loud (
                        refine wpList_append_row _ rfl _ _ 22 rfl wa.heap.size info_int Try.underlying22 (by decide) (by decide) enc1_len _ (F) rfl (HR.out.alloc _) _ _ y rfl (Own.new _ _ _) enc1_one hx6 (by decide) (hz6 _) ?_
                        intro g3 cap3 w3 R3 G3 o3
                        have HG3 := Lib.hid (Grew.keptA (B := wa.heap.size) (HG2.out.alloc _) G3 (fun x e => HR.out.above x e) (Nat.le_refl _))
                        have HR3 := Lib.hid R3
                        clear R3 G3 o3 z0 z1 z2 z3 z4 z5
                        obtain ⟨z0, z1, z2, z3, z4, z5⟩ := (HBX.out.grew HG3.out).six
                        have zfz := (HBX.out.grew HG3.out).frozen 5))
                      exact ⟨⟨k + 1, false, _, _, rfl, rfl, by go_num, by omega, HF2, HR3.out, HG3.out⟩, by simp [intOf] <;> omega⟩
                  · have HF2 := Lib.hid (HP3.out rfl hy)
                    clear HP1 HP2 HP3 HEX HX5
                    go_wp2_with (at_builtin; go_loud (
                      refine wpList_append_row _ rfl _ _ 22 rfl wa.heap.size info_int Try.underlying22 (by decide) (by decide) enc1_len _ (F) rfl (HR.out.alloc _) _ _ y rfl (Own.new _ _ _) enc1_one hx6 (by decide) (hz6 _) ?_
                      intro g3 cap3 w3 R3 G3 o3
                      have HG3 := Lib.hid (Grew.keptA (B := wa.heap.size) (HG2.out.alloc _) G3 (fun x e => HR.out.above x e) (Nat.le_refl _))
                      have HR3 := Lib.hid R3
                      clear R3 G3 o3 z0 z1 z2 z3 z4 z5
                      obtain ⟨z0, z1, z2, z3, z4, z5⟩ := (HBX.out.grew HG3.out).six
                      have zfz := (HBX.out.grew HG3.out).frozen 5))
                    exact ⟨⟨k + 1, true, _, _, rfl, rfl, by go_num, by omega, HF2, HR3.out, HG3.out⟩, by simp [intOf] <;> omega⟩
              · obtain rfl : k = m := by omega
                have HG2 := Lib.hid G2
                have HR := Lib.hid R
                clear G2 R
                cases b
                · have h9 := GvI.end0 (f := f) (xs := fr) (F := F) (by rw [HM.out]; exact HF.out)
                  go_upto_region 21 with (at_builtin; go_loud (
                    refine wpList_append_row _ rfl _ _ 22 rfl wa.heap.size info_int Try.underlying22 (by decide) (by decide) enc1_len _ (F) rfl (HR.out.alloc _) _ _ f rfl (Own.new _ _ _) enc1_one hx6 (by decide) (hz6 _) ?_
                    intro g3 cap3 w3 R3 G3 o3
                    have HG3 := Lib.hid (Grew.keptA (B := wa.heap.size) (HG2.out.alloc _) G3 (fun x e => HR.out.above x e) (Nat.le_refl _))
                    have HR3 := Lib.hid R3
                    clear R3 G3 o3 z0 z1 z2 z3 z4 z5
                    obtain ⟨z0, z1, z2, z3, z4, z5⟩ := (HBX.out.grew HG3.out).six
                    have zfz := (HBX.out.grew HG3.out).frozen 5))
                  generalize Value.slice (some ⟨g3, 0, none⟩) (F.length + 1) cap3 = r3 at *
                  have HRR : Hid (RowE 3 1 enc1 w3 wa.heap.size r3 (insI f fr)) := Lib.hid (h9.2 ▸ HR3.out)
                  have hins := h9.1
                  clear h9 HR3
                  have HIN := Lib.hid hins
                  obtain ⟨a3, c3, rfl, hr3, hc3⟩ := HRR.out.rdI
                  have HR9 := Lib.hid hr3
                  clear hr3
                  go_upto_region 22 with fail
                  have G4 : Grew w (World.setCell w3 ⟨sx, 5, none⟩ (.slice a3 (insI f fr).length c3)) := (HG.out.trans HG3.out).set (p := ⟨sx, 5, none⟩) hws _
                  have HR4 := Lib.hid (HR9.out.keep (q := pN p w.heap.size) (w' := World.setCell w3 ⟨sx, 5, none⟩ (.slice a3 (insI f fr).length c3)) (by simp [World.setCell]) (fun g h _ => .inr (by omega)) fun g h _ => Below.heap_setCell w3 _ _ g (by show g ≠ sx; omega))
                  have hL1 : L.length ≤ 1000 := by rw [HN.out]; exact hl
                  have hw4 := G4.size
                  have HX := Lib.hid (HX0.out HIN.out)
                  go_wp2_with fail
                  with_reducible refine (with_q (i := i) (z := ⟨zf, zs, zm, zl, zh, insI f fr⟩) (HZ.out.grew G4) hL1 hiL HR4.out hc3 hw4).mono ?_
                  rintro e5 w5 ⟨v5, rfl, R5, G5⟩
                  have HR5 := Lib.hid R5
                  have HG5 := Lib.hid (G4.trans G5)
                  clear R5 G4 G5 z0 z1 z2 z3 z4 z5
                  go_wp2
                  refine bodyPost_ret (v := .tuple #[v5, .int .i64 0]) (by simp [results, Try.results15, go_sem]) rfl ⟨v5, by rw [HX.out], by rw [HX.out]; exact HR5.out, HG5.out⟩
                · have h9 := GvI.end1 (f := f) (xs := fr) (F := F) (by rw [HM.out]; exact HF.out)
                  have HRR : Hid (RowE 3 1 enc1 wi wa.heap.size r (insI f fr)) := Lib.hid (h9.2 ▸ HR.out)
                  have hins := h9.1
                  have zfz := (HBX.out.grew HG2.out).frozen 5
                  clear h9
                  have HIN := Lib.hid hins
                  obtain ⟨a3, c3, rfl, hr3, hc3⟩ := HRR.out.rdI
                  have HR9 := Lib.hid hr3
                  clear hr3
                  go_upto_region 22 with fail
                  have G4 : Grew w (World.setCell wi ⟨sx, 5, none⟩ (.slice a3 (insI f fr).length c3)) := (HG.out.trans HG2.out).set (p := ⟨sx, 5, none⟩) hws _
                  have HR4 := Lib.hid (HR9.out.keep (q := pN p w.heap.size) (w' := World.setCell wi ⟨sx, 5, none⟩ (.slice a3 (insI f fr).length c3)) (by simp [World.setCell]) (fun g h _ => .inr (by omega)) fun g h _ => Below.heap_setCell wi _ _ g (by show g ≠ sx; omega))
                  have hL1 : L.length ≤ 1000 := by rw [HN.out]; exact hl
                  have hw4 := G4.size
                  have HX := Lib.hid (HX0.out HIN.out)
                  go_wp2_with fail
                  with_reducible refine (with_q (i := i) (z := ⟨zf, zs, zm, zl, zh, insI f fr⟩) (HZ.out.grew G4) hL1 hiL HR4.out hc3 hw4).mono ?_
                  rintro e5 w5 ⟨v5, rfl, R5, G5⟩
                  have HR5 := Lib.hid R5
                  have HG5 := Lib.hid (G4.trans G5)
                  clear R5 G4 G5 z0 z1 z2 z3 z4 z5
                  go_wp2
                  refine bodyPost_ret (v := .tuple #[v5, .int .i64 0]) (by simp [results, Try.results15, go_sem]) rfl ⟨v5, by rw [HX.out], by rw [HX.out]; exact HR5.out, HG5.out⟩
      · obtain rfl : i = n := by omega
        have HX := Lib.hid (HX2.out (whZ_none (by rw [HN.out]; exact HB.out)))
        go_wp2
        refine bodyPost_ret (v := .tuple #[.slice a i c, .int .i64 2]) (by simp [results, Try.results15, go_sem]) rfl ⟨_, by rw [HX.out], by rw [HX.out]; exact (HZ.out.grew G).mono fun g h _ => pN_l h, G⟩
end Go.Proofs.Ytphccdfdknihdaa
