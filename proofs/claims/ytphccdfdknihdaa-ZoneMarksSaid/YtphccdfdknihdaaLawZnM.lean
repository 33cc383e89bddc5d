/- ZoneMarks holds: when as many frames as are wanted have come back, none is low and nothing is wanted. -/
import Derived.Test.YtphccdfdknihdaaZm1
namespace Go.Mine
open Go Go.RowKit
theorem sumZ_set (g : Zo → Int) : ∀ {L : List Zo} {i : Nat} {z : Zo}, i < L.length → sumZ g (L.set i z) = sumZ g L - g (L.getD i zoZ) + g z
  | y :: L, 0, z, _ => by
    show g z + sumZ g L = g y + sumZ g L - g y + g z
    omega
  | y :: L, i + 1, z, h => by
    have := sumZ_set g (L := L) (i := i) (z := z) (by simpa using h)
    show g y + sumZ g (L.set i z) = g y + sumZ g L - g (L.getD i zoZ) + g z
    omega
theorem wh_at {L : List Zo} {f : Int} {i : Nat} (hok : okB L = true) (hi : i < L.length) (h1 : (L.getD i zoZ).f ≤ f) (h2 : f < (L.getD i zoZ).f + (L.getD i zoZ).s) : whZ f L = some i :=
  whZ_some hi (decide_eq_true ⟨h1, h2⟩) fun j hj => by
    cases h : inZ f (L.getD j zoZ)
    · rfl
    · obtain ⟨h3, h4⟩ := of_decide_eq_true h
      have := zone_one (okB_iff.1 hok).2 (getZ (show j < L.length by omega)) (getZ hi) h3 h4 h1 h2
      omega
theorem full_len : ∀ {s : Nat} {a : Int} {xs : List Int}, ascI xs → (∀ g, a ≤ g → g < a + s → g ∈ xs) → (∀ x ∈ xs, a ≤ x) → s ≤ xs.length
  | 0, _, _, _, _, _ => Nat.zero_le _
  | s + 1, a, xs, ha, h, hx => by
    cases xs with
    | nil => exact absurd (h a (Int.le_refl _) (by omega)) (by simp)
    | cons y t =>
      obtain ⟨h1, h2⟩ := List.pairwise_cons.1 ha
      have hy : y = a := by
        rcases List.mem_cons.1 (h a (Int.le_refl _) (by omega)) with e | e
        · exact e.symm
        · have := h1 a e
          have := hx y List.mem_cons_self
          omega
      subst hy
      have := full_len (s := s) (a := y + 1) h2 (fun g h3 h4 => by
        rcases List.mem_cons.1 (h g (by omega) (by omega)) with e | e
        · omega
        · exact e) (fun x hx => by have := h1 x hx; omega)
      simpa using this
theorem getD_set_ne {L : List Zo} {i j : Nat} {z : Zo} (h : j ≠ i) : (L.set i z).getD j zoZ = L.getD j zoZ := by simp [List.getD, List.getElem?_set, Ne.symm h]
theorem getD_set_eq {L : List Zo} {i : Nat} {z : Zo} (h : i < L.length) : (L.set i z).getD i zoZ = z := by simp [List.getD, h]
/-- So much is wanted, and nothing of the zones below i. -/
def MkO (L : List Zo) (i : Nat) (n : Int) : Prop := okB L = true ∧ n = sumZ waN L ∧ ∀ j, j < i → waN (L.getD j zoZ) = 0
/-- The frames of zone i below f are free. -/
def MkF (L : List Zo) (i : Nat) (f : Int) : Prop := ∀ g, (L.getD i zoZ).f ≤ g → g < f → g ∈ frI L i
theorem wa_pos (z : Zo) : 0 ≤ waN z := by unfold waN; omega
theorem sum_pos (L : List Zo) : 0 ≤ sumZ waN L := by
  induction L with
  | nil => exact Int.le_refl _
  | cons z L ih =>
    have := wa_pos z
    show 0 ≤ waN z + sumZ waN L
    omega
theorem sum_le : ∀ {L : List Zo} {nx : Int}, RtZ nx L → 1 ≤ nx → sumZ waN L ≤ 64 * L.length
  | [], _, _, _ => Int.le_refl _
  | z :: L, nx, h, h1 => by
    have h2 := sum_le h.2 (by have := h.1.2.1; omega)
    have h3 := h.1
    have h4 : waN z ≤ 64 := by
      obtain ⟨a, b, c, d, e, f, g, -⟩ := h3
      unfold waN
      omega
    show waN z + sumZ waN L ≤ 64 * ((L.length + 1 : Nat) : Int)
    omega
theorem MkO.bound {L : List Zo} {i : Nat} {n : Int} (h : MkO L i n) : 0 ≤ n ∧ n ≤ 64 * L.length := by
  obtain ⟨h1, h2, -⟩ := h
  have := sum_pos L
  have := sum_le (okB_iff.1 h1).2 (Int.le_refl _)
  omega
theorem sum_get (L : List Zo) {i : Nat} (hi : i < L.length) : waN (L.getD i zoZ) ≤ sumZ waN L := by
  induction L generalizing i with
  | nil => exact absurd hi (by simp)
  | cons z L ih =>
    cases i with
    | zero =>
      have := sum_pos L
      show waN z ≤ waN z + sumZ waN L
      omega
    | succ i =>
      have := ih (i := i) (by simpa using hi)
      have := wa_pos z
      show waN (L.getD i zoZ) ≤ waN z + sumZ waN L
      omega
theorem MkO.put {L : List Zo} {i : Nat} {n f : Int} (h : MkO L i n) (hF : MkF L i f) (hi : i < L.length) (h1 : (L.getD i zoZ).f ≤ f) (h2 : f < (L.getD i zoZ).f + (L.getD i zoZ).s) (hn : ¬f ∈ frI L i) (hl : ((frI L i).length : Int) < (L.getD i zoZ).hi) :
    MkO (setF L i (insI f (frI L i))) i (n - 1) ∧ MkF (setF L i (insI f (frI L i))) i (f + 1) ∧ 1 ≤ n := by
  obtain ⟨a, b, c⟩ := h
  have hw := wh_at a hi h1 h2
  have hok : okB (setF L i (insI f (frI L i))) = true := by
    have := ok_give (f := f) a
    rwa [givX_0 a hw hn] at this
  have hlen : (insI f (frI L i)).length = (frI L i).length + 1 := (insI_perm f _).length_eq
  have hz : waN { L.getD i zoZ with fr := insI f (frI L i) } = waN (L.getD i zoZ) - 1 := by
    show max ((L.getD i zoZ).hi - ((insI f (frI L i)).length : Int)) 0 = max ((L.getD i zoZ).hi - ((frI L i).length : Int)) 0 - 1
    rw [hlen]
    omega
  have hge : 1 ≤ waN (L.getD i zoZ) := by
    show 1 ≤ max ((L.getD i zoZ).hi - ((frI L i).length : Int)) 0
    omega
  refine ⟨⟨hok, ?_, fun j hj => ?_⟩, fun g h3 h4 => ?_, ?_⟩
  · unfold setF
    rw [sumZ_set waN hi, hz]
    omega
  · unfold setF
    rw [getD_set_ne (by omega)]
    exact c j hj
  · unfold setF at h3
    rw [getD_set_eq hi] at h3
    unfold frI setF
    rw [getD_set_eq hi]
    refine (insI_perm f _).mem_iff.2 ?_
    by_cases e : g = f
    · rw [e]; exact List.mem_cons_self
    · exact List.mem_cons_of_mem _ (hF g h3 (by omega))
  · have := sum_get L hi
    omega
theorem MkF.next {L : List Zo} {i : Nat} {f : Int} (hF : MkF L i f) (hm : f ∈ frI L i) : MkF L i (f + 1) := fun g h1 h2 => by
  by_cases e : g = f
  · rw [e]; exact hm
  · exact hF g h1 (by omega)
theorem MkO.next {L : List Zo} {i : Nat} {n f : Int} (h : MkO L i n) (hF : MkF L i f) (hi : i < L.length) (he : (L.getD i zoZ).f + (L.getD i zoZ).s ≤ f ∨ (L.getD i zoZ).hi ≤ ((frI L i).length : Int)) : MkO L (i + 1) n := by
  obtain ⟨a, b, c⟩ := h
  refine ⟨a, b, fun j hj => ?_⟩
  by_cases e : j = i
  · subst e
    have hlen : (L.getD j zoZ).hi ≤ ((frI L j).length : Int) := by
      rcases he with he | he
      · obtain ⟨nx, h1, h2⟩ := ok_at a hi
        obtain ⟨b1, b2, b3, b4, b5, b6, b7, b8, b9⟩ := h2
        have := full_len (s := (L.getD j zoZ).s.toNat) (a := (L.getD j zoZ).f) b9 (fun g h3 h4 => hF g h3 (by omega)) (fun x hx => (b8 x hx).1)
        have h8 : (L.getD j zoZ).s.toNat ≤ (frI L j).length := this
        omega
      · exact he
    show max ((L.getD j zoZ).hi - ((frI L j).length : Int)) 0 = 0
    omega
  · exact c j (by omega)
theorem MkO.last {L : List Zo} {n : Int} (h : MkO L L.length n) : n = 0 ∧ wanX L = 0 ∧ lowX L = false := by
  obtain ⟨a, b, c⟩ := h
  have hs : ∀ M : List Zo, (∀ z ∈ M, waN z = 0) → sumZ waN M = 0 := fun M => by
    induction M with
    | nil => intro _; rfl
    | cons z M ih =>
      intro h
      have h1 := h z List.mem_cons_self
      have h2 := ih fun y hy => h y (List.mem_cons_of_mem _ hy)
      show waN z + sumZ waN M = 0
      omega
  have hz : ∀ z ∈ L, waN z = 0 := fun z hz => by
    obtain ⟨k, hk, rfl⟩ := List.getElem_of_mem hz
    have := c k hk
    rwa [getD_get hk] at this
  have h0 := hs L hz
  refine ⟨by omega, by unfold wanX; rw [a]; exact h0, ?_⟩
  unfold lowX
  rw [a, Bool.true_and, List.any_eq_false]
  intro z hzm
  obtain ⟨k, hk, rfl⟩ := List.getElem_of_mem hzm
  obtain ⟨nx, h1, h2⟩ := ok_at a hk
  rw [getD_get hk] at h2
  obtain ⟨b1, b2, b3, b4, b5, b6, b7, -⟩ := h2
  have h3 : max (L[k].hi - (L[k].fr.length : Int)) 0 = 0 := hz _ hzm
  have h4 : ¬(L[k].fr.length : Int) < L[k].lo := by omega
  unfold loQ
  rw [decide_eq_false h4]
  decide
theorem MkF.start {L : List Zo} {i : Nat} : MkF L i (L.getD i zoZ).f := fun g h1 h2 => by omega
end Go.Mine
namespace Go.Proofs.Ytphccdfdknihdaa
open Go.ChangeShapes Go.WideShapes Go.ChangeAt Go.RowKit Go.Mine

set_option maxRecDepth 100000 in
set_option maxHeartbeats 8000000 in
theorem zmrk_core (A : Option Addr) (c : Nat) (xs : List Int) (w : World) (hr : IntRow w A xs) (hm : xs.length ≤ maxLen) :
    Calls Try.prog 8 #[.slice A xs.length c] w (RetG (.bool true) w) := by
  have tp := Tp.made hr hm c 25
  have gA := (Grew.refl w).alloc (.cells #[.slice A xs.length c, .int .i64 0] 25)
  have hbw : w.heap.size + 1 ≤ (w.alloc (.cells #[.slice A xs.length c, .int .i64 0] 25)).heap.size := by simp
  clear hr hm
  generalize hX : xs.length = X at *
  clear hX
  go_enter Try.func8, Try.ntmps8
  go_wp2_with fail
  with_reducible refine (zones_x tp hbw).mono ?_
  rintro e w1 ⟨v1, L1, rfl, HOK, hL3, Z1, -, G1⟩
  have HZ1 := Lib.hid (Z1.mono (q := fun _ => True) fun _ _ _ => trivial)
  have HG1 := Lib.hid (gA.past G1 (Nat.le_refl _))
  have HSM := Lib.hid (ok_small HOK)
  obtain ⟨n0, hn0⟩ : ∃ n, wanX L1 = n := ⟨_, rfl⟩
  have HMK : Hid (MkO L1 0 n0) := Lib.hid ⟨HOK, by rw [← hn0]; unfold wanX; rw [if_pos HOK], fun j hj => by omega⟩
  have HW := Lib.hid hn0
  clear Z1 G1 gA tp hbw HOK hn0
  go_wp2_with fail
  with_reducible refine (want_p HZ1.out HSM.out HW.out).mono ?_
  rintro e w2 ⟨rfl, g2⟩
  have HZ2 := Lib.hid (HZ1.out.grew g2)
  have HG2 := Lib.hid (HG1.out.trans g2)
  obtain ⟨N, hN⟩ : ∃ N, L1.length = N := ⟨_, rfl⟩
  have HN := Lib.hid hN
  obtain ⟨a1, c1, rfl⟩ := HZ2.out.slice
  rw [hN] at hL3 HZ2 ⊢
  clear g2 hN HW HSM HZ1 HG1
  go_wp2_with fail
  go_loopw [3, 4, 5] (fun xv nv iv wr => ∃ (L : List Zo) (i : Nat) (n : Int) (a : Option Addr) (c : Nat), xv = .slice a N c ∧ nv = .int .i64 n ∧ iv = .int .i64 i ∧ i ≤ N ∧ Hid (L.length = N) ∧ Hid (MkO L i n) ∧ ZsR wr (fun _ => True) (.slice a N c) L ∧ Grew w wr) (fun _ _ iv _ => N - (intOf iv).toNat)
  case atStart => exact ⟨L1, 0, n0, _, _, rfl, rfl, rfl, by omega, HN, HMK, HZ2.out, HG2.out⟩
  case round =>
    clear HZ2 HG2 HMK HN
    obtain ⟨L, i, n, a, c2, rfl, rfl, rfl, hi, HLN, HMK, Z, G⟩ := hrel
    obtain ⟨wo, rfl⟩ : ∃ wo : World, wo = wr := ⟨_, rfl⟩
    have HZ := Lib.hid Z
    have HG := Lib.hid G
    clear Z G
    by_cases hlt : i < N
    · have hiL : i < L.length := by rw [HLN.out]; exact hlt
      have hi0 : (0 : Int) ≤ (i : Int) := by omega
      have hi1 : (i : Int) < (N : Int) := by omega
      obtain ⟨g, a', c', rfl, -, hg, x0, -⟩ := HZ.out.at_ hiL
      have hzb : 1 ≤ (L.getD i zoZ).f ∧ 1 ≤ (L.getD i zoZ).s ∧ (L.getD i zoZ).f + (L.getD i zoZ).s ≤ 65 := by
        obtain ⟨nx, h1, h2⟩ := ok_at HMK.out.1 hiL
        obtain ⟨b1, b2, b3, -⟩ := h2
        omega
      have HFS : Hid (MkF L i (L.getD i zoZ).f) := Lib.hid MkF.start
      obtain ⟨zf, hzf⟩ : ∃ zf, (L.getD i zoZ).f = zf := ⟨_, rfl⟩
      obtain ⟨zs, hzs⟩ : ∃ zs, (L.getD i zoZ).s = zs := ⟨_, rfl⟩
      obtain ⟨zh, hzh⟩ : ∃ zh, (L.getD i zoZ).hi = zh := ⟨_, rfl⟩
      rw [hzf] at x0 HFS
      rw [hzf, hzs] at hzb
      have HF0 := Lib.hid (And.intro hzf (And.intro hzs hzh))
      obtain ⟨hz1, hz2, hz3⟩ := hzb
      clear hzf hzs hzh
      go_wp2_with fail
      go_loopw [3, 4, 6] (fun xv nv fv wr => ∃ (L : List Zo) (n f : Int) (a : Option Addr) (c : Nat), xv = .slice a N c ∧ nv = .int .i64 n ∧ fv = .int .i64 f ∧ zf ≤ f ∧ f ≤ zf + zs ∧ Hid (L.length = N) ∧ Hid (MkO L i n) ∧ Hid (MkF L i f) ∧ Hid ((L.getD i zoZ).f = zf ∧ (L.getD i zoZ).s = zs ∧ (L.getD i zoZ).hi = zh) ∧ ZsR wr (fun _ => True) (.slice a N c) L ∧ Grew w wr) (fun _ _ fv _ => (zf + zs - intOf fv).toNat)
      case atStart => exact ⟨L, n, zf, _, _, rfl, rfl, rfl, by omega, by omega, HLN, HMK, HFS, HF0, HZ.out, HG.out⟩
      case round =>
        clear HZ HG HFS HF0 HLN HMK x0 hg hiL
        obtain ⟨L, n, f, a, c2, rfl, rfl, rfl, hf1, hf2, HLN, HMK, HFF, HF0, Z, G⟩ := hrel
        obtain ⟨wi, rfl⟩ : ∃ wi : World, wi = wr := ⟨_, rfl⟩
        have HZ := Lib.hid Z
        have HG := Lib.hid G
        clear Z G
        have hiL : i < L.length := by rw [HLN.out]; exact hlt
        obtain ⟨g, a', c', rfl, -, hg, x0, x1, -, -, x4, x5, -, -⟩ := HZ.out.at_ hiL
        have hfr := (ok_small HMK.out.1).2 i hiL
        have HPT : Hid (f < zf + zs → ((frI L i).length : Int) < zh → ¬f ∈ frI L i → MkO (setF L i (insI f (frI L i))) i (n - 1) ∧ MkF (setF L i (insI f (frI L i))) i (f + 1) ∧ 1 ≤ n) := Lib.hid fun h1 h2 h3 => by
          obtain ⟨e1, e2, e3⟩ := HF0.out
          exact HMK.out.put HFF.out hiL (by omega) (by omega) h3 (by omega)
        have HNX : Hid (zf + zs ≤ f ∨ zh ≤ ((frI L i).length : Int) → MkO L (i + 1) n) := Lib.hid fun h => by
          obtain ⟨e1, e2, e3⟩ := HF0.out
          exact HMK.out.next HFF.out hiL (by omega)
        have HWH : Hid (f < zf + zs → whZ f L = some i) := Lib.hid fun h => by
          obtain ⟨e1, e2, e3⟩ := HF0.out
          exact wh_at HMK.out.1 hiL (by omega) (by omega)
        rw [HF0.out.1] at x0
        rw [HF0.out.2.1] at x1
        rw [HF0.out.2.2] at x4
        have hfi : frI L i = (L.getD i zoZ).fr := rfl
        rw [← hfi] at x5 hfr
        clear hfi
        obtain ⟨m, hm⟩ : ∃ m, (frI L i).length = m := ⟨_, rfl⟩
        rw [hm] at x5 HPT HNX hfr
        have hnb := HMK.out.bound
        rw [HLN.out] at hnb
        clear hm
        by_cases t1 : f < zf + zs
        · by_cases t2 : (m : Int) < zh
          · have HSM := Lib.hid (ok_small HMK.out.1)
            by_cases hmem : f ∈ frI L i
            · have HX := Lib.hid (givX_5 HMK.out.1 (HWH.out t1) hmem)
              have HFN := Lib.hid (HFF.out.next hmem)
              clear hmem HPT HNX HWH
              go_upto_region 7 with fail
              go_quiet (fail)
              revert nq; intro nq1
              have HZd := Lib.hid (HZ.out.grew ((Grew.refl wi).drewN nq1))
              have HGd := Lib.hid (HG.out.drewN nq1)
              clear x0 x1 x4 x5 hg
              go_wp2_with fail
              with_reducible refine (give_p HZd.out HSM.out).mono ?_
              intro e w5 h
              obtain ⟨v5, rfl, -, G5⟩ := h.split HX.out
              have HZ5 := Lib.hid (HZd.out.grew G5)
              have HG5 := Lib.hid (HGd.out.trans G5)
              clear h G5
              go_wp2_with fail
              go_roundw
              case rel => exact ⟨L, n, f + 1, _, _, rfl, rfl, by go_num, by omega, by omega, HLN, HMK, HFN, HF0, HZ5.out, HG5.out⟩
              case measure => simp [intOf]; omega
            · have HX := Lib.hid (givX_0 HMK.out.1 (HWH.out t1) hmem)
              obtain ⟨p1, p2, p3⟩ := HPT.out t1 t2 hmem
              have HM2 := Lib.hid p1
              have HF2 := Lib.hid p2
              have HL2 : Hid ((setF L i (insI f (frI L i))).length = N) := Lib.hid (by rw [setF_len, HLN.out])
              have HF3 : Hid (((setF L i (insI f (frI L i))).getD i zoZ).f = zf ∧ ((setF L i (insI f (frI L i))).getD i zoZ).s = zs ∧ ((setF L i (insI f (frI L i))).getD i zoZ).hi = zh) := Lib.hid (by unfold setF; rw [getD_set_eq hiL]; exact HF0.out)
              clear hmem HPT HNX HWH p1 p2
              go_upto_region 7 with fail
              go_quiet (fail)
              revert nq; intro nq1
              have HZd := Lib.hid (HZ.out.grew ((Grew.refl wi).drewN nq1))
              have HGd := Lib.hid (HG.out.drewN nq1)
              clear x0 x1 x4 x5 hg
              go_wp2_with fail
              with_reducible refine (give_p HZd.out HSM.out).mono ?_
              intro e w5 h
              obtain ⟨v5, rfl, Z5, G5⟩ := h.split HX.out
              have HZ5 := Lib.hid (Z5.mono (q := fun _ => True) fun _ _ _ => trivial)
              have HG5 := Lib.hid (HGd.out.trans G5)
              clear h Z5 G5
              generalize setF L i (insI f (frI L i)) = L2 at *
              obtain ⟨a5, c5, rfl⟩ := HZ5.out.slice
              rw [HL2.out] at HZ5 ⊢
              go_wp2_with fail
              go_roundw
              case rel => exact ⟨L2, n - 1, f + 1, _, _, rfl, by go_num, by go_num, by omega, by omega, HL2, HM2, HF2, HF3, HZ5.out, HG5.out⟩
              case measure => simp [intOf]; omega
          · have HM2 := Lib.hid (HNX.out (.inr (by omega)))
            clear HPT HNX HWH
            go_upto_region 7 with fail
            go_quiet (fail)
            revert nq; intro nq1
            have HZd := Lib.hid (HZ.out.grew ((Grew.refl wi).drewN nq1))
            have HGd := Lib.hid (HG.out.drewN nq1)
            clear x0 x1 x4 x5 hg
            go_wp2_with fail
            go_roundw
            case rel => exact ⟨L, i + 1, n, _, _, rfl, rfl, by go_num, by omega, HLN, HM2, HZd.out, HGd.out⟩
            case measure => simp [intOf]; omega
        · have HM2 := Lib.hid (HNX.out (.inl (by omega)))
          clear HPT HNX HWH
          go_upto_region 7 with fail
          go_quiet (fail)
          revert nq; intro nq1
          have HZd := Lib.hid (HZ.out.grew ((Grew.refl wi).drewN nq1))
          have HGd := Lib.hid (HG.out.drewN nq1)
          clear x0 x1 x4 x5 hg
          go_wp2_with fail
          go_roundw
          case rel => exact ⟨L, i + 1, n, _, _, rfl, rfl, by go_num, by omega, HLN, HM2, HZd.out, HGd.out⟩
          case measure => simp [intOf]; omega
    · obtain rfl : i = N := by omega
      obtain ⟨e0, e1, e2⟩ := MkO.last (show MkO L L.length n by rw [HLN.out]; exact HMK.out)
      have HSM := Lib.hid (ok_small HMK.out.1)
      have HE1 := Lib.hid e1
      have HE2 := Lib.hid e2
      subst e0
      clear e1 e2
      go_wp2_with fail
      with_reducible refine (want_p HZ.out HSM.out HE1.out).mono ?_
      rintro e w5 ⟨rfl, g5⟩
      have HZ5 := Lib.hid (HZ.out.grew g5)
      have HG5 := Lib.hid (HG.out.trans g5)
      clear g5
      go_wp2_with fail
      with_reducible refine (low_p HZ5.out HSM.out HE2.out).mono ?_
      rintro e w6 ⟨rfl, g6⟩
      have HG6 := Lib.hid (HG5.out.trans g6)
      clear g6
      go_wp2_with fail
      with_reducible refine (awake_any _).mono ?_
      rintro e w7 ⟨rfl, g7⟩
      have HG7 := Lib.hid (HG6.out.trans g7)
      clear g7
      go_wp2
      go_ret
      exact ⟨by simp, HG7.out⟩

theorem Try.own : ownKnob Try.prog.godebug = none := by kernel_rfl
theorem Try.laidOut : laidOutB Try.prog = true := by kernel_rfl

theorem zoneMarks_contract (W : World) (base : Nat) (args : Array Value) (H : Type) (enc : TypeId × Value → H) (ds : List (DataW H)) (p : List MemPlace)
    (hval : ∀ (j : Nat) t v, Try.f8.params[j]? = some t → args[j]? = some v → Value.okWide Try.prog W .any base t v)
    (hA : DataW.TrodAll enc Try.prog W 0 (fun _ => true) true Try.f8.params.toList args.toList ds p) :
    (∃ d0, ds = [d0]) ∧ Calls Try.prog 8 args W fun e W' => e = .returned (.bool true) ∧ Below W.heap.size W W' := by
  rw [Try.params8] at hval hA
  obtain ⟨v0, d0, p0, ha, hd, hp, h0⟩ := args_1 hA
  subst ha hd
  obtain ⟨A0, c0, xs0, rfl, hr0, hm0⟩ := open_introw Try.underlying22 Try.underlying3 (by kernel_rfl) (hval 0 _ _ rfl rfl) h0
  exact ⟨⟨_, rfl⟩, (zmrk_core A0 c0 xs0 W hr0 hm0).mono fun _ _ h => h⟩

set_option maxRecDepth 100000 in
theorem zoneMarks_lifted (os : Os) (started : os.Started) (H : Type) (enc : TypeId × Value → H) :
    ReturnsInHanded {} Try.checked os 8 .any (Rows.zoneMarksSpec.pre6 enc Try.prog Try.f8 Rows.zoneMarksRow.domain false) (Rows.zoneMarksSpec.post enc Try.prog Try.f8 false true false false) := by
  refine returnsInHanded_of_change (C := Try.checked) Try.own started (by kernel_rfl) Try.func8
    (ChangeSpec.witness6 (enc := enc) (C := Try.checked) false ⟨#[], #[.slice none 0 0], []⟩ 8 (by kernel_rfl) (by kernel_rfl) (by kernel_rfl) (by kernel_rfl)) ?_
  intro W base args ds gs before hval hW _ _
  obtain ⟨p, q, hA, hV, hrest⟩ := id hW
  obtain ⟨⟨d0, rfl⟩, hc⟩ := zoneMarks_contract W base args H enc ds p hval hA
  obtain ⟨rfl, -⟩ := trodVars_none hV
  refine hc.mono fun e W' ⟨he, hb⟩ => ⟨_, he, ?_⟩
  exact law_close (tb := 4) Try.laidOut (by rw [Try.params8]; decide +kernel) Try.underlying4 rfl rfl hW rfl rfl rfl hb

theorem zoneMarks_holds : Rows.ZoneMarksSaid :=
  OpenClaim.holds_of_wide 8 Try.f8 rfl rfl rfl rfl rfl rfl rfl ⟨rfl, rfl, rfl, rfl, rfl⟩ rfl rfl rfl rfl rfl (by kernel_rfl) Try.func8 (by kernel_rfl)
    (of_decide_eq_true (by kernel_rfl)) (by unfold Func.isWrapper; first | (rw [if_pos (by decide +kernel)]; kernel_rfl) | (rw [if_neg (by decide +kernel)]; exact ⟨rfl, rfl⟩))
    (fun os started H enc _ => zoneMarks_lifted os started H enc)
end Go.Proofs.Ytphccdfdknihdaa
