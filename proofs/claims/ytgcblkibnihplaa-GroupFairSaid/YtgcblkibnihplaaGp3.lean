/- The program's groups (layer 11): richest, withOneMore. -/
import Derived.Test.YtgcblkibnihplaaGp2
import Derived.Deep.RegionHeld3
import Derived.Deep.DeepCutAuto
import Derived.Deep.CutBlock
namespace Go.Mine
open Go Go.RowKit
def atQ (q : Int × Int) : Int := max q.1 0
def okQ (q : Int × Int) : Bool := decide (0 < q.2)
/-- The first group that has the most, and whether there is one. -/
def RetRi (f : Nat → Int) (n : Nat) (w : World) (e : Ending) (w' : World) : Prop := e = .returned (.tuple #[.int .i64 (atQ (bsD f n)), .bool (okQ (bsD f n))]) ∧ Grew w w'
theorem RetRi.some {f : Nat → Int} {n : Nat} {b : Nat} {w w' : World} {e : Ending} (h : RetRi f n w e w') (hb : bsD f n = ((b : Int), f b)) (h0 : 0 < f b) : e = .returned (.tuple #[.int .i64 b, .bool true]) ∧ Grew w w' := by
  obtain ⟨h1, h2⟩ := h
  rw [hb] at h1
  refine ⟨h1.trans ?_, h2⟩
  have e1 : atQ ((b : Int), f b) = b := by show max (b : Int) 0 = b; omega
  have e2 : okQ ((b : Int), f b) = true := decide_eq_true h0
  rw [e1, e2]
theorem RetRi.none {f : Nat → Int} {n : Nat} {w w' : World} {e : Ending} (h : RetRi f n w e w') (hb : bsD f n = (-1, 0)) : e = .returned (.tuple #[.int .i64 0, .bool false]) ∧ Grew w w' := by
  obtain ⟨h1, h2⟩ := h
  rw [hb] at h1
  exact ⟨h1, h2⟩
/-- What is taken when one frame more has to be. -/
def nxD (E C : Nat → Int) (m : Nat) (o : Nat → Int) : Nat → Int := match stpD E C m o with
  | .none => o
  | .some b => incD o b
theorem itD_nx (E C : Nat → Int) (m n : Nat) : itD E C m (n + 1) = nxD E C m (itD E C m n) := rfl
theorem nxD_E {E C : Nat → Int} {m b : Nat} {o : Nat → Int} (hb : bsD (fun i => E i - o i) m = ((b : Int), E b - o b)) : nxD E C m o = incD o b := by
  unfold nxD stpD
  rw [hb, if_pos (by show (0 : Int) ≤ (b : Int); omega)]
  rfl
theorem nxD_C {E C : Nat → Int} {m b : Nat} {o : Nat → Int} (h : bsD (fun i => E i - o i) m = (-1, 0)) (hb : bsD (fun i => C i - o i) m = ((b : Int), C b - o b)) : nxD E C m o = incD o b := by
  unfold nxD stpD
  rw [h, if_neg (by decide), hb, if_pos (by show (0 : Int) ≤ (b : Int); omega)]
  rfl
theorem nxD_N {E C : Nat → Int} {m : Nat} {o : Nat → Int} (h : bsD (fun i => E i - o i) m = (-1, 0)) (hb : bsD (fun i => C i - o i) m = (-1, 0)) : nxD E C m o = o := by
  unfold nxD stpD
  rw [h, if_neg (by decide), hb, if_neg (by decide)]
end Go.Mine
namespace Go.Proofs.Ytgcblkibnihplaa
open Go.RowKit Go.Mine

set_option maxRecDepth 100000 in
set_option maxHeartbeats 4000000 in
theorem richE_p {B : Nat} {v : Value} {L : List Gp} {o : Nat → Int} {w : World} (h : RowE 33 3 encG w B v L) (hok : okG L = true) (ho : ∀ i, i < 4 → 0 ≤ o i ∧ o i ≤ 64) :
    Calls Try.prog 27 #[pcV o, v, .func (.func 12) #[] #[]] w (RetRi (fun i => excF L i - o i) L.length w) := by
  obtain ⟨a, c, rfl, -⟩ := h.gps
  obtain ⟨n, hn⟩ : ∃ n, L.length = n := ⟨_, rfl⟩
  have HN := Lib.hid hn
  have hn4 : n ≤ 4 := hn ▸ (okG_iff.1 hok).1.2
  have HOK := Lib.hid hok
  rw [hn] at h ⊢
  have HZ := Lib.hid h
  have HO := Lib.hid ho
  have HP0 := Lib.hid (Own.new w 47 (pcA o))
  clear h hn hok ho
  go_enter Try.func27, Try.ntmps27
  go_wp2_with fail
  go_loopw [8, 9, 15] (fun av mv iv wr => ∃ (i : Nat) (at_ mo : Int), av = .int .i64 at_ ∧ mv = .int .i64 mo ∧ iv = .int .i64 i ∧ i ≤ n ∧ Hid (at_ = atQ (bsD (fun i => excF L i - o i) i)) ∧ Hid (mo = (bsD (fun i => excF L i - o i) i).2) ∧ 0 ≤ mo ∧ mo ≤ 64 ∧ Grew (w.alloc (.cells (pcA o) 47)) wr) (fun _ _ iv _ => n - (intOf iv).toNat)
  case atStart => exact ⟨0, 0, 0, rfl, rfl, rfl, by omega, Lib.hid rfl, Lib.hid rfl, by omega, by omega, Grew.refl _⟩
  case round =>
    obtain ⟨i, at_, mo, rfl, rfl, rfl, hi, HA, HM, m0, m6, G⟩ := hrel
    obtain ⟨wo, rfl⟩ : ∃ wo : World, wo = wr := ⟨_, rfl⟩
    have hsz := G.size
    rw [World.size_alloc] at hsz
    by_cases hlt : i < n
    · have hiL : i < L.length := by rw [HN.out]; exact hlt
      obtain ⟨-, g, rfl, -, hg, c0, c1, c2⟩ := ((HZ.out.alloc _).grew G).gat hiL
      have hx0 := okG_at HOK.out hiL
      have hob := HO.out i (by omega)
      have hbs : bsD (fun i => excF L i - o i) (i + 1) = if (bsD (fun i => excF L i - o i) i).2 < excF L i - o i then ((i : Int), excF L i - o i) else bsD (fun i => excF L i - o i) i := rfl
      have heb : 0 ≤ excF L i ∧ excF L i ≤ 64 := by have h1 := exc_ok HOK.out i hiL; have h2 := exc_64 HOK.out i hiL; omega
      obtain ⟨ei, hei⟩ : ∃ ei, excF L i = ei := ⟨_, rfl⟩
      have HEI : Hid (excP (L.getD i zG) = ei) := Lib.hid hei
      rw [hei] at hbs heb
      obtain ⟨⟨xl, xp, xc⟩, hx⟩ : ∃ x, L.getD i zG = x := ⟨_, rfl⟩
      rw [hx] at c0 c1 c2 hx0 HEI
      simp only at c0 c1 c2
      have HX0 := Lib.hid hx0
      have HP := HP0.out.grew G
      have hp0 : wo.cell? ⟨w.heap.size, i, none⟩ = some (.int .i64 (o i)) := (HP.cell i).trans (pc_at (by omega))
      generalize o i = oi at *
      have hi0 : (0 : Int) ≤ (i : Int) := by omega
      have hi1 : (i : Int) < (n : Int) := by omega
      have hi4 : (i : Int) < 4 := by omega
      have HBS := Lib.hid hbs
      clear hx hx0 hbs hei
      go_upto_region 5 with fail
      have X := Own.new wo 33 #[.int .i64 xl, .int .i64 xp, .int .i64 xc]
      have hp1 : (wo.alloc (.cells #[.int .i64 xl, .int .i64 xp, .int .i64 xc] 33)).cell? ⟨w.heap.size, i, none⟩ = some (.int .i64 oi) := far_alloc hp0
      have G5 := G.alloc (.cells #[.int .i64 xl, .int .i64 xp, .int .i64 xc] 33)
      clear c0 c1 c2 hp0 G HP
      generalize World.alloc wo _ = w5 at *
      generalize wo.heap.size = sx at *
      obtain ⟨X0, X1, X2, -, -, -⟩ := X.three
      have l_X := X.lt
      have hws : w.heap.size < w5.heap.size := by have := G5.size; rw [World.size_alloc] at this; omega
      have wr1 : IntKind.i64.wrap (ei - oi) = ei - oi := IntWalk.i64_in _ (by omega)
      go_region_held3 (fun w' => w'.cell? ⟨sx, 0, none⟩ = some (.int .i64 xl) ∧ w'.cell? ⟨sx, 1, none⟩ = some (.int .i64 xp) ∧ w'.cell? ⟨sx, 2, none⟩ = some (.int .i64 xc) ∧ w'.cell? ⟨w.heap.size, i, none⟩ = some (.int .i64 oi))
        (refine ⟨?_, ?_, ?_, ?_⟩ <;> (repeat (first | with_reducible assumption | with_reducible refine far_drew ?_)))
        (first | (go_at_call 12; (with_reducible refine (excess_p (x := ⟨xl, xp, xc⟩) HX0.out).mono ?_); rintro e w6 ⟨rfl, g6⟩; rw [HEI.out]; have X6 := X.drew.grew g6; have G6 : Grew _ w6 := G5.drew.trans g6; have hp6 := (g6.cells.1 w.heap.size i hws).trans (far_drew hp1); clear X0 X1 X2 hp1; obtain ⟨X0, X1, X2, -, -, -⟩ := X6.three; have hp1 := hp6))
      by_cases t : mo < ei - oi
      · have HA2 : Hid ((i : Int) = atQ (bsD (fun i => excF L i - o i) (i + 1))) := Lib.hid (by rw [HBS.out, if_pos (by rw [← HM.out]; exact t)]; show (i : Int) = max (i : Int) 0; omega)
        have HM2 : Hid (ei - oi = (bsD (fun i => excF L i - o i) (i + 1)).2) := Lib.hid (by rw [HBS.out, if_pos (by rw [← HM.out]; exact t)])
        clear HA HM HBS
        go_wp2
        exact ⟨⟨i + 1, i, ei - oi, rfl, rfl, by go_num, by omega, HA2, HM2, by omega, by omega, G6⟩, by simp [intOf] <;> omega⟩
      · have HA2 : Hid (at_ = atQ (bsD (fun i => excF L i - o i) (i + 1))) := Lib.hid (by rw [HBS.out, if_neg (by rw [← HM.out]; exact t)]; exact HA.out)
        have HM2 : Hid (mo = (bsD (fun i => excF L i - o i) (i + 1)).2) := Lib.hid (by rw [HBS.out, if_neg (by rw [← HM.out]; exact t)]; exact HM.out)
        clear HA HM HBS
        go_wp2
        exact ⟨⟨i + 1, at_, mo, rfl, rfl, by go_num, by omega, HA2, HM2, by omega, by omega, G6⟩, by simp [intOf] <;> omega⟩
    · obtain rfl : i = n := by omega
      have G9 : Grew w wo := ((Grew.refl w).alloc _).trans G
      go_wp2
      refine bodyPost_ret (v := .tuple #[.int .i64 at_, .bool (decide (0 < mo))]) (by simp [results, Try.results27, go_sem]) rfl ⟨?_, G9⟩
      unfold okQ
      rw [← HA.out, ← HM.out]

set_option maxRecDepth 100000 in
set_option maxHeartbeats 4000000 in
theorem richC_p {B : Nat} {v : Value} {L : List Gp} {o : Nat → Int} {w : World} (h : RowE 33 3 encG w B v L) (hok : okG L = true) (ho : ∀ i, i < 4 → 0 ≤ o i ∧ o i ≤ 64) :
    Calls Try.prog 27 #[pcV o, v, .func (.func 28) #[] #[]] w (RetRi (fun i => chgF L i - o i) L.length w) := by
  obtain ⟨a, c, rfl, -⟩ := h.gps
  obtain ⟨n, hn⟩ : ∃ n, L.length = n := ⟨_, rfl⟩
  have HN := Lib.hid hn
  have hn4 : n ≤ 4 := hn ▸ (okG_iff.1 hok).1.2
  have HOK := Lib.hid hok
  rw [hn] at h ⊢
  have HZ := Lib.hid h
  have HO := Lib.hid ho
  have HP0 := Lib.hid (Own.new w 47 (pcA o))
  clear h hn hok ho
  go_enter Try.func27, Try.ntmps27
  go_wp2_with fail
  go_loopw [8, 9, 15] (fun av mv iv wr => ∃ (i : Nat) (at_ mo : Int), av = .int .i64 at_ ∧ mv = .int .i64 mo ∧ iv = .int .i64 i ∧ i ≤ n ∧ Hid (at_ = atQ (bsD (fun i => chgF L i - o i) i)) ∧ Hid (mo = (bsD (fun i => chgF L i - o i) i).2) ∧ 0 ≤ mo ∧ mo ≤ 64 ∧ Grew (w.alloc (.cells (pcA o) 47)) wr) (fun _ _ iv _ => n - (intOf iv).toNat)
  case atStart => exact ⟨0, 0, 0, rfl, rfl, rfl, by omega, Lib.hid rfl, Lib.hid rfl, by omega, by omega, Grew.refl _⟩
  case round =>
    obtain ⟨i, at_, mo, rfl, rfl, rfl, hi, HA, HM, m0, m6, G⟩ := hrel
    obtain ⟨wo, rfl⟩ : ∃ wo : World, wo = wr := ⟨_, rfl⟩
    have hsz := G.size
    rw [World.size_alloc] at hsz
    by_cases hlt : i < n
    · have hiL : i < L.length := by rw [HN.out]; exact hlt
      obtain ⟨-, g, rfl, -, hg, c0, c1, c2⟩ := ((HZ.out.alloc _).grew G).gat hiL
      have hx0 := okG_at HOK.out hiL
      have hob := HO.out i (by omega)
      have hbs : bsD (fun i => chgF L i - o i) (i + 1) = if (bsD (fun i => chgF L i - o i) i).2 < chgF L i - o i then ((i : Int), chgF L i - o i) else bsD (fun i => chgF L i - o i) i := rfl
      have heb : 0 ≤ chgF L i ∧ chgF L i ≤ 64 := by have h1 := exc_ok HOK.out i hiL; have h2 := exc_64 HOK.out i hiL; omega
      obtain ⟨ei, hei⟩ : ∃ ei, chgF L i = ei := ⟨_, rfl⟩
      have HEI : Hid (Gp.c (L.getD i zG) = ei) := Lib.hid hei
      rw [hei] at hbs heb
      obtain ⟨⟨xl, xp, xc⟩, hx⟩ : ∃ x, L.getD i zG = x := ⟨_, rfl⟩
      rw [hx] at c0 c1 c2 hx0 HEI
      simp only at c0 c1 c2
      have HX0 := Lib.hid hx0
      have HP := HP0.out.grew G
      have hp0 : wo.cell? ⟨w.heap.size, i, none⟩ = some (.int .i64 (o i)) := (HP.cell i).trans (pc_at (by omega))
      generalize o i = oi at *
      have hi0 : (0 : Int) ≤ (i : Int) := by omega
      have hi1 : (i : Int) < (n : Int) := by omega
      have hi4 : (i : Int) < 4 := by omega
      have HBS := Lib.hid hbs
      clear hx hx0 hbs hei
      go_upto_region 5 with fail
      have X := Own.new wo 33 #[.int .i64 xl, .int .i64 xp, .int .i64 xc]
      have hp1 : (wo.alloc (.cells #[.int .i64 xl, .int .i64 xp, .int .i64 xc] 33)).cell? ⟨w.heap.size, i, none⟩ = some (.int .i64 oi) := far_alloc hp0
      have G5 := G.alloc (.cells #[.int .i64 xl, .int .i64 xp, .int .i64 xc] 33)
      clear c0 c1 c2 hp0 G HP
      generalize World.alloc wo _ = w5 at *
      generalize wo.heap.size = sx at *
      obtain ⟨X0, X1, X2, -, -, -⟩ := X.three
      have l_X := X.lt
      have hws : w.heap.size < w5.heap.size := by have := G5.size; rw [World.size_alloc] at this; omega
      have wr1 : IntKind.i64.wrap (ei - oi) = ei - oi := IntWalk.i64_in _ (by omega)
      go_region_held3 (fun w' => w'.cell? ⟨sx, 0, none⟩ = some (.int .i64 xl) ∧ w'.cell? ⟨sx, 1, none⟩ = some (.int .i64 xp) ∧ w'.cell? ⟨sx, 2, none⟩ = some (.int .i64 xc) ∧ w'.cell? ⟨w.heap.size, i, none⟩ = some (.int .i64 oi))
        (refine ⟨?_, ?_, ?_, ?_⟩ <;> (repeat (first | with_reducible assumption | with_reducible refine far_drew ?_)))
        (first | (go_at_call 28; (with_reducible refine (chargeOf_p (x := ⟨xl, xp, xc⟩)).mono ?_); rintro e w6 ⟨rfl, g6⟩; rw [HEI.out]; have X6 := X.drew.grew g6; have G6 : Grew _ w6 := G5.drew.trans g6; have hp6 := (g6.cells.1 w.heap.size i hws).trans (far_drew hp1); clear X0 X1 X2 hp1; obtain ⟨X0, X1, X2, -, -, -⟩ := X6.three; have hp1 := hp6))
      by_cases t : mo < ei - oi
      · have HA2 : Hid ((i : Int) = atQ (bsD (fun i => chgF L i - o i) (i + 1))) := Lib.hid (by rw [HBS.out, if_pos (by rw [← HM.out]; exact t)]; show (i : Int) = max (i : Int) 0; omega)
        have HM2 : Hid (ei - oi = (bsD (fun i => chgF L i - o i) (i + 1)).2) := Lib.hid (by rw [HBS.out, if_pos (by rw [← HM.out]; exact t)])
        clear HA HM HBS
        go_wp2
        exact ⟨⟨i + 1, i, ei - oi, rfl, rfl, by go_num, by omega, HA2, HM2, by omega, by omega, G6⟩, by simp [intOf] <;> omega⟩
      · have HA2 : Hid (at_ = atQ (bsD (fun i => chgF L i - o i) (i + 1))) := Lib.hid (by rw [HBS.out, if_neg (by rw [← HM.out]; exact t)]; exact HA.out)
        have HM2 : Hid (mo = (bsD (fun i => chgF L i - o i) (i + 1)).2) := Lib.hid (by rw [HBS.out, if_neg (by rw [← HM.out]; exact t)]; exact HM.out)
        clear HA HM HBS
        go_wp2
        exact ⟨⟨i + 1, at_, mo, rfl, rfl, by go_num, by omega, HA2, HM2, by omega, by omega, G6⟩, by simp [intOf] <;> omega⟩
    · obtain rfl : i = n := by omega
      have G9 : Grew w wo := ((Grew.refl w).alloc _).trans G
      go_wp2
      refine bodyPost_ret (v := .tuple #[.int .i64 at_, .bool (decide (0 < mo))]) (by simp [results, Try.results27, go_sem]) rfl ⟨?_, G9⟩
      unfold okQ
      rw [← HA.out, ← HM.out]
end Go.Proofs.Ytgcblkibnihplaa
