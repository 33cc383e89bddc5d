/- The program's zones (layer 10): slices.BinarySearch, slices.IndexFunc with the closure of Give, Give. -/
import Derived.Shelf.Slices.SearchI
import Derived.Shelf.Slices.Empties
import Derived.Ground.Names2Prog
import Derived.Test.YtphccdfdknihdaaZp7
import Derived.Test.YtphccdfdknihdaaZp8
import Derived.Test.YtphccdfdknihdaaZr5
namespace Go.Proofs.Ytphccdfdknihdaa
open Go.RowKit Go.Mine Go.Shelf

def layBin_ren : Go.Shelf.Ren := ⟨fun | 25 => 36 | 31 => 46 | 32 => 47 | 37 => 50 | n => n, fun | 22 => 22 | 3 => 3 | 4 => 4 | 40 => 60 | 0 => 0 | n => n, fun | n => n⟩
theorem layBin : Go.Proofs.Lays2.n25 Try.prog layBin_ren := {
  mixed := by kernel_rfl
  f25 := Try.func36.trans (congrArg some (by kernel_rfl))
  f31 := Try.func46.trans (congrArg some (by kernel_rfl))
  f32 := Try.func47.trans (congrArg some (by kernel_rfl))
  f37 := Try.func50.trans (congrArg some (by kernel_rfl))
  t0 := Try.underlying0
  a0 := Try.isAgg0
  z0 := Try.sizeOf0
  v0 := Try.zeroValue0
  t3 := Try.underlying3
  a3 := Try.isAgg3
  z3 := Try.sizeOf3
  v3 := Try.zeroValue3
  t4 := Try.underlying4
  a4 := Try.isAgg4
  z4 := Try.sizeOf4
  v4 := Try.zeroValue4
  t22 := Try.underlying22
  a22 := Try.isAgg22
  z22 := Try.sizeOf22
  v22 := Try.zeroValue22
  t40 := Try.underlying60
  a40 := Try.isAgg60
  z40 := Try.sizeOf60
  v40 := Try.zeroValue60 }
theorem bin_p {p : Nat → Prop} {a : Option Addr} {n c : Nat} {xs : List Int} {x : Int} {j : Nat} {b : Bool} {w : World} (h : RdI w p a n xs) (hl : xs.length ≤ 1000) (hs : ascI xs) (hj : xs.countP (· < x) = j) (hb : decide (x ∈ xs) = b) :
    Calls Try.prog 36 #[.slice a n c, .int .i64 x] w fun e w' => e = .returned (.tuple #[.int .i64 j, .bool b]) ∧ ∃ q, w' = w.drewN q := by
  subst hj hb
  obtain ⟨hn, h2⟩ := h
  rcases h2 with rfl | ⟨g, o, rfl, -, hg, hc⟩
  · subst hn
    exact (Any.slices_BinarySearch_int_empty layBin a c x w).mono fun e w' ⟨h1, h2⟩ => ⟨by rw [h1]; simp, 0, h2⟩
  · refine (Any.slices_BinarySearch_int layBin g o n c xs x w (by omega) (by omega) (fun j hj => hc j hj) ?_).mono fun e w' ⟨h1, h2⟩ => ⟨by rw [h1, List.take_of_length_le (by omega), List.contains_eq_mem], h2⟩
    rw [List.take_of_length_le (by omega)]
    exact List.Pairwise.imp (fun h => Int.le_of_lt h) hs
theorem give1_p {z : Zo} {a : Option Addr} {n c k : Nat} {f : Int} {b : Bool} {w : World} (h1 : 1 ≤ z.f) (h2 : 1 ≤ z.s) (h3 : z.f + z.s ≤ 65) (hc : w.cell? ⟨k, 0, none⟩ = some (.int .i64 f)) (hb : inZ f z = b) :
    Calls Try.prog 34 #[zoW z a n c, .pointer (some ⟨k, 0, none⟩)] w (RetG (.bool b) w) := by
  obtain ⟨zf, zs, zm, zl, zh, fr⟩ := z
  have HB := Lib.hid hb
  have HG := Lib.hid ((Grew.refl w).alloc (.cells (cZ zf zs zm zl zh a n c) 42))
  have hk := World.block_lt_of_cell? w _ hc
  clear hb
  go_enter Try.func34, Try.ntmps34
  go_wp2_with fail
  with_reducible refine (has_p (z := ⟨zf, zs, zm, zl, zh, fr⟩) h1 h2 h3 HB.out).mono ?_
  rintro e2 w2 ⟨rfl, g2⟩
  have HG2 := Lib.hid (HG.out.trans g2)
  clear g2
  go_wp2
  go_ret
  exact ⟨rfl, HG2.out⟩
set_option maxHeartbeats 2000000 in
theorem indexG_p {p : Nat → Prop} {v : Value} {L : List Zo} {w : World} {f : Int} {kc : Nat} (h : ZsR w p v L) (hs : SmZ L) (hok : okB L = true) (hcf : w.cell? ⟨kc, 0, none⟩ = some (.int .i64 f)) :
    Calls Try.prog 33 #[v, .func (.func 34) #[] #[.pointer (some ⟨kc, 0, none⟩)]] w (RetIx (inZ f) L w) := by
  obtain ⟨a, c, rfl⟩ := h.slice
  have HOK := Lib.hid hok
  have HS := Lib.hid hs
  have HCF := Lib.hid hcf
  have HKC := Lib.hid (World.block_lt_of_cell? w _ hcf)
  obtain ⟨n, hn⟩ : ∃ n, L.length = n := ⟨_, rfl⟩
  have HN := Lib.hid hn
  have hl : n ≤ 1000 := hn ▸ hs.1
  rw [hn] at h ⊢
  have HZ := Lib.hid h
  clear h hs hok hn hcf
  go_enter Try.func33, Try.ntmps33
  go_wp2_with fail
  go_loopw [8] (fun iv wr => ∃ i : Nat, iv = .int .i64 i ∧ i ≤ n ∧ Hid (∀ j, j < i → inZ f (L.getD j zoZ) = false) ∧ Grew w wr) (fun iv _ => n - (intOf iv).toNat)
  case atStart => exact ⟨0, rfl, by omega, Lib.hid fun j hj => by omega, Grew.refl _⟩
  case round =>
    obtain ⟨i, rfl, hi, HB, G⟩ := hrel
    obtain ⟨wo, rfl⟩ : ∃ wo : World, wo = wr := ⟨_, rfl⟩
    by_cases hlt : i < n
    · have hiL : i < L.length := by rw [HN.out]; exact hlt
      obtain ⟨g, a', c', rfl, -, hg, c0, c1, c2, c3, c4, c5, -⟩ := (HZ.out.grew G).at_ hiL
      have hfr := HS.out.2 i hiL
      have hlo : 1 ≤ (L.getD i zoZ).f ∧ 1 ≤ (L.getD i zoZ).s ∧ (L.getD i zoZ).f + (L.getD i zoZ).s ≤ 65 := by
        obtain ⟨nx, h1, h2⟩ := ok_at HOK.out hiL
        obtain ⟨b1, b2, b3, -⟩ := h2
        omega
      have HNX : Hid (inZ f (L.getD i zoZ) = false → ∀ j, j < i + 1 → inZ f (L.getD j zoZ) = false) := Lib.hid fun h j hj => by
        by_cases e : j = i
        · rw [e]; exact h
        · exact HB.out j (by omega)
      obtain ⟨z, hzd⟩ : ∃ z, L.getD i zoZ = z := ⟨_, rfl⟩
      have HZD := Lib.hid hzd
      rw [hzd] at c0 c1 c2 c3 c4 c5 hfr hlo HNX
      obtain ⟨hl0, hl1, hl2⟩ := hlo
      have hi0 : (0 : Int) ≤ (i : Int) := by omega
      have hi1 : (i : Int) < (n : Int) := by omega
      have hcf := (G.cells.1 kc 0 HKC.out).trans HCF.out
      have HG := Lib.hid G
      clear hzd G
      cases hq : inZ f z
      · have HNX2 := Lib.hid (HNX.out hq)
        have HQ := Lib.hid hq
        clear hq
        go_wp2_with (go_at_call 34; (with_reducible refine (give1_p hl0 hl1 hl2 hcf HQ.out).mono ?_); rintro e2 w2 ⟨rfl, g2⟩)
        have HG2 := Lib.hid (HG.out.trans g2)
        clear g2
        go_wp2
        exact ⟨⟨i + 1, by go_num, by omega, HNX2, HG2.out⟩, by simp [intOf] <;> omega⟩
      · have HQ := Lib.hid hq
        clear hq
        go_wp2_with (go_at_call 34; (with_reducible refine (give1_p hl0 hl1 hl2 hcf HQ.out).mono ?_); rintro e2 w2 ⟨rfl, g2⟩)
        have HG2 := Lib.hid (HG.out.trans g2)
        clear g2
        go_wp2
        go_ret
        exact ⟨i, rfl, HG2.out, .inr ⟨i, rfl, hiL, HB.out, by rw [HZD.out]; exact HQ.out⟩⟩
    · obtain rfl : i = n := by omega
      go_wp2
      go_ret
      exact ⟨-1, rfl, G, .inl ⟨rfl, by rw [HN.out]; exact HB.out⟩⟩
end Go.Proofs.Ytphccdfdknihdaa
