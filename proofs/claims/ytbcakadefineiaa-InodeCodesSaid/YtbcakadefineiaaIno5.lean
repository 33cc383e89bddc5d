/- Sectors of inodes: plain facts. -/
import Derived.Test.YtbcakadefineiaaIno4
namespace Go.Proofs.Ytbcakadefineiaa
open Go.RowKit Go.Mine

def gx (g f : Int) : Int := bits .xor .u8 (255 - g) f
theorem gx_all : ∀ c : Fin 256, ∀ f : Fin 8, gx (gd ((c : Nat) : Int) ((f : Nat) : Int)) ((f : Nat) : Int) = ((c : Nat) : Int) ∧ gx (gd ((c : Nat) : Int) ((f : Nat) : Int)) ((c : Nat) : Int) = ((f : Nat) : Int) := by decide +kernel
theorem gx_gd (c f : Int) (h0 : 0 ≤ c) (h1 : c ≤ 255) (h2 : 0 ≤ f) (h3 : f ≤ 7) : gx (gd c f) f = c ∧ gx (gd c f) c = f := by
  obtain ⟨n, rfl⟩ := Int.eq_ofNat_of_zero_le h0
  obtain ⟨m, rfl⟩ := Int.eq_ofNat_of_zero_le h2
  exact gx_all ⟨n, by omega⟩ ⟨m, by omega⟩
theorem gd_inj {c d f : Int} (h0 : 0 ≤ c) (h1 : c ≤ 255) (k0 : 0 ≤ d) (k1 : d ≤ 255) (h2 : 0 ≤ f) (h3 : f ≤ 7) (e : gd c f = gd d f) : c = d := by
  rw [← (gx_gd c f h0 h1 h2 h3).1, e, (gx_gd d f k0 k1 h2 h3).1]
theorem gd_file {c f g : Int} (h0 : 0 ≤ c) (h1 : c ≤ 255) (h2 : 0 ≤ f) (h3 : f ≤ 7) (k2 : 0 ≤ g) (k3 : g ≤ 7) (e : gd c f = gd c g) : f = g := by
  rw [← (gx_gd c f h0 h1 h2 h3).2, e, (gx_gd c g h0 h1 k2 k3).2]

/-- The content of one inode, guarded as that of another. -/
def mixS (q z b q' z' b' f : Int) : ByteArray := strOfNums [q / 256, q % 256, z, b, gd (q' / 256) f, gd (q' % 256) f, gd z' f, gd b' f]
theorem sec_mix (q z b f : Int) : secS q z b f = mixS q z b q z b f := rfl
theorem num8 (n : Int) (h : 0 ≤ n ∧ n ≤ 255) : ((UInt8.ofNat n.toNat).toNat : Int) = n := by simp; omega
theorem val_bd {q z b : Int} (h : validI q z b = true) : (0 ≤ q / 256 ∧ q / 256 ≤ 255) ∧ (0 ≤ q % 256 ∧ q % 256 ≤ 255) ∧ (0 ≤ z ∧ z ≤ 255) ∧ (0 ≤ b ∧ b ≤ 255) ∧ q / 256 * 256 + q % 256 = q := by
  have := valid_bd h
  omega
section
variable {q z b q' z' b' f g : Int}
theorem mix_at (h : validI q z b = true) : by8 (mixS q z b q' z' b' f) 0 = q / 256 ∧ by8 (mixS q z b q' z' b' f) 1 = q % 256 ∧ by8 (mixS q z b q' z' b' f) 2 = z ∧ by8 (mixS q z b q' z' b' f) 3 = b ∧
    by8 (mixS q z b q' z' b' f) 4 = gd (q' / 256) f ∧ by8 (mixS q z b q' z' b' f) 5 = gd (q' % 256) f ∧ by8 (mixS q z b q' z' b' f) 6 = gd z' f ∧ by8 (mixS q z b q' z' b' f) 7 = gd b' f := by
  obtain ⟨h1, h2, h3, h4, -⟩ := val_bd h
  exact ⟨num8 _ h1, num8 _ h2, num8 _ h3, num8 _ h4, num8 _ (gd_bd _ _), num8 _ (gd_bd _ _), num8 _ (gd_bd _ _), num8 _ (gd_bd _ _)⟩
theorem mix_ok (h : validI q z b = true) (hf : withB f 7 = true) : dOK (mixS q z b q' z' b' f) f = decide (gd (q' / 256) f = gd (q / 256) f ∧ gd (q' % 256) f = gd (q % 256) f ∧ gd z' f = gd z f ∧ gd b' f = gd b f) := by
  obtain ⟨m0, m1, m2, m3, m4, m5, m6, m7⟩ := mix_at (q' := q') (z' := z') (b' := b') (f := f) h
  obtain ⟨-, -, -, -, he⟩ := val_bd h
  unfold dOK
  rw [m0, m1, m2, m3, m4, m5, m6, m7, he, h, hf, Bool.and_true, Bool.true_and, show decide ((mixS q z b q' z' b' f).size = 8) = true from rfl, Bool.true_and]
theorem mix_same (h : validI q z b = true) (h' : validI q' z' b' = true) (hf : withB f 7 = true) : dOK (mixS q z b q' z' b' f) f = decide (q = q' ∧ z = z' ∧ b = b') := by
  obtain ⟨f0, f1⟩ := file_bd hf
  obtain ⟨⟨a0, a1⟩, ⟨a2, a3⟩, ⟨a4, a5⟩, ⟨a6, a7⟩, e⟩ := val_bd h
  obtain ⟨⟨c0, c1⟩, ⟨c2, c3⟩, ⟨c4, c5⟩, ⟨c6, c7⟩, e'⟩ := val_bd h'
  rw [mix_ok h hf, decide_eq_decide]
  constructor
  · rintro ⟨k1, k2, k3, k4⟩
    have j1 := gd_inj c0 c1 a0 a1 f0 f1 k1
    have j2 := gd_inj c2 c3 a2 a3 f0 f1 k2
    have j3 := gd_inj c4 c5 a4 a5 f0 f1 k3
    have j4 := gd_inj c6 c7 a6 a7 f0 f1 k4
    omega
  · rintro ⟨rfl, rfl, rfl⟩
    exact ⟨rfl, rfl, rfl, rfl⟩
theorem sec_other (h : validI q z b = true) (hf : withB f 7 = true) (hg : withB g 7 = true) : dOK (secS q z b f) g = decide (f = g) := by
  obtain ⟨m0, m1, m2, m3, m4, m5, m6, m7⟩ := mix_at (q' := q) (z' := z) (b' := b) (f := f) h
  obtain ⟨⟨a0, a1⟩, ⟨a2, a3⟩, ⟨a4, a5⟩, ⟨a6, a7⟩, he⟩ := val_bd h
  obtain ⟨f0, f1⟩ := file_bd hf
  obtain ⟨g0, g1⟩ := file_bd hg
  rw [sec_mix]
  unfold dOK
  rw [m0, m1, m2, m3, m4, m5, m6, m7, he, h, hg, Bool.and_true, Bool.true_and, show decide ((mixS q z b q z b f).size = 8) = true from rfl, Bool.true_and, decide_eq_decide]
  exact ⟨fun k => gd_file a0 a1 f0 f1 g0 g1 k.1, fun k => k ▸ ⟨rfl, rfl, rfl, rfl⟩⟩
theorem sec_ok (h : validI q z b = true) (hf : withB f 7 = true) : dOK (secS q z b f) f = true := by rw [sec_other h hf hf]; simp
theorem sec_vals (h : validI q z b = true) (hf : withB f 7 = true) : dQ (secS q z b f) f = q ∧ dZ (secS q z b f) f = z ∧ dB (secS q z b f) f = b := by
  obtain ⟨m0, m1, m2, m3, -⟩ := mix_at (q' := q) (z' := z) (b' := b) (f := f) h
  obtain ⟨-, -, -, -, he⟩ := val_bd h
  unfold dQ dZ dB
  rw [sec_ok h hf, if_pos rfl, if_pos rfl, if_pos rfl, sec_mix, m0, m1, m2, m3]
  exact ⟨he, rfl, rfl⟩
theorem sec_eq (h : validI q z b = true) (h' : validI q' z' b' = true) (hf : withB f 7 = true) (hg : withB g 7 = true) : secS q z b f = secS q' z' b' g ↔ f = g ∧ q = q' ∧ z = z' ∧ b = b' := by
  constructor
  · intro e
    have k := sec_other h' hg hf
    rw [← e, sec_ok h hf] at k
    have hfg : g = f := of_decide_eq_true k.symm
    subst hfg
    obtain ⟨v1, v2, v3⟩ := sec_vals h hf
    obtain ⟨u1, u2, u3⟩ := sec_vals h' hf
    rw [e] at v1 v2 v3
    exact ⟨rfl, v1.symm.trans u1, v2.symm.trans u2, v3.symm.trans u3⟩
  · rintro ⟨rfl, rfl, rfl, rfl⟩
    rfl
theorem sec_size : (secS q z b f).size = 8 := rfl
theorem torn_0 : tnS (secS q z b f) (secS q' z' b' f) 0 = mixS q' z' b' q z b f ∧ tnE (secS q z b f) (secS q' z' b' f) 0 = 0 := ⟨rfl, rfl⟩
theorem torn_1 : tnS (secS q z b f) (secS q' z' b' f) 1 = mixS q z b q' z' b' f ∧ tnE (secS q z b f) (secS q' z' b' f) 1 = 0 := ⟨rfl, rfl⟩
end
end Go.Proofs.Ytbcakadefineiaa
