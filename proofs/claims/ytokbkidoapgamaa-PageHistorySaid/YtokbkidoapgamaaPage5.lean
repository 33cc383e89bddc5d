/- Package page's calls as total functions of what they are given. -/
import Derived.Test.YtokbkidoapgamaaPage4
namespace Go.Proofs.Ytokbkidoapgamaa
open Go.RowKit Go.Mine

/-- A page if c holds, else none. -/
def pickD (c : Bool) (d : ByteArray) : ByteArray := if c = true then d else { data := #[] }
def pickI (c : Bool) (n : Int) : Int := if c = true then n else 0
abbrev pickP (c : Bool) (d : ByteArray) (v t : Int) : Value := pageV (pickD c d) (pickI c v) (pickI c t)
theorem pick_yes {c : Bool} (h : c = true) (d : ByteArray) (v t : Int) : pickP c d v t = pageV d v t := by subst h; rfl
theorem pick_no {c : Bool} (h : c = false) (d : ByteArray) (v t : Int) : pickP c d v t = noPage := by subst h; rfl
theorem retG_to {a b : Value} {w : World} (h : a = b) : ∀ e w', RetG a w e w' → RetG b w e w' := fun _ _ k => h ▸ k

def secB0 (d : ByteArray) (v t s : Int) : Bool := decide (secE d v t s = 0)
def fillB (d x : ByteArray) (v t s : Int) : Bool := decide (secE d v t s = 0) && decide (x.size = 16)
def fillE (d x : ByteArray) (v t s : Int) : Int := if secE d v t s = 0 then (if x.size = 16 then 0 else 2) else secE d v t s
def accB (d x : ByteArray) (v t s : Int) : Bool := decide (accE d v t s x.size true = 0)
def writeD (d x : ByteArray) (s : Int) : ByteArray := d.extract 0 s.toNat ++ x ++ d.extract (s.toNat + x.size) 16

theorem clean_all (d : ByteArray) (v t s : Int) (w : World) :
    Calls Try.prog 24 #[pageV d v t, .int .i64 s] w (RetG (.tuple #[pickP (secB0 d v t s) d v (bits .andNot .i64 t s), .int .i64 (secE d v t s)]) w) := by
  by_cases h : secE d v t s = 0
  · exact (clean_ok d v t s w h).mono (retG_to (by rw [pick_yes (by simp [secB0, h]), h]))
  · exact (clean_bad d v t s w h).mono (retG_to (by rw [pick_no (by simp [secB0, h])]))
theorem soil_all (d : ByteArray) (v t s : Int) (w : World) :
    Calls Try.prog 25 #[pageV d v t, .int .i64 s] w (RetG (.tuple #[pickP (secB0 d v t s) d v (bits .or .i64 t (bits .and .i64 s v)), .int .i64 (secE d v t s)]) w) := by
  by_cases h : secE d v t s = 0
  · exact (soil_ok d v t s w h).mono (retG_to (by rw [pick_yes (by simp [secB0, h]), h]))
  · exact (soil_bad d v t s w h).mono (retG_to (by rw [pick_no (by simp [secB0, h])]))
theorem fill_all (d x : ByteArray) (v t s : Int) (w : World) :
    Calls Try.prog 8 #[pageV d v t, .int .i64 s, .string x] w (RetG (.tuple #[pickP (fillB d x v t s) (mixP d x (bits .andNot .i64 s v)) (bits .or .i64 v s) t, .int .i64 (fillE d x v t s)]) w) := by
  by_cases h : secE d v t s = 0
  · by_cases hx : x.size = 16
    · exact (fill_ok d x v t s w h hx).mono (retG_to (by rw [pick_yes (by simp [fillB, h, hx]), show fillE d x v t s = 0 by simp [fillE, h, hx]]))
    · exact (fill_len d x v t s w h hx).mono (retG_to (by rw [pick_no (by simp [fillB, hx]), show fillE d x v t s = 2 by simp [fillE, h, hx]]))
  · exact (fill_bad d x v t s w h).mono (retG_to (by rw [pick_no (by simp [fillB, h]), show fillE d x v t s = secE d v t s by simp [fillE, h]]))
theorem write_all (d x : ByteArray) (v t s : Int) (w : World) :
    Calls Try.prog 10 #[pageV d v t, .int .i64 s, .string x] w
      (RetG (.tuple #[pickP (accB d x v t s) (writeD d x s) (bits .or .i64 v (secs s x.size 1)) (bits .or .i64 t (secs s x.size 1)), .int .i64 (accE d v t s x.size true)]) w) := by
  by_cases h : accE d v t s x.size true = 0
  · obtain ⟨p, rfl⟩ := Int.eq_ofNat_of_zero_le (rangeB_iff (accE_zero h).2.1).1
    exact (write_ok d x v t p w h).mono (retG_to (by rw [pick_yes (by simp [accB, h]), h]; rfl))
  · exact (write_bad d x v t s w h).mono (retG_to (by rw [pick_no (by simp [accB, h])]))
end Go.Proofs.Ytokbkidoapgamaa
