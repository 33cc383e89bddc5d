/-
  No cell of these rows narrows 'for every input' (looked for: loops, veiled, ifaces, maps, wideKeys, modest, calm, conditions, laid).
  DERIVED. THE GIVEN ROWS OF THIS SEAT. 6 by the template 'for every input the law returns true; each argument reads behind the call as it read before'; 0 by the template 'total and deterministic' (their statements: YteaofieijginhaaTotals.lean).
  GIVEN WITH THE SEED: the statements are not yours to turn. If you find one false, say at which input.
  Laid BY PROGRAM, IN A SANDBOX (cutbox-rows.mjs): the forced cells as the released guide's own fill.sh prints them over the translation 5c5848c35f011f64… (all of the seat's roots in one cut). By AI agents, Wed Nov 11 2026. No macro, syntax, notation, axiom, sorry.
-/
import Derived.Test.YteaofieijginhaaChecked
import GoSem.Claim
import GoSem.ClaimJoined
import GoSem.ClaimMapViews
import Derived.JoinedTies
import Derived.KernelRfl
namespace Go.Proofs.Yteaofieijginhaa
/- THE CELL 'sum', in the pinned program and in every row, IS THE sha256 OF THE DUMP (.gsa) THAT YteaofieijginhaaProg.lean LOADS. Nothing in Lean hashes anything: it is a label: what it is worth is what the hold of that sum in a sandbox is worth. -/
noncomputable def Try.pinned : Pinned := { name := "yteaofieijginhaa", sum := "5c5848c35f011f64b6ed4dcea5fa181a916c89412031a22d8eff31d220e10332", checked := Try.checked }
namespace Rows
def none {H : Type} : Left H := { results := [], args := [] }

/-- 'pagecachelaw08.LruMoves': WHATEVER THE INPUT: true; the input reads as it did. -/
def lruMovesSpec : ChangeSpec := { name := "lruMoves", fn := fun _ => fun
  | [d] => { results := [.lit (.bool true)], args := [d] }
  | _ => none }
def lruMovesRow : OpenClaim := { program := "yteaofieijginhaa", sum := "5c5848c35f011f64b6ed4dcea5fa181a916c89412031a22d8eff31d220e10332", func := "pagecache/pagecachelaw08.LruMoves", spec := "lruMoves", inPlace := ["slices.overlaps[int]"], unfollowed := true, recurses := true, apart := false }
def LruMovesSaid : Prop := lruMovesRow.holds Try.pinned (OpenSpec.ofChange lruMovesSpec)

/-- ITS FALSE NEIGHBOUR: 'it returns false'. Refute it at one input. -/
def lruMovesWrong : ChangeSpec := { name := "lruMoves", fn := fun _ => fun
  | [d] => { results := [.lit (.bool false)], args := [d] }
  | _ => none }
def LruMovesWrongFalsely : Prop := lruMovesRow.holds Try.pinned (OpenSpec.ofChange lruMovesWrong)

/-- 'pagecachelaw08.LruScans': WHATEVER THE INPUT: true; the input reads as it did. -/
def lruScansSpec : ChangeSpec := { name := "lruScans", fn := fun _ => fun
  | [d1, d2] => { results := [.lit (.bool true)], args := [d1, d2] }
  | _ => none }
def lruScansRow : OpenClaim := { program := "yteaofieijginhaa", sum := "5c5848c35f011f64b6ed4dcea5fa181a916c89412031a22d8eff31d220e10332", func := "pagecache/pagecachelaw08.LruScans", spec := "lruScans", inPlace := ["slices.overlaps[int]"], unfollowed := true, recurses := true, apart := false }
def LruScansSaid : Prop := lruScansRow.holds Try.pinned (OpenSpec.ofChange lruScansSpec)

/-- ITS FALSE NEIGHBOUR: 'it returns false'. Refute it at one input. -/
def lruScansWrong : ChangeSpec := { name := "lruScans", fn := fun _ => fun
  | [d1, d2] => { results := [.lit (.bool false)], args := [d1, d2] }
  | _ => none }
def LruScansWrongFalsely : Prop := lruScansRow.holds Try.pinned (OpenSpec.ofChange lruScansWrong)

/-- 'pagecachelaw08.LruKeeps': WHATEVER THE INPUT: true; the input reads as it did. -/
def lruKeepsSpec : ChangeSpec := { name := "lruKeeps", fn := fun _ => fun
  | [d1, d2] => { results := [.lit (.bool true)], args := [d1, d2] }
  | _ => none }
def lruKeepsRow : OpenClaim := { program := "yteaofieijginhaa", sum := "5c5848c35f011f64b6ed4dcea5fa181a916c89412031a22d8eff31d220e10332", func := "pagecache/pagecachelaw08.LruKeeps", spec := "lruKeeps", inPlace := ["slices.overlaps[int]"], unfollowed := true, recurses := true, apart := false }
def LruKeepsSaid : Prop := lruKeepsRow.holds Try.pinned (OpenSpec.ofChange lruKeepsSpec)

/-- ITS FALSE NEIGHBOUR: 'it returns false'. Refute it at one input. -/
def lruKeepsWrong : ChangeSpec := { name := "lruKeeps", fn := fun _ => fun
  | [d1, d2] => { results := [.lit (.bool false)], args := [d1, d2] }
  | _ => none }
def LruKeepsWrongFalsely : Prop := lruKeepsRow.holds Try.pinned (OpenSpec.ofChange lruKeepsWrong)

/-- 'pagecachelaw08.LruSecond': WHATEVER THE INPUT: true; the input reads as it did. -/
def lruSecondSpec : ChangeSpec := { name := "lruSecond", fn := fun _ => fun
  | [d1, d2] => { results := [.lit (.bool true)], args := [d1, d2] }
  | _ => none }
def lruSecondRow : OpenClaim := { program := "yteaofieijginhaa", sum := "5c5848c35f011f64b6ed4dcea5fa181a916c89412031a22d8eff31d220e10332", func := "pagecache/pagecachelaw08.LruSecond", spec := "lruSecond", inPlace := ["slices.overlaps[int]"], unfollowed := true, recurses := true, apart := false }
def LruSecondSaid : Prop := lruSecondRow.holds Try.pinned (OpenSpec.ofChange lruSecondSpec)

/-- ITS FALSE NEIGHBOUR: 'it returns false'. Refute it at one input. -/
def lruSecondWrong : ChangeSpec := { name := "lruSecond", fn := fun _ => fun
  | [d1, d2] => { results := [.lit (.bool false)], args := [d1, d2] }
  | _ => none }
def LruSecondWrongFalsely : Prop := lruSecondRow.holds Try.pinned (OpenSpec.ofChange lruSecondWrong)

/-- 'pagecachelaw08.LruOldest': WHATEVER THE INPUT: true; the input reads as it did. -/
def lruOldestSpec : ChangeSpec := { name := "lruOldest", fn := fun _ => fun
  | [d1, d2] => { results := [.lit (.bool true)], args := [d1, d2] }
  | _ => none }
def lruOldestRow : OpenClaim := { program := "yteaofieijginhaa", sum := "5c5848c35f011f64b6ed4dcea5fa181a916c89412031a22d8eff31d220e10332", func := "pagecache/pagecachelaw08.LruOldest", spec := "lruOldest", inPlace := ["slices.overlaps[int]"], unfollowed := true, recurses := true, apart := false }
def LruOldestSaid : Prop := lruOldestRow.holds Try.pinned (OpenSpec.ofChange lruOldestSpec)

/-- ITS FALSE NEIGHBOUR: 'it returns false'. Refute it at one input. -/
def lruOldestWrong : ChangeSpec := { name := "lruOldest", fn := fun _ => fun
  | [d1, d2] => { results := [.lit (.bool false)], args := [d1, d2] }
  | _ => none }
def LruOldestWrongFalsely : Prop := lruOldestRow.holds Try.pinned (OpenSpec.ofChange lruOldestWrong)

/-- 'pagecachelaw08.LruBalanced': WHATEVER THE INPUT: true; the input reads as it did. -/
def lruBalancedSpec : ChangeSpec := { name := "lruBalanced", fn := fun _ => fun
  | [d] => { results := [.lit (.bool true)], args := [d] }
  | _ => none }
def lruBalancedRow : OpenClaim := { program := "yteaofieijginhaa", sum := "5c5848c35f011f64b6ed4dcea5fa181a916c89412031a22d8eff31d220e10332", func := "pagecache/pagecachelaw08.LruBalanced", spec := "lruBalanced", inPlace := ["slices.overlaps[int]"], unfollowed := true, recurses := true, apart := false }
def LruBalancedSaid : Prop := lruBalancedRow.holds Try.pinned (OpenSpec.ofChange lruBalancedSpec)

/-- ITS FALSE NEIGHBOUR: 'it returns false'. Refute it at one input. -/
def lruBalancedWrong : ChangeSpec := { name := "lruBalanced", fn := fun _ => fun
  | [d] => { results := [.lit (.bool false)], args := [d] }
  | _ => none }
def LruBalancedWrongFalsely : Prop := lruBalancedRow.holds Try.pinned (OpenSpec.ofChange lruBalancedWrong)

/- THE SECOND FORM. 'bulk': how many values and letters a reading holds, each counted each time it is reached (what is shared counts as often as it is met; a slice's spare places count too). A statement '..UptoSaid' is the law's where the arguments, and the package variables that the reading takes, are together of bulk at most 1048576: NARROWER than '..Said'. Prove '..Said' where nothing that the law and all that it calls make is longer than what came in: it says more and counts as full. Else prove '..UptoSaid'. A law counts once. -/
mutual
def uptoBulk {H : Type} : DataW H → Nat
  | .lit (.string bytes) => bytes.length + 1
  | .lit _ => 1
  | .nil => 1
  | .ptr d => uptoBulk d + 1
  | .slice elems spare => uptoBulkAll elems + uptoBulkAll spare + 1
  | .agg parts => uptoBulkAll parts + 1
  | .iface _ d => uptoBulk d + 1
  | .map entries => uptoBulkEntries entries + 1
  | .held _ => 1
def uptoBulkAll {H : Type} : List (DataW H) → Nat
  | [] => 0
  | d :: r => uptoBulk d + uptoBulkAll r
def uptoBulkEntries {H : Type} : List (Lit × DataW H) → Nat
  | [] => 0
  | x :: r => uptoBulkEntry x + uptoBulkEntries r
def uptoBulkEntry {H : Type} : Lit × DataW H → Nat
  | (.string bytes, d) => bytes.length + uptoBulk d + 1
  | (_, d) => uptoBulk d + 1
 end
def uptoSmall : (H : Type) → List (DataW H) → Bool := fun _ ds => decide (uptoBulkAll ds ≤ 1048576)
def OpenSpec.upto (s : _root_.Go.ChangeSpec) : _root_.Go.OpenSpec := { _root_.Go.OpenSpec.ofChange s with cond := some uptoSmall }

/-- 'pagecachelaw08.LruMoves', WHERE WHAT IT READS IS OF BULK AT MOST 1048576: true; the input reads as it did. -/
def lruMovesUptoRow : OpenClaim := { program := "yteaofieijginhaa", sum := "5c5848c35f011f64b6ed4dcea5fa181a916c89412031a22d8eff31d220e10332", func := "pagecache/pagecachelaw08.LruMoves", spec := "lruMoves", inPlace := ["slices.overlaps[int]"], unfollowed := true, recurses := true, apart := false, narrowed := true }
def LruMovesUptoSaid : Prop := lruMovesUptoRow.holds Try.pinned (OpenSpec.upto lruMovesSpec)

/-- 'pagecachelaw08.LruScans', WHERE WHAT IT READS IS OF BULK AT MOST 1048576: true; the input reads as it did. -/
def lruScansUptoRow : OpenClaim := { program := "yteaofieijginhaa", sum := "5c5848c35f011f64b6ed4dcea5fa181a916c89412031a22d8eff31d220e10332", func := "pagecache/pagecachelaw08.LruScans", spec := "lruScans", inPlace := ["slices.overlaps[int]"], unfollowed := true, recurses := true, apart := false, narrowed := true }
def LruScansUptoSaid : Prop := lruScansUptoRow.holds Try.pinned (OpenSpec.upto lruScansSpec)

/-- 'pagecachelaw08.LruKeeps', WHERE WHAT IT READS IS OF BULK AT MOST 1048576: true; the input reads as it did. -/
def lruKeepsUptoRow : OpenClaim := { program := "yteaofieijginhaa", sum := "5c5848c35f011f64b6ed4dcea5fa181a916c89412031a22d8eff31d220e10332", func := "pagecache/pagecachelaw08.LruKeeps", spec := "lruKeeps", inPlace := ["slices.overlaps[int]"], unfollowed := true, recurses := true, apart := false, narrowed := true }
def LruKeepsUptoSaid : Prop := lruKeepsUptoRow.holds Try.pinned (OpenSpec.upto lruKeepsSpec)

/-- 'pagecachelaw08.LruSecond', WHERE WHAT IT READS IS OF BULK AT MOST 1048576: true; the input reads as it did. -/
def lruSecondUptoRow : OpenClaim := { program := "yteaofieijginhaa", sum := "5c5848c35f011f64b6ed4dcea5fa181a916c89412031a22d8eff31d220e10332", func := "pagecache/pagecachelaw08.LruSecond", spec := "lruSecond", inPlace := ["slices.overlaps[int]"], unfollowed := true, recurses := true, apart := false, narrowed := true }
def LruSecondUptoSaid : Prop := lruSecondUptoRow.holds Try.pinned (OpenSpec.upto lruSecondSpec)

/-- 'pagecachelaw08.LruOldest', WHERE WHAT IT READS IS OF BULK AT MOST 1048576: true; the input reads as it did. -/
def lruOldestUptoRow : OpenClaim := { program := "yteaofieijginhaa", sum := "5c5848c35f011f64b6ed4dcea5fa181a916c89412031a22d8eff31d220e10332", func := "pagecache/pagecachelaw08.LruOldest", spec := "lruOldest", inPlace := ["slices.overlaps[int]"], unfollowed := true, recurses := true, apart := false, narrowed := true }
def LruOldestUptoSaid : Prop := lruOldestUptoRow.holds Try.pinned (OpenSpec.upto lruOldestSpec)

/-- 'pagecachelaw08.LruBalanced', WHERE WHAT IT READS IS OF BULK AT MOST 1048576: true; the input reads as it did. -/
def lruBalancedUptoRow : OpenClaim := { program := "yteaofieijginhaa", sum := "5c5848c35f011f64b6ed4dcea5fa181a916c89412031a22d8eff31d220e10332", func := "pagecache/pagecachelaw08.LruBalanced", spec := "lruBalanced", inPlace := ["slices.overlaps[int]"], unfollowed := true, recurses := true, apart := false, narrowed := true }
def LruBalancedUptoSaid : Prop := lruBalancedUptoRow.holds Try.pinned (OpenSpec.upto lruBalancedSpec)

end Rows
end Go.Proofs.Yteaofieijginhaa
