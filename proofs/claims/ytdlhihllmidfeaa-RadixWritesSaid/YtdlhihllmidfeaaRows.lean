/-
  No cell of these rows narrows 'for every input' (looked for: loops, veiled, ifaces, maps, wideKeys, modest, calm, conditions, laid).
  DERIVED. THE GIVEN ROWS OF THIS SEAT. 7 by the template 'for every input the law returns true; each argument reads behind the call as it read before'; 0 by the template 'total and deterministic' (their statements: YtdlhihllmidfeaaTotals.lean).
  GIVEN WITH THE SEED: the statements are not yours to turn. If you find one false, say at which input.
  Laid BY PROGRAM, IN A SANDBOX (cutbox-rows.mjs): the forced cells as the released guide's own fill.sh prints them over the translation 9d6eaf8e4ad30987… (all of the seat's roots in one cut). By AI agents, Wed Nov 11 2026. No macro, syntax, notation, axiom, sorry.
-/
import Derived.Test.YtdlhihllmidfeaaChecked
import GoSem.Claim
import GoSem.ClaimJoined
import GoSem.ClaimMapViews
import Derived.JoinedTies
import Derived.KernelRfl
namespace Go.Proofs.Ytdlhihllmidfeaa
/- THE CELL 'sum', in the pinned program and in every row, IS THE sha256 OF THE DUMP (.gsa) THAT YtdlhihllmidfeaaProg.lean LOADS. Nothing in Lean hashes anything: it is a label: what it is worth is what the hold of that sum in a sandbox is worth. -/
noncomputable def Try.pinned : Pinned := { name := "ytdlhihllmidfeaa", sum := "9d6eaf8e4ad3098727908e0c5c49b5753fa9578b32c8eab049d94bbe0e375ea6", checked := Try.checked }
namespace Rows
def none {H : Type} : Left H := { results := [], args := [] }

/-- 'pagecachelaw01.RadixReads': WHATEVER THE INPUT: true; the input reads as it did. -/
def radixReadsSpec : ChangeSpec := { name := "radixReads", fn := fun _ => fun
  | [d1, d2, d3, d4] => { results := [.lit (.bool true)], args := [d1, d2, d3, d4] }
  | _ => none }
def radixReadsRow : OpenClaim := { program := "ytdlhihllmidfeaa", sum := "9d6eaf8e4ad3098727908e0c5c49b5753fa9578b32c8eab049d94bbe0e375ea6", func := "pagecache/pagecachelaw01.RadixReads", spec := "radixReads", recurses := true, apart := false }
def RadixReadsSaid : Prop := radixReadsRow.holds Try.pinned (OpenSpec.ofChange radixReadsSpec)

/-- ITS FALSE NEIGHBOUR: 'it returns false'. Refute it at one input. -/
def radixReadsWrong : ChangeSpec := { name := "radixReads", fn := fun _ => fun
  | [d1, d2, d3, d4] => { results := [.lit (.bool false)], args := [d1, d2, d3, d4] }
  | _ => none }
def RadixReadsWrongFalsely : Prop := radixReadsRow.holds Try.pinned (OpenSpec.ofChange radixReadsWrong)

/-- 'pagecachelaw01.RadixWrites': WHATEVER THE INPUT: true; the input reads as it did. -/
def radixWritesSpec : ChangeSpec := { name := "radixWrites", fn := fun _ => fun
  | [d1, d2, d3] => { results := [.lit (.bool true)], args := [d1, d2, d3] }
  | _ => none }
def radixWritesRow : OpenClaim := { program := "ytdlhihllmidfeaa", sum := "9d6eaf8e4ad3098727908e0c5c49b5753fa9578b32c8eab049d94bbe0e375ea6", func := "pagecache/pagecachelaw01.RadixWrites", spec := "radixWrites", recurses := true, apart := false }
def RadixWritesSaid : Prop := radixWritesRow.holds Try.pinned (OpenSpec.ofChange radixWritesSpec)

/-- ITS FALSE NEIGHBOUR: 'it returns false'. Refute it at one input. -/
def radixWritesWrong : ChangeSpec := { name := "radixWrites", fn := fun _ => fun
  | [d1, d2, d3] => { results := [.lit (.bool false)], args := [d1, d2, d3] }
  | _ => none }
def RadixWritesWrongFalsely : Prop := radixWritesRow.holds Try.pinned (OpenSpec.ofChange radixWritesWrong)

/-- 'pagecachelaw01.RadixBuilds': WHATEVER THE INPUT: true; the input reads as it did. -/
def radixBuildsSpec : ChangeSpec := { name := "radixBuilds", fn := fun _ => fun
  | [d] => { results := [.lit (.bool true)], args := [d] }
  | _ => none }
def radixBuildsRow : OpenClaim := { program := "ytdlhihllmidfeaa", sum := "9d6eaf8e4ad3098727908e0c5c49b5753fa9578b32c8eab049d94bbe0e375ea6", func := "pagecache/pagecachelaw01.RadixBuilds", spec := "radixBuilds", recurses := true, apart := false }
def RadixBuildsSaid : Prop := radixBuildsRow.holds Try.pinned (OpenSpec.ofChange radixBuildsSpec)

/-- ITS FALSE NEIGHBOUR: 'it returns false'. Refute it at one input. -/
def radixBuildsWrong : ChangeSpec := { name := "radixBuilds", fn := fun _ => fun
  | [d] => { results := [.lit (.bool false)], args := [d] }
  | _ => none }
def RadixBuildsWrongFalsely : Prop := radixBuildsRow.holds Try.pinned (OpenSpec.ofChange radixBuildsWrong)

/-- 'pagecachelaw01.RadixOrder': WHATEVER THE INPUT: true; the input reads as it did. -/
def radixOrderSpec : ChangeSpec := { name := "radixOrder", fn := fun _ => fun
  | [d1, d2] => { results := [.lit (.bool true)], args := [d1, d2] }
  | _ => none }
def radixOrderRow : OpenClaim := { program := "ytdlhihllmidfeaa", sum := "9d6eaf8e4ad3098727908e0c5c49b5753fa9578b32c8eab049d94bbe0e375ea6", func := "pagecache/pagecachelaw01.RadixOrder", spec := "radixOrder", recurses := true, apart := false }
def RadixOrderSaid : Prop := radixOrderRow.holds Try.pinned (OpenSpec.ofChange radixOrderSpec)

/-- ITS FALSE NEIGHBOUR: 'it returns false'. Refute it at one input. -/
def radixOrderWrong : ChangeSpec := { name := "radixOrder", fn := fun _ => fun
  | [d1, d2] => { results := [.lit (.bool false)], args := [d1, d2] }
  | _ => none }
def RadixOrderWrongFalsely : Prop := radixOrderRow.holds Try.pinned (OpenSpec.ofChange radixOrderWrong)

/-- 'pagecachelaw01.RadixWalks': WHATEVER THE INPUT: true; the input reads as it did. -/
def radixWalksSpec : ChangeSpec := { name := "radixWalks", fn := fun _ => fun
  | [d1, d2] => { results := [.lit (.bool true)], args := [d1, d2] }
  | _ => none }
def radixWalksRow : OpenClaim := { program := "ytdlhihllmidfeaa", sum := "9d6eaf8e4ad3098727908e0c5c49b5753fa9578b32c8eab049d94bbe0e375ea6", func := "pagecache/pagecachelaw01.RadixWalks", spec := "radixWalks", recurses := true, apart := false }
def RadixWalksSaid : Prop := radixWalksRow.holds Try.pinned (OpenSpec.ofChange radixWalksSpec)

/-- ITS FALSE NEIGHBOUR: 'it returns false'. Refute it at one input. -/
def radixWalksWrong : ChangeSpec := { name := "radixWalks", fn := fun _ => fun
  | [d1, d2] => { results := [.lit (.bool false)], args := [d1, d2] }
  | _ => none }
def RadixWalksWrongFalsely : Prop := radixWalksRow.holds Try.pinned (OpenSpec.ofChange radixWalksWrong)

/-- 'pagecachelaw01.RadixHeight': WHATEVER THE INPUT: true; the input reads as it did. -/
def radixHeightSpec : ChangeSpec := { name := "radixHeight", fn := fun _ => fun
  | [d] => { results := [.lit (.bool true)], args := [d] }
  | _ => none }
def radixHeightRow : OpenClaim := { program := "ytdlhihllmidfeaa", sum := "9d6eaf8e4ad3098727908e0c5c49b5753fa9578b32c8eab049d94bbe0e375ea6", func := "pagecache/pagecachelaw01.RadixHeight", spec := "radixHeight", recurses := true, apart := false }
def RadixHeightSaid : Prop := radixHeightRow.holds Try.pinned (OpenSpec.ofChange radixHeightSpec)

/-- ITS FALSE NEIGHBOUR: 'it returns false'. Refute it at one input. -/
def radixHeightWrong : ChangeSpec := { name := "radixHeight", fn := fun _ => fun
  | [d] => { results := [.lit (.bool false)], args := [d] }
  | _ => none }
def RadixHeightWrongFalsely : Prop := radixHeightRow.holds Try.pinned (OpenSpec.ofChange radixHeightWrong)

/-- 'pagecachelaw01.RadixMarks': WHATEVER THE INPUT: true; the input reads as it did. -/
def radixMarksSpec : ChangeSpec := { name := "radixMarks", fn := fun _ => fun
  | [d1, d2] => { results := [.lit (.bool true)], args := [d1, d2] }
  | _ => none }
def radixMarksRow : OpenClaim := { program := "ytdlhihllmidfeaa", sum := "9d6eaf8e4ad3098727908e0c5c49b5753fa9578b32c8eab049d94bbe0e375ea6", func := "pagecache/pagecachelaw01.RadixMarks", spec := "radixMarks", recurses := true, apart := false }
def RadixMarksSaid : Prop := radixMarksRow.holds Try.pinned (OpenSpec.ofChange radixMarksSpec)

/-- ITS FALSE NEIGHBOUR: 'it returns false'. Refute it at one input. -/
def radixMarksWrong : ChangeSpec := { name := "radixMarks", fn := fun _ => fun
  | [d1, d2] => { results := [.lit (.bool false)], args := [d1, d2] }
  | _ => none }
def RadixMarksWrongFalsely : Prop := radixMarksRow.holds Try.pinned (OpenSpec.ofChange radixMarksWrong)

/- THE SECOND FORM. 'bulk': how many values and letters a reading holds, each counted each time it is reached (what is shared counts as often as it is met; a slice's spare places count too). A statement '..UptoSaid' is the law's where the arguments, and the package variables that the reading takes, are together of bulk at most 1048576: NARROWER than '..Said'. Prove '..Said' where nothing that the law and all that it calls make is longer than what came in: it says more and counts as full. Else prove '..UptoSaid'. A law counts once. -/
mutual
def uptoBulk {H : Type} : DataW H → Nat
  | .lit (.string bytes) => bytes.length + 1
  | .lit _ => 1
  | .nil => 1
  | .ptr d => uptoBulk d + 1
  | .slice elems spare => uptoBulkAll elems + uptoBulkAll spare + 1
  | .agg parts => uptoBulkAll parts + 1
  | .iface _ d => uptoBulk d + 1
  | .map entries => uptoBulkEntries entries + 1
  | .held _ => 1
def uptoBulkAll {H : Type} : List (DataW H) → Nat
  | [] => 0
  | d :: r => uptoBulk d + uptoBulkAll r
def uptoBulkEntries {H : Type} : List (Lit × DataW H) → Nat
  | [] => 0
  | x :: r => uptoBulkEntry x + uptoBulkEntries r
def uptoBulkEntry {H : Type} : Lit × DataW H → Nat
  | (.string bytes, d) => bytes.length + uptoBulk d + 1
  | (_, d) => uptoBulk d + 1
 end
def uptoSmall : (H : Type) → List (DataW H) → Bool := fun _ ds => decide (uptoBulkAll ds ≤ 1048576)
def OpenSpec.upto (s : _root_.Go.ChangeSpec) : _root_.Go.OpenSpec := { _root_.Go.OpenSpec.ofChange s with cond := some uptoSmall }

/-- 'pagecachelaw01.RadixReads', WHERE WHAT IT READS IS OF BULK AT MOST 1048576: true; the input reads as it did. -/
def radixReadsUptoRow : OpenClaim := { program := "ytdlhihllmidfeaa", sum := "9d6eaf8e4ad3098727908e0c5c49b5753fa9578b32c8eab049d94bbe0e375ea6", func := "pagecache/pagecachelaw01.RadixReads", spec := "radixReads", recurses := true, apart := false, narrowed := true }
def RadixReadsUptoSaid : Prop := radixReadsUptoRow.holds Try.pinned (OpenSpec.upto radixReadsSpec)

/-- 'pagecachelaw01.RadixWrites', WHERE WHAT IT READS IS OF BULK AT MOST 1048576: true; the input reads as it did. -/
def radixWritesUptoRow : OpenClaim := { program := "ytdlhihllmidfeaa", sum := "9d6eaf8e4ad3098727908e0c5c49b5753fa9578b32c8eab049d94bbe0e375ea6", func := "pagecache/pagecachelaw01.RadixWrites", spec := "radixWrites", recurses := true, apart := false, narrowed := true }
def RadixWritesUptoSaid : Prop := radixWritesUptoRow.holds Try.pinned (OpenSpec.upto radixWritesSpec)

/-- 'pagecachelaw01.RadixBuilds', WHERE WHAT IT READS IS OF BULK AT MOST 1048576: true; the input reads as it did. -/
def radixBuildsUptoRow : OpenClaim := { program := "ytdlhihllmidfeaa", sum := "9d6eaf8e4ad3098727908e0c5c49b5753fa9578b32c8eab049d94bbe0e375ea6", func := "pagecache/pagecachelaw01.RadixBuilds", spec := "radixBuilds", recurses := true, apart := false, narrowed := true }
def RadixBuildsUptoSaid : Prop := radixBuildsUptoRow.holds Try.pinned (OpenSpec.upto radixBuildsSpec)

/-- 'pagecachelaw01.RadixOrder', WHERE WHAT IT READS IS OF BULK AT MOST 1048576: true; the input reads as it did. -/
def radixOrderUptoRow : OpenClaim := { program := "ytdlhihllmidfeaa", sum := "9d6eaf8e4ad3098727908e0c5c49b5753fa9578b32c8eab049d94bbe0e375ea6", func := "pagecache/pagecachelaw01.RadixOrder", spec := "radixOrder", recurses := true, apart := false, narrowed := true }
def RadixOrderUptoSaid : Prop := radixOrderUptoRow.holds Try.pinned (OpenSpec.upto radixOrderSpec)

/-- 'pagecachelaw01.RadixWalks', WHERE WHAT IT READS IS OF BULK AT MOST 1048576: true; the input reads as it did. -/
def radixWalksUptoRow : OpenClaim := { program := "ytdlhihllmidfeaa", sum := "9d6eaf8e4ad3098727908e0c5c49b5753fa9578b32c8eab049d94bbe0e375ea6", func := "pagecache/pagecachelaw01.RadixWalks", spec := "radixWalks", recurses := true, apart := false, narrowed := true }
def RadixWalksUptoSaid : Prop := radixWalksUptoRow.holds Try.pinned (OpenSpec.upto radixWalksSpec)

/-- 'pagecachelaw01.RadixHeight', WHERE WHAT IT READS IS OF BULK AT MOST 1048576: true; the input reads as it did. -/
def radixHeightUptoRow : OpenClaim := { program := "ytdlhihllmidfeaa", sum := "9d6eaf8e4ad3098727908e0c5c49b5753fa9578b32c8eab049d94bbe0e375ea6", func := "pagecache/pagecachelaw01.RadixHeight", spec := "radixHeight", recurses := true, apart := false, narrowed := true }
def RadixHeightUptoSaid : Prop := radixHeightUptoRow.holds Try.pinned (OpenSpec.upto radixHeightSpec)

/-- 'pagecachelaw01.RadixMarks', WHERE WHAT IT READS IS OF BULK AT MOST 1048576: true; the input reads as it did. -/
def radixMarksUptoRow : OpenClaim := { program := "ytdlhihllmidfeaa", sum := "9d6eaf8e4ad3098727908e0c5c49b5753fa9578b32c8eab049d94bbe0e375ea6", func := "pagecache/pagecachelaw01.RadixMarks", spec := "radixMarks", recurses := true, apart := false, narrowed := true }
def RadixMarksUptoSaid : Prop := radixMarksUptoRow.holds Try.pinned (OpenSpec.upto radixMarksSpec)

end Rows
end Go.Proofs.Ytdlhihllmidfeaa
