/-
  NARROWER THAN 'FOR EVERY INPUT', by the rows' own cells (each row's printed sentence says how): ReadaheadPlans: laid · ReadaheadReader: laid · ReadaheadOthers: laid.
  DERIVED. THE GIVEN ROWS OF THIS SEAT. 3 by the template 'for every input the law returns true; each argument reads behind the call as it read before'; 0 by the template 'total and deterministic' (their statements: YtfljohgcbihhbaaDoorTotals.lean).
  GIVEN WITH THE SEED: the statements are not yours to turn. If you find one false, say at which input.
  Laid BY PROGRAM, IN A SANDBOX (cutbox-rows.mjs): the forced cells as the released guide's own fill.sh prints them over the translation 7681c656fb49431c… (all of the seat's roots in one cut). By AI agents, Wed Nov 11 2026. No macro, syntax, notation, axiom, sorry.
-/
import Derived.Test.YtfljohgcbihhbaaDoorChecked
import GoSem.Claim
import GoSem.ClaimJoined
import GoSem.ClaimMapViews
import Derived.JoinedTies
import Derived.KernelRfl
namespace Go.Proofs.YtfljohgcbihhbaaDoor
/- THE CELL 'sum', in the pinned program and in every row, IS THE sha256 OF THE DUMP (.gsa) THAT YtfljohgcbihhbaaDoorProg.lean LOADS. Nothing in Lean hashes anything: it is a label: what it is worth is what the hold of that sum in a sandbox is worth. -/
noncomputable def Tryd.pinned : Pinned := { name := "ytfljohgcbihhbaadoor", sum := "7681c656fb49431cfd9ecf4e4c84492ebde44833d69d3004a018cebdc6fe83c9", checked := Tryd.checked }
namespace Rows
def none {H : Type} : Left H := { results := [], args := [] }

/- WHAT THE LISTED PACKAGE-LEVEL VARIABLES READ AS WHEN THE CALL BEGINS. Each datum BY PROGRAM (the guide's laid-datum.mjs) off the statement by which the dump's own 'gosem.cut.vars' lays the variable. In a bare row this is a premise. The card (YtfljohgcbihhbaaDoorCards.lean) ties it to the program's text. -/
def laid_pagecache_readahead_sizes {H : Type} : DataW H := .agg [.lit (.int .i64 2), .lit (.int .i64 4), .lit (.int .i64 8)]

/-- 'pagecachelaw07.ReadaheadPlans': WHATEVER THE INPUT: true; the input reads as it did. -/
def readaheadPlansSpec : ChangeSpec := { name := "readaheadPlans", fn := fun _ => fun
  | [d] => { results := [.lit (.bool true)], args := [d] }
  | _ => none }
def readaheadPlansRow : OpenClaim := { program := "ytfljohgcbihhbaadoor", sum := "7681c656fb49431cfd9ecf4e4c84492ebde44833d69d3004a018cebdc6fe83c9", func := "pagecache/pagecachelaw07.ReadaheadPlans", spec := "readaheadPlans", unfollowed := true, recurses := true, named := ["pagecache/readahead.sizes"], apart := false, laid := [("pagecache/readahead.sizes", laid_pagecache_readahead_sizes)] }
def ReadaheadPlansSaid : Prop := readaheadPlansRow.holds Tryd.pinned (OpenSpec.ofChange readaheadPlansSpec)

/-- ITS FALSE NEIGHBOUR: 'it returns false'. Refute it at one input. -/
def readaheadPlansWrong : ChangeSpec := { name := "readaheadPlans", fn := fun _ => fun
  | [d] => { results := [.lit (.bool false)], args := [d] }
  | _ => none }
def ReadaheadPlansWrongFalsely : Prop := readaheadPlansRow.holds Tryd.pinned (OpenSpec.ofChange readaheadPlansWrong)

/-- 'pagecachelaw07.ReadaheadReader': WHATEVER THE INPUT: true; the input reads as it did. -/
def readaheadReaderSpec : ChangeSpec := { name := "readaheadReader", fn := fun _ => fun
  | [d] => { results := [.lit (.bool true)], args := [d] }
  | _ => none }
def readaheadReaderRow : OpenClaim := { program := "ytfljohgcbihhbaadoor", sum := "7681c656fb49431cfd9ecf4e4c84492ebde44833d69d3004a018cebdc6fe83c9", func := "pagecache/pagecachelaw07.ReadaheadReader", spec := "readaheadReader", unfollowed := true, recurses := true, named := ["pagecache/readahead.sizes"], apart := false, laid := [("pagecache/readahead.sizes", laid_pagecache_readahead_sizes)] }
def ReadaheadReaderSaid : Prop := readaheadReaderRow.holds Tryd.pinned (OpenSpec.ofChange readaheadReaderSpec)

/-- ITS FALSE NEIGHBOUR: 'it returns false'. Refute it at one input. -/
def readaheadReaderWrong : ChangeSpec := { name := "readaheadReader", fn := fun _ => fun
  | [d] => { results := [.lit (.bool false)], args := [d] }
  | _ => none }
def ReadaheadReaderWrongFalsely : Prop := readaheadReaderRow.holds Tryd.pinned (OpenSpec.ofChange readaheadReaderWrong)

/-- 'pagecachelaw07.ReadaheadOthers': WHATEVER THE INPUT: true; the input reads as it did. -/
def readaheadOthersSpec : ChangeSpec := { name := "readaheadOthers", fn := fun _ => fun
  | [d] => { results := [.lit (.bool true)], args := [d] }
  | _ => none }
def readaheadOthersRow : OpenClaim := { program := "ytfljohgcbihhbaadoor", sum := "7681c656fb49431cfd9ecf4e4c84492ebde44833d69d3004a018cebdc6fe83c9", func := "pagecache/pagecachelaw07.ReadaheadOthers", spec := "readaheadOthers", unfollowed := true, recurses := true, named := ["pagecache/readahead.sizes"], apart := false, laid := [("pagecache/readahead.sizes", laid_pagecache_readahead_sizes)] }
def ReadaheadOthersSaid : Prop := readaheadOthersRow.holds Tryd.pinned (OpenSpec.ofChange readaheadOthersSpec)

/-- ITS FALSE NEIGHBOUR: 'it returns false'. Refute it at one input. -/
def readaheadOthersWrong : ChangeSpec := { name := "readaheadOthers", fn := fun _ => fun
  | [d] => { results := [.lit (.bool false)], args := [d] }
  | _ => none }
def ReadaheadOthersWrongFalsely : Prop := readaheadOthersRow.holds Tryd.pinned (OpenSpec.ofChange readaheadOthersWrong)

/- THE SECOND FORM. 'bulk': how many values and letters a reading holds, each counted each time it is reached (what is shared counts as often as it is met; a slice's spare places count too). A statement '..UptoSaid' is the law's where the arguments, and the package variables that the reading takes, are together of bulk at most 1048576: NARROWER than '..Said'. Prove '..Said' where nothing that the law and all that it calls make is longer than what came in: it says more and counts as full. Else prove '..UptoSaid'. A law counts once. -/
mutual
def uptoBulk {H : Type} : DataW H → Nat
  | .lit (.string bytes) => bytes.length + 1
  | .lit _ => 1
  | .nil => 1
  | .ptr d => uptoBulk d + 1
  | .slice elems spare => uptoBulkAll elems + uptoBulkAll spare + 1
  | .agg parts => uptoBulkAll parts + 1
  | .iface _ d => uptoBulk d + 1
  | .map entries => uptoBulkEntries entries + 1
  | .held _ => 1
def uptoBulkAll {H : Type} : List (DataW H) → Nat
  | [] => 0
  | d :: r => uptoBulk d + uptoBulkAll r
def uptoBulkEntries {H : Type} : List (Lit × DataW H) → Nat
  | [] => 0
  | x :: r => uptoBulkEntry x + uptoBulkEntries r
def uptoBulkEntry {H : Type} : Lit × DataW H → Nat
  | (.string bytes, d) => bytes.length + uptoBulk d + 1
  | (_, d) => uptoBulk d + 1
 end
def uptoSmall : (H : Type) → List (DataW H) → Bool := fun _ ds => decide (uptoBulkAll ds ≤ 1048576)
def OpenSpec.upto (s : _root_.Go.ChangeSpec) : _root_.Go.OpenSpec := { _root_.Go.OpenSpec.ofChange s with cond := some uptoSmall }

/-- 'pagecachelaw07.ReadaheadPlans', WHERE WHAT IT READS IS OF BULK AT MOST 1048576: true; the input reads as it did. -/
def readaheadPlansUptoRow : OpenClaim := { program := "ytfljohgcbihhbaadoor", sum := "7681c656fb49431cfd9ecf4e4c84492ebde44833d69d3004a018cebdc6fe83c9", func := "pagecache/pagecachelaw07.ReadaheadPlans", spec := "readaheadPlans", unfollowed := true, recurses := true, named := ["pagecache/readahead.sizes"], apart := false, laid := [("pagecache/readahead.sizes", laid_pagecache_readahead_sizes)], narrowed := true }
def ReadaheadPlansUptoSaid : Prop := readaheadPlansUptoRow.holds Tryd.pinned (OpenSpec.upto readaheadPlansSpec)

/-- 'pagecachelaw07.ReadaheadReader', WHERE WHAT IT READS IS OF BULK AT MOST 1048576: true; the input reads as it did. -/
def readaheadReaderUptoRow : OpenClaim := { program := "ytfljohgcbihhbaadoor", sum := "7681c656fb49431cfd9ecf4e4c84492ebde44833d69d3004a018cebdc6fe83c9", func := "pagecache/pagecachelaw07.ReadaheadReader", spec := "readaheadReader", unfollowed := true, recurses := true, named := ["pagecache/readahead.sizes"], apart := false, laid := [("pagecache/readahead.sizes", laid_pagecache_readahead_sizes)], narrowed := true }
def ReadaheadReaderUptoSaid : Prop := readaheadReaderUptoRow.holds Tryd.pinned (OpenSpec.upto readaheadReaderSpec)

/-- 'pagecachelaw07.ReadaheadOthers', WHERE WHAT IT READS IS OF BULK AT MOST 1048576: true; the input reads as it did. -/
def readaheadOthersUptoRow : OpenClaim := { program := "ytfljohgcbihhbaadoor", sum := "7681c656fb49431cfd9ecf4e4c84492ebde44833d69d3004a018cebdc6fe83c9", func := "pagecache/pagecachelaw07.ReadaheadOthers", spec := "readaheadOthers", unfollowed := true, recurses := true, named := ["pagecache/readahead.sizes"], apart := false, laid := [("pagecache/readahead.sizes", laid_pagecache_readahead_sizes)], narrowed := true }
def ReadaheadOthersUptoSaid : Prop := readaheadOthersUptoRow.holds Tryd.pinned (OpenSpec.upto readaheadOthersSpec)

end Rows
end Go.Proofs.YtfljohgcbihhbaaDoor
