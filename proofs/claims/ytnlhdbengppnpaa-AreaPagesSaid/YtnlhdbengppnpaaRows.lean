/-
  No cell of these rows narrows 'for every input' (looked for: loops, veiled, ifaces, maps, wideKeys, modest, calm, conditions, laid).
  DERIVED. THE GIVEN ROWS OF THIS SEAT. 4 by the template 'for every input the law returns true; each argument reads behind the call as it read before'; 0 by the template 'total and deterministic' (their statements: YtnlhdbengppnpaaTotals.lean).
  GIVEN WITH THE SEED: the statements are not yours to turn. If you find one false, say at which input.
  Laid BY PROGRAM, IN A SANDBOX (cutbox-rows.mjs): the forced cells as the released guide's own fill.sh prints them over the translation 6f43172ae8f25e9c… (all of the seat's roots in one cut). By AI agents, Wed Nov 11 2026. No macro, syntax, notation, axiom, sorry.
-/
import Derived.Test.YtnlhdbengppnpaaChecked
import GoSem.Claim
import GoSem.ClaimJoined
import GoSem.ClaimMapViews
import Derived.JoinedTies
import Derived.KernelRfl
namespace Go.Proofs.Ytnlhdbengppnpaa
/- THE CELL 'sum', in the pinned program and in every row, IS THE sha256 OF THE DUMP (.gsa) THAT YtnlhdbengppnpaaProg.lean LOADS. Nothing in Lean hashes anything: it is a label: what it is worth is what the hold of that sum in a sandbox is worth. -/
noncomputable def Try.pinned : Pinned := { name := "ytnlhdbengppnpaa", sum := "6f43172ae8f25e9c98e811ee9b2373b6ad8438c711fe39534d736b12c489dccd", checked := Try.checked }
namespace Rows
def none {H : Type} : Left H := { results := [], args := [] }

/-- 'pagecachelaw16.AreaCalls': WHATEVER THE INPUT: true; the input reads as it did. -/
def areaCallsSpec : ChangeSpec := { name := "areaCalls", fn := fun _ => fun
  | [d] => { results := [.lit (.bool true)], args := [d] }
  | _ => none }
def areaCallsRow : OpenClaim := { program := "ytnlhdbengppnpaa", sum := "6f43172ae8f25e9c98e811ee9b2373b6ad8438c711fe39534d736b12c489dccd", func := "pagecache/pagecachelaw16.AreaCalls", spec := "areaCalls", inPlace := ["slices.overlaps[pagecache/api.Area]"], apart := false }
def AreaCallsSaid : Prop := areaCallsRow.holds Try.pinned (OpenSpec.ofChange areaCallsSpec)

/-- ITS FALSE NEIGHBOUR: 'it returns false'. Refute it at one input. -/
def areaCallsWrong : ChangeSpec := { name := "areaCalls", fn := fun _ => fun
  | [d] => { results := [.lit (.bool false)], args := [d] }
  | _ => none }
def AreaCallsWrongFalsely : Prop := areaCallsRow.holds Try.pinned (OpenSpec.ofChange areaCallsWrong)

/-- 'pagecachelaw16.AreaPages': WHATEVER THE INPUT: true; the input reads as it did. -/
def areaPagesSpec : ChangeSpec := { name := "areaPages", fn := fun _ => fun
  | [d1, d2] => { results := [.lit (.bool true)], args := [d1, d2] }
  | _ => none }
def areaPagesRow : OpenClaim := { program := "ytnlhdbengppnpaa", sum := "6f43172ae8f25e9c98e811ee9b2373b6ad8438c711fe39534d736b12c489dccd", func := "pagecache/pagecachelaw16.AreaPages", spec := "areaPages", inPlace := ["slices.overlaps[pagecache/api.Area]"], apart := false }
def AreaPagesSaid : Prop := areaPagesRow.holds Try.pinned (OpenSpec.ofChange areaPagesSpec)

/-- ITS FALSE NEIGHBOUR: 'it returns false'. Refute it at one input. -/
def areaPagesWrong : ChangeSpec := { name := "areaPages", fn := fun _ => fun
  | [d1, d2] => { results := [.lit (.bool false)], args := [d1, d2] }
  | _ => none }
def AreaPagesWrongFalsely : Prop := areaPagesRow.holds Try.pinned (OpenSpec.ofChange areaPagesWrong)

/-- 'pagecachelaw16.AreaShown': WHATEVER THE INPUT: true; the input reads as it did. -/
def areaShownSpec : ChangeSpec := { name := "areaShown", fn := fun _ => fun
  | [d1, d2, d3] => { results := [.lit (.bool true)], args := [d1, d2, d3] }
  | _ => none }
def areaShownRow : OpenClaim := { program := "ytnlhdbengppnpaa", sum := "6f43172ae8f25e9c98e811ee9b2373b6ad8438c711fe39534d736b12c489dccd", func := "pagecache/pagecachelaw16.AreaShown", spec := "areaShown", inPlace := ["slices.overlaps[pagecache/api.Area]"], apart := false }
def AreaShownSaid : Prop := areaShownRow.holds Try.pinned (OpenSpec.ofChange areaShownSpec)

/-- ITS FALSE NEIGHBOUR: 'it returns false'. Refute it at one input. -/
def areaShownWrong : ChangeSpec := { name := "areaShown", fn := fun _ => fun
  | [d1, d2, d3] => { results := [.lit (.bool false)], args := [d1, d2, d3] }
  | _ => none }
def AreaShownWrongFalsely : Prop := areaShownRow.holds Try.pinned (OpenSpec.ofChange areaShownWrong)

/-- 'pagecachelaw16.AreaUndone': WHATEVER THE INPUT: true; the input reads as it did. -/
def areaUndoneSpec : ChangeSpec := { name := "areaUndone", fn := fun _ => fun
  | [d1, d2] => { results := [.lit (.bool true)], args := [d1, d2] }
  | _ => none }
def areaUndoneRow : OpenClaim := { program := "ytnlhdbengppnpaa", sum := "6f43172ae8f25e9c98e811ee9b2373b6ad8438c711fe39534d736b12c489dccd", func := "pagecache/pagecachelaw16.AreaUndone", spec := "areaUndone", inPlace := ["slices.overlaps[pagecache/api.Area]"], apart := false }
def AreaUndoneSaid : Prop := areaUndoneRow.holds Try.pinned (OpenSpec.ofChange areaUndoneSpec)

/-- ITS FALSE NEIGHBOUR: 'it returns false'. Refute it at one input. -/
def areaUndoneWrong : ChangeSpec := { name := "areaUndone", fn := fun _ => fun
  | [d1, d2] => { results := [.lit (.bool false)], args := [d1, d2] }
  | _ => none }
def AreaUndoneWrongFalsely : Prop := areaUndoneRow.holds Try.pinned (OpenSpec.ofChange areaUndoneWrong)

/- THE SECOND FORM. 'bulk': how many values and letters a reading holds, each counted each time it is reached (what is shared counts as often as it is met; a slice's spare places count too). A statement '..UptoSaid' is the law's where the arguments, and the package variables that the reading takes, are together of bulk at most 1048576: NARROWER than '..Said'. Prove '..Said' where nothing that the law and all that it calls make is longer than what came in: it says more and counts as full. Else prove '..UptoSaid'. A law counts once. -/
mutual
def uptoBulk {H : Type} : DataW H → Nat
  | .lit (.string bytes) => bytes.length + 1
  | .lit _ => 1
  | .nil => 1
  | .ptr d => uptoBulk d + 1
  | .slice elems spare => uptoBulkAll elems + uptoBulkAll spare + 1
  | .agg parts => uptoBulkAll parts + 1
  | .iface _ d => uptoBulk d + 1
  | .map entries => uptoBulkEntries entries + 1
  | .held _ => 1
def uptoBulkAll {H : Type} : List (DataW H) → Nat
  | [] => 0
  | d :: r => uptoBulk d + uptoBulkAll r
def uptoBulkEntries {H : Type} : List (Lit × DataW H) → Nat
  | [] => 0
  | x :: r => uptoBulkEntry x + uptoBulkEntries r
def uptoBulkEntry {H : Type} : Lit × DataW H → Nat
  | (.string bytes, d) => bytes.length + uptoBulk d + 1
  | (_, d) => uptoBulk d + 1
 end
def uptoSmall : (H : Type) → List (DataW H) → Bool := fun _ ds => decide (uptoBulkAll ds ≤ 1048576)
def OpenSpec.upto (s : _root_.Go.ChangeSpec) : _root_.Go.OpenSpec := { _root_.Go.OpenSpec.ofChange s with cond := some uptoSmall }

/-- 'pagecachelaw16.AreaCalls', WHERE WHAT IT READS IS OF BULK AT MOST 1048576: true; the input reads as it did. -/
def areaCallsUptoRow : OpenClaim := { program := "ytnlhdbengppnpaa", sum := "6f43172ae8f25e9c98e811ee9b2373b6ad8438c711fe39534d736b12c489dccd", func := "pagecache/pagecachelaw16.AreaCalls", spec := "areaCalls", inPlace := ["slices.overlaps[pagecache/api.Area]"], apart := false, narrowed := true }
def AreaCallsUptoSaid : Prop := areaCallsUptoRow.holds Try.pinned (OpenSpec.upto areaCallsSpec)

/-- 'pagecachelaw16.AreaPages', WHERE WHAT IT READS IS OF BULK AT MOST 1048576: true; the input reads as it did. -/
def areaPagesUptoRow : OpenClaim := { program := "ytnlhdbengppnpaa", sum := "6f43172ae8f25e9c98e811ee9b2373b6ad8438c711fe39534d736b12c489dccd", func := "pagecache/pagecachelaw16.AreaPages", spec := "areaPages", inPlace := ["slices.overlaps[pagecache/api.Area]"], apart := false, narrowed := true }
def AreaPagesUptoSaid : Prop := areaPagesUptoRow.holds Try.pinned (OpenSpec.upto areaPagesSpec)

/-- 'pagecachelaw16.AreaShown', WHERE WHAT IT READS IS OF BULK AT MOST 1048576: true; the input reads as it did. -/
def areaShownUptoRow : OpenClaim := { program := "ytnlhdbengppnpaa", sum := "6f43172ae8f25e9c98e811ee9b2373b6ad8438c711fe39534d736b12c489dccd", func := "pagecache/pagecachelaw16.AreaShown", spec := "areaShown", inPlace := ["slices.overlaps[pagecache/api.Area]"], apart := false, narrowed := true }
def AreaShownUptoSaid : Prop := areaShownUptoRow.holds Try.pinned (OpenSpec.upto areaShownSpec)

/-- 'pagecachelaw16.AreaUndone', WHERE WHAT IT READS IS OF BULK AT MOST 1048576: true; the input reads as it did. -/
def areaUndoneUptoRow : OpenClaim := { program := "ytnlhdbengppnpaa", sum := "6f43172ae8f25e9c98e811ee9b2373b6ad8438c711fe39534d736b12c489dccd", func := "pagecache/pagecachelaw16.AreaUndone", spec := "areaUndone", inPlace := ["slices.overlaps[pagecache/api.Area]"], apart := false, narrowed := true }
def AreaUndoneUptoSaid : Prop := areaUndoneUptoRow.holds Try.pinned (OpenSpec.upto areaUndoneSpec)

end Rows
end Go.Proofs.Ytnlhdbengppnpaa
