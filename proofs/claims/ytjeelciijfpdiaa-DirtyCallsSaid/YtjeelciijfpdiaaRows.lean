/-
  No cell of these rows narrows 'for every input' (looked for: loops, veiled, ifaces, maps, wideKeys, modest, calm, conditions, laid).
  DERIVED. THE GIVEN ROWS OF THIS SEAT. 3 by the template 'for every input the law returns true; each argument reads behind the call as it read before'; 0 by the template 'total and deterministic' (their statements: YtjeelciijfpdiaaTotals.lean).
  GIVEN WITH THE SEED: the statements are not yours to turn. If you find one false, say at which input.
  Laid BY PROGRAM, IN A SANDBOX (cutbox-rows.mjs): the forced cells as the released guide's own fill.sh prints them over the translation 766b68a1c021fa0d… (all of the seat's roots in one cut). By AI agents, Wed Nov 11 2026. No macro, syntax, notation, axiom, sorry.
-/
import Derived.Test.YtjeelciijfpdiaaChecked
import GoSem.Claim
import GoSem.ClaimJoined
import GoSem.ClaimMapViews
import Derived.JoinedTies
import Derived.KernelRfl
namespace Go.Proofs.Ytjeelciijfpdiaa
/- THE CELL 'sum', in the pinned program and in every row, IS THE sha256 OF THE DUMP (.gsa) THAT YtjeelciijfpdiaaProg.lean LOADS. Nothing in Lean hashes anything: it is a label: what it is worth is what the hold of that sum in a sandbox is worth. -/
noncomputable def Try.pinned : Pinned := { name := "ytjeelciijfpdiaa", sum := "766b68a1c021fa0dd24b822f6a055d3ed61ee25ab1dfc3dc6d163cadc6223f06", checked := Try.checked }
namespace Rows
def none {H : Type} : Left H := { results := [], args := [] }

/-- 'pagecachelaw13.DirtyCalls': WHATEVER THE INPUT: true; the input reads as it did. -/
def dirtyCallsSpec : ChangeSpec := { name := "dirtyCalls", fn := fun _ => fun
  | [d] => { results := [.lit (.bool true)], args := [d] }
  | _ => none }
def dirtyCallsRow : OpenClaim := { program := "ytjeelciijfpdiaa", sum := "766b68a1c021fa0dd24b822f6a055d3ed61ee25ab1dfc3dc6d163cadc6223f06", func := "pagecache/pagecachelaw13.DirtyCalls", spec := "dirtyCalls", unfollowed := true, recurses := true, apart := false }
def DirtyCallsSaid : Prop := dirtyCallsRow.holds Try.pinned (OpenSpec.ofChange dirtyCallsSpec)

/-- ITS FALSE NEIGHBOUR: 'it returns false'. Refute it at one input. -/
def dirtyCallsWrong : ChangeSpec := { name := "dirtyCalls", fn := fun _ => fun
  | [d] => { results := [.lit (.bool false)], args := [d] }
  | _ => none }
def DirtyCallsWrongFalsely : Prop := dirtyCallsRow.holds Try.pinned (OpenSpec.ofChange dirtyCallsWrong)

/-- 'pagecachelaw13.DirtyShares': WHATEVER THE INPUT: true; the input reads as it did. -/
def dirtySharesSpec : ChangeSpec := { name := "dirtyShares", fn := fun _ => fun
  | [d] => { results := [.lit (.bool true)], args := [d] }
  | _ => none }
def dirtySharesRow : OpenClaim := { program := "ytjeelciijfpdiaa", sum := "766b68a1c021fa0dd24b822f6a055d3ed61ee25ab1dfc3dc6d163cadc6223f06", func := "pagecache/pagecachelaw13.DirtyShares", spec := "dirtyShares", unfollowed := true, recurses := true, apart := false }
def DirtySharesSaid : Prop := dirtySharesRow.holds Try.pinned (OpenSpec.ofChange dirtySharesSpec)

/-- ITS FALSE NEIGHBOUR: 'it returns false'. Refute it at one input. -/
def dirtySharesWrong : ChangeSpec := { name := "dirtyShares", fn := fun _ => fun
  | [d] => { results := [.lit (.bool false)], args := [d] }
  | _ => none }
def DirtySharesWrongFalsely : Prop := dirtySharesRow.holds Try.pinned (OpenSpec.ofChange dirtySharesWrong)

/-- 'pagecachelaw13.DirtyFades': WHATEVER THE INPUT: true; the input reads as it did. -/
def dirtyFadesSpec : ChangeSpec := { name := "dirtyFades", fn := fun _ => fun
  | [d1, d2] => { results := [.lit (.bool true)], args := [d1, d2] }
  | _ => none }
def dirtyFadesRow : OpenClaim := { program := "ytjeelciijfpdiaa", sum := "766b68a1c021fa0dd24b822f6a055d3ed61ee25ab1dfc3dc6d163cadc6223f06", func := "pagecache/pagecachelaw13.DirtyFades", spec := "dirtyFades", unfollowed := true, recurses := true, apart := false }
def DirtyFadesSaid : Prop := dirtyFadesRow.holds Try.pinned (OpenSpec.ofChange dirtyFadesSpec)

/-- ITS FALSE NEIGHBOUR: 'it returns false'. Refute it at one input. -/
def dirtyFadesWrong : ChangeSpec := { name := "dirtyFades", fn := fun _ => fun
  | [d1, d2] => { results := [.lit (.bool false)], args := [d1, d2] }
  | _ => none }
def DirtyFadesWrongFalsely : Prop := dirtyFadesRow.holds Try.pinned (OpenSpec.ofChange dirtyFadesWrong)

/- THE SECOND FORM. 'bulk': how many values and letters a reading holds, each counted each time it is reached (what is shared counts as often as it is met; a slice's spare places count too). A statement '..UptoSaid' is the law's where the arguments, and the package variables that the reading takes, are together of bulk at most 1048576: NARROWER than '..Said'. Prove '..Said' where nothing that the law and all that it calls make is longer than what came in: it says more and counts as full. Else prove '..UptoSaid'. A law counts once. -/
mutual
def uptoBulk {H : Type} : DataW H → Nat
  | .lit (.string bytes) => bytes.length + 1
  | .lit _ => 1
  | .nil => 1
  | .ptr d => uptoBulk d + 1
  | .slice elems spare => uptoBulkAll elems + uptoBulkAll spare + 1
  | .agg parts => uptoBulkAll parts + 1
  | .iface _ d => uptoBulk d + 1
  | .map entries => uptoBulkEntries entries + 1
  | .held _ => 1
def uptoBulkAll {H : Type} : List (DataW H) → Nat
  | [] => 0
  | d :: r => uptoBulk d + uptoBulkAll r
def uptoBulkEntries {H : Type} : List (Lit × DataW H) → Nat
  | [] => 0
  | x :: r => uptoBulkEntry x + uptoBulkEntries r
def uptoBulkEntry {H : Type} : Lit × DataW H → Nat
  | (.string bytes, d) => bytes.length + uptoBulk d + 1
  | (_, d) => uptoBulk d + 1
 end
def uptoSmall : (H : Type) → List (DataW H) → Bool := fun _ ds => decide (uptoBulkAll ds ≤ 1048576)
def OpenSpec.upto (s : _root_.Go.ChangeSpec) : _root_.Go.OpenSpec := { _root_.Go.OpenSpec.ofChange s with cond := some uptoSmall }

/-- 'pagecachelaw13.DirtyCalls', WHERE WHAT IT READS IS OF BULK AT MOST 1048576: true; the input reads as it did. -/
def dirtyCallsUptoRow : OpenClaim := { program := "ytjeelciijfpdiaa", sum := "766b68a1c021fa0dd24b822f6a055d3ed61ee25ab1dfc3dc6d163cadc6223f06", func := "pagecache/pagecachelaw13.DirtyCalls", spec := "dirtyCalls", unfollowed := true, recurses := true, apart := false, narrowed := true }
def DirtyCallsUptoSaid : Prop := dirtyCallsUptoRow.holds Try.pinned (OpenSpec.upto dirtyCallsSpec)

/-- 'pagecachelaw13.DirtyShares', WHERE WHAT IT READS IS OF BULK AT MOST 1048576: true; the input reads as it did. -/
def dirtySharesUptoRow : OpenClaim := { program := "ytjeelciijfpdiaa", sum := "766b68a1c021fa0dd24b822f6a055d3ed61ee25ab1dfc3dc6d163cadc6223f06", func := "pagecache/pagecachelaw13.DirtyShares", spec := "dirtyShares", unfollowed := true, recurses := true, apart := false, narrowed := true }
def DirtySharesUptoSaid : Prop := dirtySharesUptoRow.holds Try.pinned (OpenSpec.upto dirtySharesSpec)

/-- 'pagecachelaw13.DirtyFades', WHERE WHAT IT READS IS OF BULK AT MOST 1048576: true; the input reads as it did. -/
def dirtyFadesUptoRow : OpenClaim := { program := "ytjeelciijfpdiaa", sum := "766b68a1c021fa0dd24b822f6a055d3ed61ee25ab1dfc3dc6d163cadc6223f06", func := "pagecache/pagecachelaw13.DirtyFades", spec := "dirtyFades", unfollowed := true, recurses := true, apart := false, narrowed := true }
def DirtyFadesUptoSaid : Prop := dirtyFadesUptoRow.holds Try.pinned (OpenSpec.upto dirtyFadesSpec)

end Rows
end Go.Proofs.Ytjeelciijfpdiaa
