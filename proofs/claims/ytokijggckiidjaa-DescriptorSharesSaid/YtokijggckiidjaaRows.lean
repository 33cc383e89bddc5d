/-
  No cell of these rows narrows 'for every input' (looked for: loops, veiled, ifaces, maps, wideKeys, modest, calm, conditions, laid).
  DERIVED. THE GIVEN ROWS OF THIS SEAT. 4 by the template 'for every input the law returns true; each argument reads behind the call as it read before'; 0 by the template 'total and deterministic' (their statements: YtokijggckiidjaaTotals.lean).
  GIVEN WITH THE SEED: the statements are not yours to turn. If you find one false, say at which input.
  Laid BY PROGRAM, IN A SANDBOX (cutbox-rows.mjs): the forced cells as the released guide's own fill.sh prints them over the translation ee9c377f7bf9e49a… (all of the seat's roots in one cut). By AI agents, Wed Nov 11 2026. No macro, syntax, notation, axiom, sorry.
-/
import Derived.Test.YtokijggckiidjaaChecked
import GoSem.Claim
import GoSem.ClaimJoined
import GoSem.ClaimMapViews
import Derived.JoinedTies
import Derived.KernelRfl
namespace Go.Proofs.Ytokijggckiidjaa
/- THE CELL 'sum', in the pinned program and in every row, IS THE sha256 OF THE DUMP (.gsa) THAT YtokijggckiidjaaProg.lean LOADS. Nothing in Lean hashes anything: it is a label: what it is worth is what the hold of that sum in a sandbox is worth. -/
noncomputable def Try.pinned : Pinned := { name := "ytokijggckiidjaa", sum := "ee9c377f7bf9e49a4e3bf3b02b1810e947efae655f6bbd0c44e29b0ab6cf9d2f", checked := Try.checked }
namespace Rows
def none {H : Type} : Left H := { results := [], args := [] }

/-- 'pagecachelaw18.DescriptorCalls': WHATEVER THE INPUT: true; the input reads as it did. -/
def descriptorCallsSpec : ChangeSpec := { name := "descriptorCalls", fn := fun _ => fun
  | [d] => { results := [.lit (.bool true)], args := [d] }
  | _ => none }
def descriptorCallsRow : OpenClaim := { program := "ytokijggckiidjaa", sum := "ee9c377f7bf9e49a4e3bf3b02b1810e947efae655f6bbd0c44e29b0ab6cf9d2f", func := "pagecache/pagecachelaw18.DescriptorCalls", spec := "descriptorCalls", unfollowed := true, recurses := true, apart := false }
def DescriptorCallsSaid : Prop := descriptorCallsRow.holds Try.pinned (OpenSpec.ofChange descriptorCallsSpec)

/-- ITS FALSE NEIGHBOUR: 'it returns false'. Refute it at one input. -/
def descriptorCallsWrong : ChangeSpec := { name := "descriptorCalls", fn := fun _ => fun
  | [d] => { results := [.lit (.bool false)], args := [d] }
  | _ => none }
def DescriptorCallsWrongFalsely : Prop := descriptorCallsRow.holds Try.pinned (OpenSpec.ofChange descriptorCallsWrong)

/-- 'pagecachelaw18.DescriptorShares': WHATEVER THE INPUT: true; the input reads as it did. -/
def descriptorSharesSpec : ChangeSpec := { name := "descriptorShares", fn := fun _ => fun
  | [d] => { results := [.lit (.bool true)], args := [d] }
  | _ => none }
def descriptorSharesRow : OpenClaim := { program := "ytokijggckiidjaa", sum := "ee9c377f7bf9e49a4e3bf3b02b1810e947efae655f6bbd0c44e29b0ab6cf9d2f", func := "pagecache/pagecachelaw18.DescriptorShares", spec := "descriptorShares", unfollowed := true, recurses := true, apart := false }
def DescriptorSharesSaid : Prop := descriptorSharesRow.holds Try.pinned (OpenSpec.ofChange descriptorSharesSpec)

/-- ITS FALSE NEIGHBOUR: 'it returns false'. Refute it at one input. -/
def descriptorSharesWrong : ChangeSpec := { name := "descriptorShares", fn := fun _ => fun
  | [d] => { results := [.lit (.bool false)], args := [d] }
  | _ => none }
def DescriptorSharesWrongFalsely : Prop := descriptorSharesRow.holds Try.pinned (OpenSpec.ofChange descriptorSharesWrong)

/-- 'pagecachelaw18.DescriptorUndone': WHATEVER THE INPUT: true; the input reads as it did. -/
def descriptorUndoneSpec : ChangeSpec := { name := "descriptorUndone", fn := fun _ => fun
  | [d] => { results := [.lit (.bool true)], args := [d] }
  | _ => none }
def descriptorUndoneRow : OpenClaim := { program := "ytokijggckiidjaa", sum := "ee9c377f7bf9e49a4e3bf3b02b1810e947efae655f6bbd0c44e29b0ab6cf9d2f", func := "pagecache/pagecachelaw18.DescriptorUndone", spec := "descriptorUndone", unfollowed := true, recurses := true, apart := false }
def DescriptorUndoneSaid : Prop := descriptorUndoneRow.holds Try.pinned (OpenSpec.ofChange descriptorUndoneSpec)

/-- ITS FALSE NEIGHBOUR: 'it returns false'. Refute it at one input. -/
def descriptorUndoneWrong : ChangeSpec := { name := "descriptorUndone", fn := fun _ => fun
  | [d] => { results := [.lit (.bool false)], args := [d] }
  | _ => none }
def DescriptorUndoneWrongFalsely : Prop := descriptorUndoneRow.holds Try.pinned (OpenSpec.ofChange descriptorUndoneWrong)

/-- 'pagecachelaw18.DescriptorApart': WHATEVER THE INPUT: true; the input reads as it did. -/
def descriptorApartSpec : ChangeSpec := { name := "descriptorApart", fn := fun _ => fun
  | [d] => { results := [.lit (.bool true)], args := [d] }
  | _ => none }
def descriptorApartRow : OpenClaim := { program := "ytokijggckiidjaa", sum := "ee9c377f7bf9e49a4e3bf3b02b1810e947efae655f6bbd0c44e29b0ab6cf9d2f", func := "pagecache/pagecachelaw18.DescriptorApart", spec := "descriptorApart", unfollowed := true, recurses := true, apart := false }
def DescriptorApartSaid : Prop := descriptorApartRow.holds Try.pinned (OpenSpec.ofChange descriptorApartSpec)

/-- ITS FALSE NEIGHBOUR: 'it returns false'. Refute it at one input. -/
def descriptorApartWrong : ChangeSpec := { name := "descriptorApart", fn := fun _ => fun
  | [d] => { results := [.lit (.bool false)], args := [d] }
  | _ => none }
def DescriptorApartWrongFalsely : Prop := descriptorApartRow.holds Try.pinned (OpenSpec.ofChange descriptorApartWrong)

/- THE SECOND FORM. 'bulk': how many values and letters a reading holds, each counted each time it is reached (what is shared counts as often as it is met; a slice's spare places count too). A statement '..UptoSaid' is the law's where the arguments, and the package variables that the reading takes, are together of bulk at most 1048576: NARROWER than '..Said'. Prove '..Said' where nothing that the law and all that it calls make is longer than what came in: it says more and counts as full. Else prove '..UptoSaid'. A law counts once. -/
mutual
def uptoBulk {H : Type} : DataW H → Nat
  | .lit (.string bytes) => bytes.length + 1
  | .lit _ => 1
  | .nil => 1
  | .ptr d => uptoBulk d + 1
  | .slice elems spare => uptoBulkAll elems + uptoBulkAll spare + 1
  | .agg parts => uptoBulkAll parts + 1
  | .iface _ d => uptoBulk d + 1
  | .map entries => uptoBulkEntries entries + 1
  | .held _ => 1
def uptoBulkAll {H : Type} : List (DataW H) → Nat
  | [] => 0
  | d :: r => uptoBulk d + uptoBulkAll r
def uptoBulkEntries {H : Type} : List (Lit × DataW H) → Nat
  | [] => 0
  | x :: r => uptoBulkEntry x + uptoBulkEntries r
def uptoBulkEntry {H : Type} : Lit × DataW H → Nat
  | (.string bytes, d) => bytes.length + uptoBulk d + 1
  | (_, d) => uptoBulk d + 1
 end
def uptoSmall : (H : Type) → List (DataW H) → Bool := fun _ ds => decide (uptoBulkAll ds ≤ 1048576)
def OpenSpec.upto (s : _root_.Go.ChangeSpec) : _root_.Go.OpenSpec := { _root_.Go.OpenSpec.ofChange s with cond := some uptoSmall }

/-- 'pagecachelaw18.DescriptorCalls', WHERE WHAT IT READS IS OF BULK AT MOST 1048576: true; the input reads as it did. -/
def descriptorCallsUptoRow : OpenClaim := { program := "ytokijggckiidjaa", sum := "ee9c377f7bf9e49a4e3bf3b02b1810e947efae655f6bbd0c44e29b0ab6cf9d2f", func := "pagecache/pagecachelaw18.DescriptorCalls", spec := "descriptorCalls", unfollowed := true, recurses := true, apart := false, narrowed := true }
def DescriptorCallsUptoSaid : Prop := descriptorCallsUptoRow.holds Try.pinned (OpenSpec.upto descriptorCallsSpec)

/-- 'pagecachelaw18.DescriptorShares', WHERE WHAT IT READS IS OF BULK AT MOST 1048576: true; the input reads as it did. -/
def descriptorSharesUptoRow : OpenClaim := { program := "ytokijggckiidjaa", sum := "ee9c377f7bf9e49a4e3bf3b02b1810e947efae655f6bbd0c44e29b0ab6cf9d2f", func := "pagecache/pagecachelaw18.DescriptorShares", spec := "descriptorShares", unfollowed := true, recurses := true, apart := false, narrowed := true }
def DescriptorSharesUptoSaid : Prop := descriptorSharesUptoRow.holds Try.pinned (OpenSpec.upto descriptorSharesSpec)

/-- 'pagecachelaw18.DescriptorUndone', WHERE WHAT IT READS IS OF BULK AT MOST 1048576: true; the input reads as it did. -/
def descriptorUndoneUptoRow : OpenClaim := { program := "ytokijggckiidjaa", sum := "ee9c377f7bf9e49a4e3bf3b02b1810e947efae655f6bbd0c44e29b0ab6cf9d2f", func := "pagecache/pagecachelaw18.DescriptorUndone", spec := "descriptorUndone", unfollowed := true, recurses := true, apart := false, narrowed := true }
def DescriptorUndoneUptoSaid : Prop := descriptorUndoneUptoRow.holds Try.pinned (OpenSpec.upto descriptorUndoneSpec)

/-- 'pagecachelaw18.DescriptorApart', WHERE WHAT IT READS IS OF BULK AT MOST 1048576: true; the input reads as it did. -/
def descriptorApartUptoRow : OpenClaim := { program := "ytokijggckiidjaa", sum := "ee9c377f7bf9e49a4e3bf3b02b1810e947efae655f6bbd0c44e29b0ab6cf9d2f", func := "pagecache/pagecachelaw18.DescriptorApart", spec := "descriptorApart", unfollowed := true, recurses := true, apart := false, narrowed := true }
def DescriptorApartUptoSaid : Prop := descriptorApartUptoRow.holds Try.pinned (OpenSpec.upto descriptorApartSpec)

end Rows
end Go.Proofs.Ytokijggckiidjaa
