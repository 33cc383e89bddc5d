/-
  No cell of these rows narrows 'for every input' (looked for: loops, veiled, ifaces, maps, wideKeys, modest, calm, conditions, laid).
  DERIVED. THE GIVEN ROWS OF THIS SEAT. 6 by the template 'for every input the law returns true; each argument reads behind the call as it read before'; 0 by the template 'total and deterministic' (their statements: YthdcmknenjallaaTotals.lean).
  GIVEN WITH THE SEED: the statements are not yours to turn. If you find one false, say at which input.
  Laid BY PROGRAM, IN A SANDBOX (cutbox-rows.mjs): the forced cells as the released guide's own fill.sh prints them over the translation 23b161f49e06bcc8… (all of the seat's roots in one cut). By AI agents, Wed Nov 11 2026. No macro, syntax, notation, axiom, sorry.
-/
import Derived.Test.YthdcmknenjallaaChecked
import GoSem.Claim
import GoSem.ClaimJoined
import GoSem.ClaimMapViews
import Derived.JoinedTies
import Derived.KernelRfl
namespace Go.Proofs.Ythdcmknenjallaa
/- THE CELL 'sum', in the pinned program and in every row, IS THE sha256 OF THE DUMP (.gsa) THAT YthdcmknenjallaaProg.lean LOADS. Nothing in Lean hashes anything: it is a label: what it is worth is what the hold of that sum in a sandbox is worth. -/
noncomputable def Try.pinned : Pinned := { name := "ythdcmknenjallaa", sum := "23b161f49e06bcc8836e9d7dd5a740bdd67b744d800f6aa9056d50880cbc2407", checked := Try.checked }
namespace Rows
def none {H : Type} : Left H := { results := [], args := [] }

/-- 'pagecachelaw06.StreamFeeds': WHATEVER THE INPUT: true; the input reads as it did. -/
def streamFeedsSpec : ChangeSpec := { name := "streamFeeds", fn := fun _ => fun
  | [d] => { results := [.lit (.bool true)], args := [d] }
  | _ => none }
def streamFeedsRow : OpenClaim := { program := "ythdcmknenjallaa", sum := "23b161f49e06bcc8836e9d7dd5a740bdd67b744d800f6aa9056d50880cbc2407", func := "pagecache/pagecachelaw06.StreamFeeds", spec := "streamFeeds", unfollowed := true, recurses := true, apart := false }
def StreamFeedsSaid : Prop := streamFeedsRow.holds Try.pinned (OpenSpec.ofChange streamFeedsSpec)

/-- ITS FALSE NEIGHBOUR: 'it returns false'. Refute it at one input. -/
def streamFeedsWrong : ChangeSpec := { name := "streamFeeds", fn := fun _ => fun
  | [d] => { results := [.lit (.bool false)], args := [d] }
  | _ => none }
def StreamFeedsWrongFalsely : Prop := streamFeedsRow.holds Try.pinned (OpenSpec.ofChange streamFeedsWrong)

/-- 'pagecachelaw06.StreamPredicts': WHATEVER THE INPUT: true; the input reads as it did. -/
def streamPredictsSpec : ChangeSpec := { name := "streamPredicts", fn := fun _ => fun
  | [d1, d2] => { results := [.lit (.bool true)], args := [d1, d2] }
  | _ => none }
def streamPredictsRow : OpenClaim := { program := "ythdcmknenjallaa", sum := "23b161f49e06bcc8836e9d7dd5a740bdd67b744d800f6aa9056d50880cbc2407", func := "pagecache/pagecachelaw06.StreamPredicts", spec := "streamPredicts", unfollowed := true, recurses := true, apart := false }
def StreamPredictsSaid : Prop := streamPredictsRow.holds Try.pinned (OpenSpec.ofChange streamPredictsSpec)

/-- ITS FALSE NEIGHBOUR: 'it returns false'. Refute it at one input. -/
def streamPredictsWrong : ChangeSpec := { name := "streamPredicts", fn := fun _ => fun
  | [d1, d2] => { results := [.lit (.bool false)], args := [d1, d2] }
  | _ => none }
def StreamPredictsWrongFalsely : Prop := streamPredictsRow.holds Try.pinned (OpenSpec.ofChange streamPredictsWrong)

/-- 'pagecachelaw06.StreamReaders': WHATEVER THE INPUT: true; the input reads as it did. -/
def streamReadersSpec : ChangeSpec := { name := "streamReaders", fn := fun _ => fun
  | [d] => { results := [.lit (.bool true)], args := [d] }
  | _ => none }
def streamReadersRow : OpenClaim := { program := "ythdcmknenjallaa", sum := "23b161f49e06bcc8836e9d7dd5a740bdd67b744d800f6aa9056d50880cbc2407", func := "pagecache/pagecachelaw06.StreamReaders", spec := "streamReaders", unfollowed := true, recurses := true, apart := false }
def StreamReadersSaid : Prop := streamReadersRow.holds Try.pinned (OpenSpec.ofChange streamReadersSpec)

/-- ITS FALSE NEIGHBOUR: 'it returns false'. Refute it at one input. -/
def streamReadersWrong : ChangeSpec := { name := "streamReaders", fn := fun _ => fun
  | [d] => { results := [.lit (.bool false)], args := [d] }
  | _ => none }
def StreamReadersWrongFalsely : Prop := streamReadersRow.holds Try.pinned (OpenSpec.ofChange streamReadersWrong)

/-- 'pagecachelaw06.StreamKeeps': WHATEVER THE INPUT: true; the input reads as it did. -/
def streamKeepsSpec : ChangeSpec := { name := "streamKeeps", fn := fun _ => fun
  | [d] => { results := [.lit (.bool true)], args := [d] }
  | _ => none }
def streamKeepsRow : OpenClaim := { program := "ythdcmknenjallaa", sum := "23b161f49e06bcc8836e9d7dd5a740bdd67b744d800f6aa9056d50880cbc2407", func := "pagecache/pagecachelaw06.StreamKeeps", spec := "streamKeeps", unfollowed := true, recurses := true, apart := false }
def StreamKeepsSaid : Prop := streamKeepsRow.holds Try.pinned (OpenSpec.ofChange streamKeepsSpec)

/-- ITS FALSE NEIGHBOUR: 'it returns false'. Refute it at one input. -/
def streamKeepsWrong : ChangeSpec := { name := "streamKeeps", fn := fun _ => fun
  | [d] => { results := [.lit (.bool false)], args := [d] }
  | _ => none }
def StreamKeepsWrongFalsely : Prop := streamKeepsRow.holds Try.pinned (OpenSpec.ofChange streamKeepsWrong)

/-- 'pagecachelaw06.StreamRandom': WHATEVER THE INPUT: true; the input reads as it did. -/
def streamRandomSpec : ChangeSpec := { name := "streamRandom", fn := fun _ => fun
  | [d] => { results := [.lit (.bool true)], args := [d] }
  | _ => none }
def streamRandomRow : OpenClaim := { program := "ythdcmknenjallaa", sum := "23b161f49e06bcc8836e9d7dd5a740bdd67b744d800f6aa9056d50880cbc2407", func := "pagecache/pagecachelaw06.StreamRandom", spec := "streamRandom", unfollowed := true, recurses := true, apart := false }
def StreamRandomSaid : Prop := streamRandomRow.holds Try.pinned (OpenSpec.ofChange streamRandomSpec)

/-- ITS FALSE NEIGHBOUR: 'it returns false'. Refute it at one input. -/
def streamRandomWrong : ChangeSpec := { name := "streamRandom", fn := fun _ => fun
  | [d] => { results := [.lit (.bool false)], args := [d] }
  | _ => none }
def StreamRandomWrongFalsely : Prop := streamRandomRow.holds Try.pinned (OpenSpec.ofChange streamRandomWrong)

/-- 'pagecachelaw06.StreamAgain': WHATEVER THE INPUT: true; the input reads as it did. -/
def streamAgainSpec : ChangeSpec := { name := "streamAgain", fn := fun _ => fun
  | [d] => { results := [.lit (.bool true)], args := [d] }
  | _ => none }
def streamAgainRow : OpenClaim := { program := "ythdcmknenjallaa", sum := "23b161f49e06bcc8836e9d7dd5a740bdd67b744d800f6aa9056d50880cbc2407", func := "pagecache/pagecachelaw06.StreamAgain", spec := "streamAgain", unfollowed := true, recurses := true, apart := false }
def StreamAgainSaid : Prop := streamAgainRow.holds Try.pinned (OpenSpec.ofChange streamAgainSpec)

/-- ITS FALSE NEIGHBOUR: 'it returns false'. Refute it at one input. -/
def streamAgainWrong : ChangeSpec := { name := "streamAgain", fn := fun _ => fun
  | [d] => { results := [.lit (.bool false)], args := [d] }
  | _ => none }
def StreamAgainWrongFalsely : Prop := streamAgainRow.holds Try.pinned (OpenSpec.ofChange streamAgainWrong)

/- THE SECOND FORM. 'bulk': how many values and letters a reading holds, each counted each time it is reached (what is shared counts as often as it is met; a slice's spare places count too). A statement '..UptoSaid' is the law's where the arguments, and the package variables that the reading takes, are together of bulk at most 1048576: NARROWER than '..Said'. Prove '..Said' where nothing that the law and all that it calls make is longer than what came in: it says more and counts as full. Else prove '..UptoSaid'. A law counts once. -/
mutual
def uptoBulk {H : Type} : DataW H → Nat
  | .lit (.string bytes) => bytes.length + 1
  | .lit _ => 1
  | .nil => 1
  | .ptr d => uptoBulk d + 1
  | .slice elems spare => uptoBulkAll elems + uptoBulkAll spare + 1
  | .agg parts => uptoBulkAll parts + 1
  | .iface _ d => uptoBulk d + 1
  | .map entries => uptoBulkEntries entries + 1
  | .held _ => 1
def uptoBulkAll {H : Type} : List (DataW H) → Nat
  | [] => 0
  | d :: r => uptoBulk d + uptoBulkAll r
def uptoBulkEntries {H : Type} : List (Lit × DataW H) → Nat
  | [] => 0
  | x :: r => uptoBulkEntry x + uptoBulkEntries r
def uptoBulkEntry {H : Type} : Lit × DataW H → Nat
  | (.string bytes, d) => bytes.length + uptoBulk d + 1
  | (_, d) => uptoBulk d + 1
 end
def uptoSmall : (H : Type) → List (DataW H) → Bool := fun _ ds => decide (uptoBulkAll ds ≤ 1048576)
def OpenSpec.upto (s : _root_.Go.ChangeSpec) : _root_.Go.OpenSpec := { _root_.Go.OpenSpec.ofChange s with cond := some uptoSmall }

/-- 'pagecachelaw06.StreamFeeds', WHERE WHAT IT READS IS OF BULK AT MOST 1048576: true; the input reads as it did. -/
def streamFeedsUptoRow : OpenClaim := { program := "ythdcmknenjallaa", sum := "23b161f49e06bcc8836e9d7dd5a740bdd67b744d800f6aa9056d50880cbc2407", func := "pagecache/pagecachelaw06.StreamFeeds", spec := "streamFeeds", unfollowed := true, recurses := true, apart := false, narrowed := true }
def StreamFeedsUptoSaid : Prop := streamFeedsUptoRow.holds Try.pinned (OpenSpec.upto streamFeedsSpec)

/-- 'pagecachelaw06.StreamPredicts', WHERE WHAT IT READS IS OF BULK AT MOST 1048576: true; the input reads as it did. -/
def streamPredictsUptoRow : OpenClaim := { program := "ythdcmknenjallaa", sum := "23b161f49e06bcc8836e9d7dd5a740bdd67b744d800f6aa9056d50880cbc2407", func := "pagecache/pagecachelaw06.StreamPredicts", spec := "streamPredicts", unfollowed := true, recurses := true, apart := false, narrowed := true }
def StreamPredictsUptoSaid : Prop := streamPredictsUptoRow.holds Try.pinned (OpenSpec.upto streamPredictsSpec)

/-- 'pagecachelaw06.StreamReaders', WHERE WHAT IT READS IS OF BULK AT MOST 1048576: true; the input reads as it did. -/
def streamReadersUptoRow : OpenClaim := { program := "ythdcmknenjallaa", sum := "23b161f49e06bcc8836e9d7dd5a740bdd67b744d800f6aa9056d50880cbc2407", func := "pagecache/pagecachelaw06.StreamReaders", spec := "streamReaders", unfollowed := true, recurses := true, apart := false, narrowed := true }
def StreamReadersUptoSaid : Prop := streamReadersUptoRow.holds Try.pinned (OpenSpec.upto streamReadersSpec)

/-- 'pagecachelaw06.StreamKeeps', WHERE WHAT IT READS IS OF BULK AT MOST 1048576: true; the input reads as it did. -/
def streamKeepsUptoRow : OpenClaim := { program := "ythdcmknenjallaa", sum := "23b161f49e06bcc8836e9d7dd5a740bdd67b744d800f6aa9056d50880cbc2407", func := "pagecache/pagecachelaw06.StreamKeeps", spec := "streamKeeps", unfollowed := true, recurses := true, apart := false, narrowed := true }
def StreamKeepsUptoSaid : Prop := streamKeepsUptoRow.holds Try.pinned (OpenSpec.upto streamKeepsSpec)

/-- 'pagecachelaw06.StreamRandom', WHERE WHAT IT READS IS OF BULK AT MOST 1048576: true; the input reads as it did. -/
def streamRandomUptoRow : OpenClaim := { program := "ythdcmknenjallaa", sum := "23b161f49e06bcc8836e9d7dd5a740bdd67b744d800f6aa9056d50880cbc2407", func := "pagecache/pagecachelaw06.StreamRandom", spec := "streamRandom", unfollowed := true, recurses := true, apart := false, narrowed := true }
def StreamRandomUptoSaid : Prop := streamRandomUptoRow.holds Try.pinned (OpenSpec.upto streamRandomSpec)

/-- 'pagecachelaw06.StreamAgain', WHERE WHAT IT READS IS OF BULK AT MOST 1048576: true; the input reads as it did. -/
def streamAgainUptoRow : OpenClaim := { program := "ythdcmknenjallaa", sum := "23b161f49e06bcc8836e9d7dd5a740bdd67b744d800f6aa9056d50880cbc2407", func := "pagecache/pagecachelaw06.StreamAgain", spec := "streamAgain", unfollowed := true, recurses := true, apart := false, narrowed := true }
def StreamAgainUptoSaid : Prop := streamAgainUptoRow.holds Try.pinned (OpenSpec.upto streamAgainSpec)

end Rows
end Go.Proofs.Ythdcmknenjallaa
