/-
  No cell of these rows narrows 'for every input' (looked for: loops, veiled, ifaces, maps, wideKeys, modest, calm, conditions, laid).
  DERIVED. THE GIVEN ROWS OF THIS SEAT. 4 by the template 'for every input the law returns true; each argument reads behind the call as it read before'; 0 by the template 'total and deterministic' (their statements: YtafdlofmgefdoaaTotals.lean).
  GIVEN WITH THE SEED: the statements are not yours to turn. If you find one false, say at which input.
  Laid BY PROGRAM, IN A SANDBOX (cutbox-rows.mjs): the forced cells as the released guide's own fill.sh prints them over the translation fc37f6a9bedf5f21… (all of the seat's roots in one cut). By AI agents, Wed Nov 11 2026. No macro, syntax, notation, axiom, sorry.
-/
import Derived.Test.YtafdlofmgefdoaaChecked
import GoSem.Claim
import GoSem.ClaimJoined
import GoSem.ClaimMapViews
import Derived.JoinedTies
import Derived.KernelRfl
namespace Go.Proofs.Ytafdlofmgefdoaa
/- THE CELL 'sum', in the pinned program and in every row, IS THE sha256 OF THE DUMP (.gsa) THAT YtafdlofmgefdoaaProg.lean LOADS. Nothing in Lean hashes anything: it is a label: what it is worth is what the hold of that sum in a sandbox is worth. -/
noncomputable def Try.pinned : Pinned := { name := "ytafdlofmgefdoaa", sum := "fc37f6a9bedf5f21c387d5c55710c1bfa5cc5d28cdd986c7047da6e14734af2e", checked := Try.checked }
namespace Rows
def none {H : Type} : Left H := { results := [], args := [] }

/-- 'lodgerlaw14.DropOne': WHATEVER THE INPUT: true; the input reads as it did. -/
def dropOneSpec : ChangeSpec := { name := "dropOne", fn := fun _ => fun
  | [d1, d2, d3] => { results := [.lit (.bool true)], args := [d1, d2, d3] }
  | _ => none }
def dropOneRow : OpenClaim := { program := "ytafdlofmgefdoaa", sum := "fc37f6a9bedf5f21c387d5c55710c1bfa5cc5d28cdd986c7047da6e14734af2e", func := "lodger/lodgerlaw14.DropOne", spec := "dropOne", unfollowed := true, recurses := true, apart := false }
def DropOneSaid : Prop := dropOneRow.holds Try.pinned (OpenSpec.ofChange dropOneSpec)

/-- ITS FALSE NEIGHBOUR: 'it returns false'. Refute it at one input. -/
def dropOneWrong : ChangeSpec := { name := "dropOne", fn := fun _ => fun
  | [d1, d2, d3] => { results := [.lit (.bool false)], args := [d1, d2, d3] }
  | _ => none }
def DropOneWrongFalsely : Prop := dropOneRow.holds Try.pinned (OpenSpec.ofChange dropOneWrong)

/-- 'lodgerlaw14.DropBatch': WHATEVER THE INPUT: true; the input reads as it did. -/
def dropBatchSpec : ChangeSpec := { name := "dropBatch", fn := fun _ => fun
  | [d1, d2, d3] => { results := [.lit (.bool true)], args := [d1, d2, d3] }
  | _ => none }
def dropBatchRow : OpenClaim := { program := "ytafdlofmgefdoaa", sum := "fc37f6a9bedf5f21c387d5c55710c1bfa5cc5d28cdd986c7047da6e14734af2e", func := "lodger/lodgerlaw14.DropBatch", spec := "dropBatch", unfollowed := true, recurses := true, apart := false }
def DropBatchSaid : Prop := dropBatchRow.holds Try.pinned (OpenSpec.ofChange dropBatchSpec)

/-- ITS FALSE NEIGHBOUR: 'it returns false'. Refute it at one input. -/
def dropBatchWrong : ChangeSpec := { name := "dropBatch", fn := fun _ => fun
  | [d1, d2, d3] => { results := [.lit (.bool false)], args := [d1, d2, d3] }
  | _ => none }
def DropBatchWrongFalsely : Prop := dropBatchRow.holds Try.pinned (OpenSpec.ofChange dropBatchWrong)

/-- 'lodgerlaw14.DropKeeps': WHATEVER THE INPUT: true; the input reads as it did. -/
def dropKeepsSpec : ChangeSpec := { name := "dropKeeps", fn := fun _ => fun
  | [d1, d2, d3] => { results := [.lit (.bool true)], args := [d1, d2, d3] }
  | _ => none }
def dropKeepsRow : OpenClaim := { program := "ytafdlofmgefdoaa", sum := "fc37f6a9bedf5f21c387d5c55710c1bfa5cc5d28cdd986c7047da6e14734af2e", func := "lodger/lodgerlaw14.DropKeeps", spec := "dropKeeps", unfollowed := true, recurses := true, apart := false }
def DropKeepsSaid : Prop := dropKeepsRow.holds Try.pinned (OpenSpec.ofChange dropKeepsSpec)

/-- ITS FALSE NEIGHBOUR: 'it returns false'. Refute it at one input. -/
def dropKeepsWrong : ChangeSpec := { name := "dropKeeps", fn := fun _ => fun
  | [d1, d2, d3] => { results := [.lit (.bool false)], args := [d1, d2, d3] }
  | _ => none }
def DropKeepsWrongFalsely : Prop := dropKeepsRow.holds Try.pinned (OpenSpec.ofChange dropKeepsWrong)

/-- 'lodgerlaw14.DropFails': WHATEVER THE INPUT: true; the input reads as it did. -/
def dropFailsSpec : ChangeSpec := { name := "dropFails", fn := fun _ => fun
  | [d1, d2, d3, d4] => { results := [.lit (.bool true)], args := [d1, d2, d3, d4] }
  | _ => none }
def dropFailsRow : OpenClaim := { program := "ytafdlofmgefdoaa", sum := "fc37f6a9bedf5f21c387d5c55710c1bfa5cc5d28cdd986c7047da6e14734af2e", func := "lodger/lodgerlaw14.DropFails", spec := "dropFails", unfollowed := true, recurses := true, apart := false }
def DropFailsSaid : Prop := dropFailsRow.holds Try.pinned (OpenSpec.ofChange dropFailsSpec)

/-- ITS FALSE NEIGHBOUR: 'it returns false'. Refute it at one input. -/
def dropFailsWrong : ChangeSpec := { name := "dropFails", fn := fun _ => fun
  | [d1, d2, d3, d4] => { results := [.lit (.bool false)], args := [d1, d2, d3, d4] }
  | _ => none }
def DropFailsWrongFalsely : Prop := dropFailsRow.holds Try.pinned (OpenSpec.ofChange dropFailsWrong)

/- THE SECOND FORM. 'bulk': how many values and letters a reading holds, each counted each time it is reached (what is shared counts as often as it is met; a slice's spare places count too). A statement '..UptoSaid' is the law's where the arguments, and the package variables that the reading takes, are together of bulk at most 1048576: NARROWER than '..Said'. Prove '..Said' where nothing that the law and all that it calls make is longer than what came in: it says more and counts as full. Else prove '..UptoSaid'. A law counts once. -/
mutual
def uptoBulk {H : Type} : DataW H → Nat
  | .lit (.string bytes) => bytes.length + 1
  | .lit _ => 1
  | .nil => 1
  | .ptr d => uptoBulk d + 1
  | .slice elems spare => uptoBulkAll elems + uptoBulkAll spare + 1
  | .agg parts => uptoBulkAll parts + 1
  | .iface _ d => uptoBulk d + 1
  | .map entries => uptoBulkEntries entries + 1
  | .held _ => 1
def uptoBulkAll {H : Type} : List (DataW H) → Nat
  | [] => 0
  | d :: r => uptoBulk d + uptoBulkAll r
def uptoBulkEntries {H : Type} : List (Lit × DataW H) → Nat
  | [] => 0
  | x :: r => uptoBulkEntry x + uptoBulkEntries r
def uptoBulkEntry {H : Type} : Lit × DataW H → Nat
  | (.string bytes, d) => bytes.length + uptoBulk d + 1
  | (_, d) => uptoBulk d + 1
 end
def uptoSmall : (H : Type) → List (DataW H) → Bool := fun _ ds => decide (uptoBulkAll ds ≤ 1048576)
def OpenSpec.upto (s : _root_.Go.ChangeSpec) : _root_.Go.OpenSpec := { _root_.Go.OpenSpec.ofChange s with cond := some uptoSmall }

/-- 'lodgerlaw14.DropOne', WHERE WHAT IT READS IS OF BULK AT MOST 1048576: true; the input reads as it did. -/
def dropOneUptoRow : OpenClaim := { program := "ytafdlofmgefdoaa", sum := "fc37f6a9bedf5f21c387d5c55710c1bfa5cc5d28cdd986c7047da6e14734af2e", func := "lodger/lodgerlaw14.DropOne", spec := "dropOne", unfollowed := true, recurses := true, apart := false, narrowed := true }
def DropOneUptoSaid : Prop := dropOneUptoRow.holds Try.pinned (OpenSpec.upto dropOneSpec)

/-- 'lodgerlaw14.DropBatch', WHERE WHAT IT READS IS OF BULK AT MOST 1048576: true; the input reads as it did. -/
def dropBatchUptoRow : OpenClaim := { program := "ytafdlofmgefdoaa", sum := "fc37f6a9bedf5f21c387d5c55710c1bfa5cc5d28cdd986c7047da6e14734af2e", func := "lodger/lodgerlaw14.DropBatch", spec := "dropBatch", unfollowed := true, recurses := true, apart := false, narrowed := true }
def DropBatchUptoSaid : Prop := dropBatchUptoRow.holds Try.pinned (OpenSpec.upto dropBatchSpec)

/-- 'lodgerlaw14.DropKeeps', WHERE WHAT IT READS IS OF BULK AT MOST 1048576: true; the input reads as it did. -/
def dropKeepsUptoRow : OpenClaim := { program := "ytafdlofmgefdoaa", sum := "fc37f6a9bedf5f21c387d5c55710c1bfa5cc5d28cdd986c7047da6e14734af2e", func := "lodger/lodgerlaw14.DropKeeps", spec := "dropKeeps", unfollowed := true, recurses := true, apart := false, narrowed := true }
def DropKeepsUptoSaid : Prop := dropKeepsUptoRow.holds Try.pinned (OpenSpec.upto dropKeepsSpec)

/-- 'lodgerlaw14.DropFails', WHERE WHAT IT READS IS OF BULK AT MOST 1048576: true; the input reads as it did. -/
def dropFailsUptoRow : OpenClaim := { program := "ytafdlofmgefdoaa", sum := "fc37f6a9bedf5f21c387d5c55710c1bfa5cc5d28cdd986c7047da6e14734af2e", func := "lodger/lodgerlaw14.DropFails", spec := "dropFails", unfollowed := true, recurses := true, apart := false, narrowed := true }
def DropFailsUptoSaid : Prop := dropFailsUptoRow.holds Try.pinned (OpenSpec.upto dropFailsSpec)

end Rows
end Go.Proofs.Ytafdlofmgefdoaa
