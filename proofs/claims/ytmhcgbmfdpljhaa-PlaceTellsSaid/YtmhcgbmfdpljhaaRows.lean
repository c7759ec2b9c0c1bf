/-
  No cell of these rows narrows 'for every input' (looked for: loops, veiled, ifaces, maps, wideKeys, modest, calm, conditions, laid).
  DERIVED. THE GIVEN ROWS OF THIS SEAT. 4 by the template 'for every input the law returns true; each argument reads behind the call as it read before'; 0 by the template 'total and deterministic' (their statements: YtmhcgbmfdpljhaaTotals.lean).
  GIVEN WITH THE SEED: the statements are not yours to turn. If you find one false, say at which input.
  Laid BY PROGRAM, IN A SANDBOX (cutbox-rows.mjs): the forced cells as the released guide's own fill.sh prints them over the translation 0c02683de00a3f6b… (all of the seat's roots in one cut). By AI agents, Wed Nov 11 2026. No macro, syntax, notation, axiom, sorry.
-/
import Derived.Test.YtmhcgbmfdpljhaaChecked
import GoSem.Claim
import GoSem.ClaimJoined
import GoSem.ClaimMapViews
import Derived.JoinedTies
import Derived.KernelRfl
namespace Go.Proofs.Ytmhcgbmfdpljhaa
/- THE CELL 'sum', in the pinned program and in every row, IS THE sha256 OF THE DUMP (.gsa) THAT YtmhcgbmfdpljhaaProg.lean LOADS. Nothing in Lean hashes anything: it is a label: what it is worth is what the hold of that sum in a sandbox is worth. -/
noncomputable def Try.pinned : Pinned := { name := "ytmhcgbmfdpljhaa", sum := "0c02683de00a3f6b3458b0682c48322217f5a3587f795dd6daf6bd7d5b1046ac", checked := Try.checked }
namespace Rows
def none {H : Type} : Left H := { results := [], args := [] }

/-- 'lodgerlaw06.PlaceTells': WHATEVER THE INPUT: true; the input reads as it did. -/
def placeTellsSpec : ChangeSpec := { name := "placeTells", fn := fun _ => fun
  | [d1, d2] => { results := [.lit (.bool true)], args := [d1, d2] }
  | _ => none }
def placeTellsRow : OpenClaim := { program := "ytmhcgbmfdpljhaa", sum := "0c02683de00a3f6b3458b0682c48322217f5a3587f795dd6daf6bd7d5b1046ac", func := "lodger/lodgerlaw06.PlaceTells", spec := "placeTells", apart := false }
def PlaceTellsSaid : Prop := placeTellsRow.holds Try.pinned (OpenSpec.ofChange placeTellsSpec)

/-- ITS FALSE NEIGHBOUR: 'it returns false'. Refute it at one input. -/
def placeTellsWrong : ChangeSpec := { name := "placeTells", fn := fun _ => fun
  | [d1, d2] => { results := [.lit (.bool false)], args := [d1, d2] }
  | _ => none }
def PlaceTellsWrongFalsely : Prop := placeTellsRow.holds Try.pinned (OpenSpec.ofChange placeTellsWrong)

/-- 'lodgerlaw06.PlaceEach': WHATEVER THE INPUT: true; the input reads as it did. -/
def placeEachSpec : ChangeSpec := { name := "placeEach", fn := fun _ => fun
  | [d1, d2, d3] => { results := [.lit (.bool true)], args := [d1, d2, d3] }
  | _ => none }
def placeEachRow : OpenClaim := { program := "ytmhcgbmfdpljhaa", sum := "0c02683de00a3f6b3458b0682c48322217f5a3587f795dd6daf6bd7d5b1046ac", func := "lodger/lodgerlaw06.PlaceEach", spec := "placeEach", apart := false }
def PlaceEachSaid : Prop := placeEachRow.holds Try.pinned (OpenSpec.ofChange placeEachSpec)

/-- ITS FALSE NEIGHBOUR: 'it returns false'. Refute it at one input. -/
def placeEachWrong : ChangeSpec := { name := "placeEach", fn := fun _ => fun
  | [d1, d2, d3] => { results := [.lit (.bool false)], args := [d1, d2, d3] }
  | _ => none }
def PlaceEachWrongFalsely : Prop := placeEachRow.holds Try.pinned (OpenSpec.ofChange placeEachWrong)

/-- 'lodgerlaw06.PlaceSums': WHATEVER THE INPUT: true; the input reads as it did. -/
def placeSumsSpec : ChangeSpec := { name := "placeSums", fn := fun _ => fun
  | [d1, d2, d3] => { results := [.lit (.bool true)], args := [d1, d2, d3] }
  | _ => none }
def placeSumsRow : OpenClaim := { program := "ytmhcgbmfdpljhaa", sum := "0c02683de00a3f6b3458b0682c48322217f5a3587f795dd6daf6bd7d5b1046ac", func := "lodger/lodgerlaw06.PlaceSums", spec := "placeSums", apart := false }
def PlaceSumsSaid : Prop := placeSumsRow.holds Try.pinned (OpenSpec.ofChange placeSumsSpec)

/-- ITS FALSE NEIGHBOUR: 'it returns false'. Refute it at one input. -/
def placeSumsWrong : ChangeSpec := { name := "placeSums", fn := fun _ => fun
  | [d1, d2, d3] => { results := [.lit (.bool false)], args := [d1, d2, d3] }
  | _ => none }
def PlaceSumsWrongFalsely : Prop := placeSumsRow.holds Try.pinned (OpenSpec.ofChange placeSumsWrong)

/-- 'lodgerlaw06.PlaceGrows': WHATEVER THE INPUT: true; the input reads as it did. -/
def placeGrowsSpec : ChangeSpec := { name := "placeGrows", fn := fun _ => fun
  | [d] => { results := [.lit (.bool true)], args := [d] }
  | _ => none }
def placeGrowsRow : OpenClaim := { program := "ytmhcgbmfdpljhaa", sum := "0c02683de00a3f6b3458b0682c48322217f5a3587f795dd6daf6bd7d5b1046ac", func := "lodger/lodgerlaw06.PlaceGrows", spec := "placeGrows", apart := false }
def PlaceGrowsSaid : Prop := placeGrowsRow.holds Try.pinned (OpenSpec.ofChange placeGrowsSpec)

/-- ITS FALSE NEIGHBOUR: 'it returns false'. Refute it at one input. -/
def placeGrowsWrong : ChangeSpec := { name := "placeGrows", fn := fun _ => fun
  | [d] => { results := [.lit (.bool false)], args := [d] }
  | _ => none }
def PlaceGrowsWrongFalsely : Prop := placeGrowsRow.holds Try.pinned (OpenSpec.ofChange placeGrowsWrong)

/- THE SECOND FORM. 'bulk': how many values and letters a reading holds, each counted each time it is reached (what is shared counts as often as it is met; a slice's spare places count too). A statement '..UptoSaid' is the law's where the arguments, and the package variables that the reading takes, are together of bulk at most 1048576: NARROWER than '..Said'. Prove '..Said' where nothing that the law and all that it calls make is longer than what came in: it says more and counts as full. Else prove '..UptoSaid'. A law counts once. -/
mutual
def uptoBulk {H : Type} : DataW H → Nat
  | .lit (.string bytes) => bytes.length + 1
  | .lit _ => 1
  | .nil => 1
  | .ptr d => uptoBulk d + 1
  | .slice elems spare => uptoBulkAll elems + uptoBulkAll spare + 1
  | .agg parts => uptoBulkAll parts + 1
  | .iface _ d => uptoBulk d + 1
  | .map entries => uptoBulkEntries entries + 1
  | .held _ => 1
def uptoBulkAll {H : Type} : List (DataW H) → Nat
  | [] => 0
  | d :: r => uptoBulk d + uptoBulkAll r
def uptoBulkEntries {H : Type} : List (Lit × DataW H) → Nat
  | [] => 0
  | x :: r => uptoBulkEntry x + uptoBulkEntries r
def uptoBulkEntry {H : Type} : Lit × DataW H → Nat
  | (.string bytes, d) => bytes.length + uptoBulk d + 1
  | (_, d) => uptoBulk d + 1
 end
def uptoSmall : (H : Type) → List (DataW H) → Bool := fun _ ds => decide (uptoBulkAll ds ≤ 1048576)
def OpenSpec.upto (s : _root_.Go.ChangeSpec) : _root_.Go.OpenSpec := { _root_.Go.OpenSpec.ofChange s with cond := some uptoSmall }

/-- 'lodgerlaw06.PlaceTells', WHERE WHAT IT READS IS OF BULK AT MOST 1048576: true; the input reads as it did. -/
def placeTellsUptoRow : OpenClaim := { program := "ytmhcgbmfdpljhaa", sum := "0c02683de00a3f6b3458b0682c48322217f5a3587f795dd6daf6bd7d5b1046ac", func := "lodger/lodgerlaw06.PlaceTells", spec := "placeTells", apart := false, narrowed := true }
def PlaceTellsUptoSaid : Prop := placeTellsUptoRow.holds Try.pinned (OpenSpec.upto placeTellsSpec)

/-- 'lodgerlaw06.PlaceEach', WHERE WHAT IT READS IS OF BULK AT MOST 1048576: true; the input reads as it did. -/
def placeEachUptoRow : OpenClaim := { program := "ytmhcgbmfdpljhaa", sum := "0c02683de00a3f6b3458b0682c48322217f5a3587f795dd6daf6bd7d5b1046ac", func := "lodger/lodgerlaw06.PlaceEach", spec := "placeEach", apart := false, narrowed := true }
def PlaceEachUptoSaid : Prop := placeEachUptoRow.holds Try.pinned (OpenSpec.upto placeEachSpec)

/-- 'lodgerlaw06.PlaceSums', WHERE WHAT IT READS IS OF BULK AT MOST 1048576: true; the input reads as it did. -/
def placeSumsUptoRow : OpenClaim := { program := "ytmhcgbmfdpljhaa", sum := "0c02683de00a3f6b3458b0682c48322217f5a3587f795dd6daf6bd7d5b1046ac", func := "lodger/lodgerlaw06.PlaceSums", spec := "placeSums", apart := false, narrowed := true }
def PlaceSumsUptoSaid : Prop := placeSumsUptoRow.holds Try.pinned (OpenSpec.upto placeSumsSpec)

/-- 'lodgerlaw06.PlaceGrows', WHERE WHAT IT READS IS OF BULK AT MOST 1048576: true; the input reads as it did. -/
def placeGrowsUptoRow : OpenClaim := { program := "ytmhcgbmfdpljhaa", sum := "0c02683de00a3f6b3458b0682c48322217f5a3587f795dd6daf6bd7d5b1046ac", func := "lodger/lodgerlaw06.PlaceGrows", spec := "placeGrows", apart := false, narrowed := true }
def PlaceGrowsUptoSaid : Prop := placeGrowsUptoRow.holds Try.pinned (OpenSpec.upto placeGrowsSpec)

end Rows
end Go.Proofs.Ytmhcgbmfdpljhaa
