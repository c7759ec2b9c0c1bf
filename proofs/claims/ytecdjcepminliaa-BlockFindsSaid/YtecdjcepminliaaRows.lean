/-
  No cell of these rows narrows 'for every input' (looked for: loops, veiled, ifaces, maps, wideKeys, modest, calm, conditions, laid).
  DERIVED. THE GIVEN ROWS OF THIS SEAT. 5 by the template 'for every input the law returns true; each argument reads behind the call as it read before'; 0 by the template 'total and deterministic' (their statements: YtecdjcepminliaaTotals.lean).
  GIVEN WITH THE SEED: the statements are not yours to turn. If you find one false, say at which input.
  Laid BY PROGRAM, IN A SANDBOX (cutbox-rows.mjs): the forced cells as the released guide's own fill.sh prints them over the translation 21fa1cd6f33215d4… (all of the seat's roots in one cut). By AI agents, Wed Nov 11 2026. No macro, syntax, notation, axiom, sorry.
-/
import Derived.Test.YtecdjcepminliaaChecked
import GoSem.Claim
import GoSem.ClaimJoined
import GoSem.ClaimMapViews
import Derived.JoinedTies
import Derived.KernelRfl
namespace Go.Proofs.Ytecdjcepminliaa
/- THE CELL 'sum', in the pinned program and in every row, IS THE sha256 OF THE DUMP (.gsa) THAT YtecdjcepminliaaProg.lean LOADS. Nothing in Lean hashes anything: it is a label: what it is worth is what the hold of that sum in a sandbox is worth. -/
noncomputable def Try.pinned : Pinned := { name := "ytecdjcepminliaa", sum := "21fa1cd6f33215d44e7468e7cb8fa391e735810868b9f3852665a9538eaa538b", checked := Try.checked }
namespace Rows
def none {H : Type} : Left H := { results := [], args := [] }

/-- 'lodgerlaw05.BlockMay': WHATEVER THE INPUT: true; the input reads as it did. -/
def blockMaySpec : ChangeSpec := { name := "blockMay", fn := fun _ => fun
  | [d] => { results := [.lit (.bool true)], args := [d] }
  | _ => none }
def blockMayRow : OpenClaim := { program := "ytecdjcepminliaa", sum := "21fa1cd6f33215d44e7468e7cb8fa391e735810868b9f3852665a9538eaa538b", func := "lodger/lodgerlaw05.BlockMay", spec := "blockMay", apart := false }
def BlockMaySaid : Prop := blockMayRow.holds Try.pinned (OpenSpec.ofChange blockMaySpec)

/-- ITS FALSE NEIGHBOUR: 'it returns false'. Refute it at one input. -/
def blockMayWrong : ChangeSpec := { name := "blockMay", fn := fun _ => fun
  | [d] => { results := [.lit (.bool false)], args := [d] }
  | _ => none }
def BlockMayWrongFalsely : Prop := blockMayRow.holds Try.pinned (OpenSpec.ofChange blockMayWrong)

/-- 'lodgerlaw05.BlockFinds': WHATEVER THE INPUT: true; the input reads as it did. -/
def blockFindsSpec : ChangeSpec := { name := "blockFinds", fn := fun _ => fun
  | [d1, d2, d3] => { results := [.lit (.bool true)], args := [d1, d2, d3] }
  | _ => none }
def blockFindsRow : OpenClaim := { program := "ytecdjcepminliaa", sum := "21fa1cd6f33215d44e7468e7cb8fa391e735810868b9f3852665a9538eaa538b", func := "lodger/lodgerlaw05.BlockFinds", spec := "blockFinds", apart := false }
def BlockFindsSaid : Prop := blockFindsRow.holds Try.pinned (OpenSpec.ofChange blockFindsSpec)

/-- ITS FALSE NEIGHBOUR: 'it returns false'. Refute it at one input. -/
def blockFindsWrong : ChangeSpec := { name := "blockFinds", fn := fun _ => fun
  | [d1, d2, d3] => { results := [.lit (.bool false)], args := [d1, d2, d3] }
  | _ => none }
def BlockFindsWrongFalsely : Prop := blockFindsRow.holds Try.pinned (OpenSpec.ofChange blockFindsWrong)

/-- 'lodgerlaw05.BlockOffsets': WHATEVER THE INPUT: true; the input reads as it did. -/
def blockOffsetsSpec : ChangeSpec := { name := "blockOffsets", fn := fun _ => fun
  | [d1, d2, d3, d4] => { results := [.lit (.bool true)], args := [d1, d2, d3, d4] }
  | _ => none }
def blockOffsetsRow : OpenClaim := { program := "ytecdjcepminliaa", sum := "21fa1cd6f33215d44e7468e7cb8fa391e735810868b9f3852665a9538eaa538b", func := "lodger/lodgerlaw05.BlockOffsets", spec := "blockOffsets", apart := false }
def BlockOffsetsSaid : Prop := blockOffsetsRow.holds Try.pinned (OpenSpec.ofChange blockOffsetsSpec)

/-- ITS FALSE NEIGHBOUR: 'it returns false'. Refute it at one input. -/
def blockOffsetsWrong : ChangeSpec := { name := "blockOffsets", fn := fun _ => fun
  | [d1, d2, d3, d4] => { results := [.lit (.bool false)], args := [d1, d2, d3, d4] }
  | _ => none }
def BlockOffsetsWrongFalsely : Prop := blockOffsetsRow.holds Try.pinned (OpenSpec.ofChange blockOffsetsWrong)

/-- 'lodgerlaw05.BlockHeld': WHATEVER THE INPUT: true; the input reads as it did. -/
def blockHeldSpec : ChangeSpec := { name := "blockHeld", fn := fun _ => fun
  | [d1, d2] => { results := [.lit (.bool true)], args := [d1, d2] }
  | _ => none }
def blockHeldRow : OpenClaim := { program := "ytecdjcepminliaa", sum := "21fa1cd6f33215d44e7468e7cb8fa391e735810868b9f3852665a9538eaa538b", func := "lodger/lodgerlaw05.BlockHeld", spec := "blockHeld", apart := false }
def BlockHeldSaid : Prop := blockHeldRow.holds Try.pinned (OpenSpec.ofChange blockHeldSpec)

/-- ITS FALSE NEIGHBOUR: 'it returns false'. Refute it at one input. -/
def blockHeldWrong : ChangeSpec := { name := "blockHeld", fn := fun _ => fun
  | [d1, d2] => { results := [.lit (.bool false)], args := [d1, d2] }
  | _ => none }
def BlockHeldWrongFalsely : Prop := blockHeldRow.holds Try.pinned (OpenSpec.ofChange blockHeldWrong)

/-- 'lodgerlaw05.BlockParts': WHATEVER THE INPUT: true; the input reads as it did. -/
def blockPartsSpec : ChangeSpec := { name := "blockParts", fn := fun _ => fun
  | [d1, d2] => { results := [.lit (.bool true)], args := [d1, d2] }
  | _ => none }
def blockPartsRow : OpenClaim := { program := "ytecdjcepminliaa", sum := "21fa1cd6f33215d44e7468e7cb8fa391e735810868b9f3852665a9538eaa538b", func := "lodger/lodgerlaw05.BlockParts", spec := "blockParts", apart := false }
def BlockPartsSaid : Prop := blockPartsRow.holds Try.pinned (OpenSpec.ofChange blockPartsSpec)

/-- ITS FALSE NEIGHBOUR: 'it returns false'. Refute it at one input. -/
def blockPartsWrong : ChangeSpec := { name := "blockParts", fn := fun _ => fun
  | [d1, d2] => { results := [.lit (.bool false)], args := [d1, d2] }
  | _ => none }
def BlockPartsWrongFalsely : Prop := blockPartsRow.holds Try.pinned (OpenSpec.ofChange blockPartsWrong)

/- THE SECOND FORM. 'bulk': how many values and letters a reading holds, each counted each time it is reached (what is shared counts as often as it is met; a slice's spare places count too). A statement '..UptoSaid' is the law's where the arguments, and the package variables that the reading takes, are together of bulk at most 1048576: NARROWER than '..Said'. Prove '..Said' where nothing that the law and all that it calls make is longer than what came in: it says more and counts as full. Else prove '..UptoSaid'. A law counts once. -/
mutual
def uptoBulk {H : Type} : DataW H → Nat
  | .lit (.string bytes) => bytes.length + 1
  | .lit _ => 1
  | .nil => 1
  | .ptr d => uptoBulk d + 1
  | .slice elems spare => uptoBulkAll elems + uptoBulkAll spare + 1
  | .agg parts => uptoBulkAll parts + 1
  | .iface _ d => uptoBulk d + 1
  | .map entries => uptoBulkEntries entries + 1
  | .held _ => 1
def uptoBulkAll {H : Type} : List (DataW H) → Nat
  | [] => 0
  | d :: r => uptoBulk d + uptoBulkAll r
def uptoBulkEntries {H : Type} : List (Lit × DataW H) → Nat
  | [] => 0
  | x :: r => uptoBulkEntry x + uptoBulkEntries r
def uptoBulkEntry {H : Type} : Lit × DataW H → Nat
  | (.string bytes, d) => bytes.length + uptoBulk d + 1
  | (_, d) => uptoBulk d + 1
 end
def uptoSmall : (H : Type) → List (DataW H) → Bool := fun _ ds => decide (uptoBulkAll ds ≤ 1048576)
def OpenSpec.upto (s : _root_.Go.ChangeSpec) : _root_.Go.OpenSpec := { _root_.Go.OpenSpec.ofChange s with cond := some uptoSmall }

/-- 'lodgerlaw05.BlockMay', WHERE WHAT IT READS IS OF BULK AT MOST 1048576: true; the input reads as it did. -/
def blockMayUptoRow : OpenClaim := { program := "ytecdjcepminliaa", sum := "21fa1cd6f33215d44e7468e7cb8fa391e735810868b9f3852665a9538eaa538b", func := "lodger/lodgerlaw05.BlockMay", spec := "blockMay", apart := false, narrowed := true }
def BlockMayUptoSaid : Prop := blockMayUptoRow.holds Try.pinned (OpenSpec.upto blockMaySpec)

/-- 'lodgerlaw05.BlockFinds', WHERE WHAT IT READS IS OF BULK AT MOST 1048576: true; the input reads as it did. -/
def blockFindsUptoRow : OpenClaim := { program := "ytecdjcepminliaa", sum := "21fa1cd6f33215d44e7468e7cb8fa391e735810868b9f3852665a9538eaa538b", func := "lodger/lodgerlaw05.BlockFinds", spec := "blockFinds", apart := false, narrowed := true }
def BlockFindsUptoSaid : Prop := blockFindsUptoRow.holds Try.pinned (OpenSpec.upto blockFindsSpec)

/-- 'lodgerlaw05.BlockOffsets', WHERE WHAT IT READS IS OF BULK AT MOST 1048576: true; the input reads as it did. -/
def blockOffsetsUptoRow : OpenClaim := { program := "ytecdjcepminliaa", sum := "21fa1cd6f33215d44e7468e7cb8fa391e735810868b9f3852665a9538eaa538b", func := "lodger/lodgerlaw05.BlockOffsets", spec := "blockOffsets", apart := false, narrowed := true }
def BlockOffsetsUptoSaid : Prop := blockOffsetsUptoRow.holds Try.pinned (OpenSpec.upto blockOffsetsSpec)

/-- 'lodgerlaw05.BlockHeld', WHERE WHAT IT READS IS OF BULK AT MOST 1048576: true; the input reads as it did. -/
def blockHeldUptoRow : OpenClaim := { program := "ytecdjcepminliaa", sum := "21fa1cd6f33215d44e7468e7cb8fa391e735810868b9f3852665a9538eaa538b", func := "lodger/lodgerlaw05.BlockHeld", spec := "blockHeld", apart := false, narrowed := true }
def BlockHeldUptoSaid : Prop := blockHeldUptoRow.holds Try.pinned (OpenSpec.upto blockHeldSpec)

/-- 'lodgerlaw05.BlockParts', WHERE WHAT IT READS IS OF BULK AT MOST 1048576: true; the input reads as it did. -/
def blockPartsUptoRow : OpenClaim := { program := "ytecdjcepminliaa", sum := "21fa1cd6f33215d44e7468e7cb8fa391e735810868b9f3852665a9538eaa538b", func := "lodger/lodgerlaw05.BlockParts", spec := "blockParts", apart := false, narrowed := true }
def BlockPartsUptoSaid : Prop := blockPartsUptoRow.holds Try.pinned (OpenSpec.upto blockPartsSpec)

end Rows
end Go.Proofs.Ytecdjcepminliaa
