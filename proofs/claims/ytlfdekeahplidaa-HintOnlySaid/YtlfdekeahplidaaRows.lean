/-
  No cell of these rows narrows 'for every input' (looked for: loops, veiled, ifaces, maps, wideKeys, modest, calm, conditions, laid).
  DERIVED. THE GIVEN ROWS OF THIS SEAT. 6 by the template 'for every input the law returns true; each argument reads behind the call as it read before'; 0 by the template 'total and deterministic' (their statements: YtlfdekeahplidaaTotals.lean).
  GIVEN WITH THE SEED: the statements are not yours to turn. If you find one false, say at which input.
  Laid BY PROGRAM, IN A SANDBOX (cutbox-rows.mjs): the forced cells as the released guide's own fill.sh prints them over the translation a88e8be4b80da9db… (all of the seat's roots in one cut). By AI agents, Wed Nov 11 2026. No macro, syntax, notation, axiom, sorry.
-/
import Derived.Test.YtlfdekeahplidaaChecked
import GoSem.Claim
import GoSem.ClaimJoined
import GoSem.ClaimMapViews
import Derived.JoinedTies
import Derived.KernelRfl
namespace Go.Proofs.Ytlfdekeahplidaa
/- THE CELL 'sum', in the pinned program and in every row, IS THE sha256 OF THE DUMP (.gsa) THAT YtlfdekeahplidaaProg.lean LOADS. Nothing in Lean hashes anything: it is a label: what it is worth is what the hold of that sum in a sandbox is worth. -/
noncomputable def Try.pinned : Pinned := { name := "ytlfdekeahplidaa", sum := "a88e8be4b80da9db3df9e5300c5f50803a882902f35a8f923f52d6bad04be2d3", checked := Try.checked }
namespace Rows
def none {H : Type} : Left H := { results := [], args := [] }

/-- 'lodgerlaw08.HintSteps': WHATEVER THE INPUT: true; the input reads as it did. -/
def hintStepsSpec : ChangeSpec := { name := "hintSteps", fn := fun _ => fun
  | [d1, d2, d3, d4, d5] => { results := [.lit (.bool true)], args := [d1, d2, d3, d4, d5] }
  | _ => none }
def hintStepsRow : OpenClaim := { program := "ytlfdekeahplidaa", sum := "a88e8be4b80da9db3df9e5300c5f50803a882902f35a8f923f52d6bad04be2d3", func := "lodger/lodgerlaw08.HintSteps", spec := "hintSteps", unfollowed := true, recurses := true, apart := false }
def HintStepsSaid : Prop := hintStepsRow.holds Try.pinned (OpenSpec.ofChange hintStepsSpec)

/-- ITS FALSE NEIGHBOUR: 'it returns false'. Refute it at one input. -/
def hintStepsWrong : ChangeSpec := { name := "hintSteps", fn := fun _ => fun
  | [d1, d2, d3, d4, d5] => { results := [.lit (.bool false)], args := [d1, d2, d3, d4, d5] }
  | _ => none }
def HintStepsWrongFalsely : Prop := hintStepsRow.holds Try.pinned (OpenSpec.ofChange hintStepsWrong)

/-- 'lodgerlaw08.HintOnly': WHATEVER THE INPUT: true; the input reads as it did. -/
def hintOnlySpec : ChangeSpec := { name := "hintOnly", fn := fun _ => fun
  | [d1, d2, d3, d4] => { results := [.lit (.bool true)], args := [d1, d2, d3, d4] }
  | _ => none }
def hintOnlyRow : OpenClaim := { program := "ytlfdekeahplidaa", sum := "a88e8be4b80da9db3df9e5300c5f50803a882902f35a8f923f52d6bad04be2d3", func := "lodger/lodgerlaw08.HintOnly", spec := "hintOnly", unfollowed := true, recurses := true, apart := false }
def HintOnlySaid : Prop := hintOnlyRow.holds Try.pinned (OpenSpec.ofChange hintOnlySpec)

/-- ITS FALSE NEIGHBOUR: 'it returns false'. Refute it at one input. -/
def hintOnlyWrong : ChangeSpec := { name := "hintOnly", fn := fun _ => fun
  | [d1, d2, d3, d4] => { results := [.lit (.bool false)], args := [d1, d2, d3, d4] }
  | _ => none }
def HintOnlyWrongFalsely : Prop := hintOnlyRow.holds Try.pinned (OpenSpec.ofChange hintOnlyWrong)

/-- 'lodgerlaw08.HintBatch': WHATEVER THE INPUT: true; the input reads as it did. -/
def hintBatchSpec : ChangeSpec := { name := "hintBatch", fn := fun _ => fun
  | [d1, d2] => { results := [.lit (.bool true)], args := [d1, d2] }
  | _ => none }
def hintBatchRow : OpenClaim := { program := "ytlfdekeahplidaa", sum := "a88e8be4b80da9db3df9e5300c5f50803a882902f35a8f923f52d6bad04be2d3", func := "lodger/lodgerlaw08.HintBatch", spec := "hintBatch", unfollowed := true, recurses := true, apart := false }
def HintBatchSaid : Prop := hintBatchRow.holds Try.pinned (OpenSpec.ofChange hintBatchSpec)

/-- ITS FALSE NEIGHBOUR: 'it returns false'. Refute it at one input. -/
def hintBatchWrong : ChangeSpec := { name := "hintBatch", fn := fun _ => fun
  | [d1, d2] => { results := [.lit (.bool false)], args := [d1, d2] }
  | _ => none }
def HintBatchWrongFalsely : Prop := hintBatchRow.holds Try.pinned (OpenSpec.ofChange hintBatchWrong)

/-- 'lodgerlaw08.HintKeeps': WHATEVER THE INPUT: true; the input reads as it did. -/
def hintKeepsSpec : ChangeSpec := { name := "hintKeeps", fn := fun _ => fun
  | [d1, d2, d3] => { results := [.lit (.bool true)], args := [d1, d2, d3] }
  | _ => none }
def hintKeepsRow : OpenClaim := { program := "ytlfdekeahplidaa", sum := "a88e8be4b80da9db3df9e5300c5f50803a882902f35a8f923f52d6bad04be2d3", func := "lodger/lodgerlaw08.HintKeeps", spec := "hintKeeps", unfollowed := true, recurses := true, apart := false }
def HintKeepsSaid : Prop := hintKeepsRow.holds Try.pinned (OpenSpec.ofChange hintKeepsSpec)

/-- ITS FALSE NEIGHBOUR: 'it returns false'. Refute it at one input. -/
def hintKeepsWrong : ChangeSpec := { name := "hintKeeps", fn := fun _ => fun
  | [d1, d2, d3] => { results := [.lit (.bool false)], args := [d1, d2, d3] }
  | _ => none }
def HintKeepsWrongFalsely : Prop := hintKeepsRow.holds Try.pinned (OpenSpec.ofChange hintKeepsWrong)

/-- 'lodgerlaw08.HintFind': WHATEVER THE INPUT: true; the input reads as it did. -/
def hintFindSpec : ChangeSpec := { name := "hintFind", fn := fun _ => fun
  | [d1, d2, d3] => { results := [.lit (.bool true)], args := [d1, d2, d3] }
  | _ => none }
def hintFindRow : OpenClaim := { program := "ytlfdekeahplidaa", sum := "a88e8be4b80da9db3df9e5300c5f50803a882902f35a8f923f52d6bad04be2d3", func := "lodger/lodgerlaw08.HintFind", spec := "hintFind", unfollowed := true, recurses := true, apart := false }
def HintFindSaid : Prop := hintFindRow.holds Try.pinned (OpenSpec.ofChange hintFindSpec)

/-- ITS FALSE NEIGHBOUR: 'it returns false'. Refute it at one input. -/
def hintFindWrong : ChangeSpec := { name := "hintFind", fn := fun _ => fun
  | [d1, d2, d3] => { results := [.lit (.bool false)], args := [d1, d2, d3] }
  | _ => none }
def HintFindWrongFalsely : Prop := hintFindRow.holds Try.pinned (OpenSpec.ofChange hintFindWrong)

/-- 'lodgerlaw08.HintLost': WHATEVER THE INPUT: true; the input reads as it did. -/
def hintLostSpec : ChangeSpec := { name := "hintLost", fn := fun _ => fun
  | [d1, d2, d3, d4, d5] => { results := [.lit (.bool true)], args := [d1, d2, d3, d4, d5] }
  | _ => none }
def hintLostRow : OpenClaim := { program := "ytlfdekeahplidaa", sum := "a88e8be4b80da9db3df9e5300c5f50803a882902f35a8f923f52d6bad04be2d3", func := "lodger/lodgerlaw08.HintLost", spec := "hintLost", unfollowed := true, recurses := true, apart := false }
def HintLostSaid : Prop := hintLostRow.holds Try.pinned (OpenSpec.ofChange hintLostSpec)

/-- ITS FALSE NEIGHBOUR: 'it returns false'. Refute it at one input. -/
def hintLostWrong : ChangeSpec := { name := "hintLost", fn := fun _ => fun
  | [d1, d2, d3, d4, d5] => { results := [.lit (.bool false)], args := [d1, d2, d3, d4, d5] }
  | _ => none }
def HintLostWrongFalsely : Prop := hintLostRow.holds Try.pinned (OpenSpec.ofChange hintLostWrong)

/- THE SECOND FORM. 'bulk': how many values and letters a reading holds, each counted each time it is reached (what is shared counts as often as it is met; a slice's spare places count too). A statement '..UptoSaid' is the law's where the arguments, and the package variables that the reading takes, are together of bulk at most 1048576: NARROWER than '..Said'. Prove '..Said' where nothing that the law and all that it calls make is longer than what came in: it says more and counts as full. Else prove '..UptoSaid'. A law counts once. -/
mutual
def uptoBulk {H : Type} : DataW H → Nat
  | .lit (.string bytes) => bytes.length + 1
  | .lit _ => 1
  | .nil => 1
  | .ptr d => uptoBulk d + 1
  | .slice elems spare => uptoBulkAll elems + uptoBulkAll spare + 1
  | .agg parts => uptoBulkAll parts + 1
  | .iface _ d => uptoBulk d + 1
  | .map entries => uptoBulkEntries entries + 1
  | .held _ => 1
def uptoBulkAll {H : Type} : List (DataW H) → Nat
  | [] => 0
  | d :: r => uptoBulk d + uptoBulkAll r
def uptoBulkEntries {H : Type} : List (Lit × DataW H) → Nat
  | [] => 0
  | x :: r => uptoBulkEntry x + uptoBulkEntries r
def uptoBulkEntry {H : Type} : Lit × DataW H → Nat
  | (.string bytes, d) => bytes.length + uptoBulk d + 1
  | (_, d) => uptoBulk d + 1
 end
def uptoSmall : (H : Type) → List (DataW H) → Bool := fun _ ds => decide (uptoBulkAll ds ≤ 1048576)
def OpenSpec.upto (s : _root_.Go.ChangeSpec) : _root_.Go.OpenSpec := { _root_.Go.OpenSpec.ofChange s with cond := some uptoSmall }

/-- 'lodgerlaw08.HintSteps', WHERE WHAT IT READS IS OF BULK AT MOST 1048576: true; the input reads as it did. -/
def hintStepsUptoRow : OpenClaim := { program := "ytlfdekeahplidaa", sum := "a88e8be4b80da9db3df9e5300c5f50803a882902f35a8f923f52d6bad04be2d3", func := "lodger/lodgerlaw08.HintSteps", spec := "hintSteps", unfollowed := true, recurses := true, apart := false, narrowed := true }
def HintStepsUptoSaid : Prop := hintStepsUptoRow.holds Try.pinned (OpenSpec.upto hintStepsSpec)

/-- 'lodgerlaw08.HintOnly', WHERE WHAT IT READS IS OF BULK AT MOST 1048576: true; the input reads as it did. -/
def hintOnlyUptoRow : OpenClaim := { program := "ytlfdekeahplidaa", sum := "a88e8be4b80da9db3df9e5300c5f50803a882902f35a8f923f52d6bad04be2d3", func := "lodger/lodgerlaw08.HintOnly", spec := "hintOnly", unfollowed := true, recurses := true, apart := false, narrowed := true }
def HintOnlyUptoSaid : Prop := hintOnlyUptoRow.holds Try.pinned (OpenSpec.upto hintOnlySpec)

/-- 'lodgerlaw08.HintBatch', WHERE WHAT IT READS IS OF BULK AT MOST 1048576: true; the input reads as it did. -/
def hintBatchUptoRow : OpenClaim := { program := "ytlfdekeahplidaa", sum := "a88e8be4b80da9db3df9e5300c5f50803a882902f35a8f923f52d6bad04be2d3", func := "lodger/lodgerlaw08.HintBatch", spec := "hintBatch", unfollowed := true, recurses := true, apart := false, narrowed := true }
def HintBatchUptoSaid : Prop := hintBatchUptoRow.holds Try.pinned (OpenSpec.upto hintBatchSpec)

/-- 'lodgerlaw08.HintKeeps', WHERE WHAT IT READS IS OF BULK AT MOST 1048576: true; the input reads as it did. -/
def hintKeepsUptoRow : OpenClaim := { program := "ytlfdekeahplidaa", sum := "a88e8be4b80da9db3df9e5300c5f50803a882902f35a8f923f52d6bad04be2d3", func := "lodger/lodgerlaw08.HintKeeps", spec := "hintKeeps", unfollowed := true, recurses := true, apart := false, narrowed := true }
def HintKeepsUptoSaid : Prop := hintKeepsUptoRow.holds Try.pinned (OpenSpec.upto hintKeepsSpec)

/-- 'lodgerlaw08.HintFind', WHERE WHAT IT READS IS OF BULK AT MOST 1048576: true; the input reads as it did. -/
def hintFindUptoRow : OpenClaim := { program := "ytlfdekeahplidaa", sum := "a88e8be4b80da9db3df9e5300c5f50803a882902f35a8f923f52d6bad04be2d3", func := "lodger/lodgerlaw08.HintFind", spec := "hintFind", unfollowed := true, recurses := true, apart := false, narrowed := true }
def HintFindUptoSaid : Prop := hintFindUptoRow.holds Try.pinned (OpenSpec.upto hintFindSpec)

/-- 'lodgerlaw08.HintLost', WHERE WHAT IT READS IS OF BULK AT MOST 1048576: true; the input reads as it did. -/
def hintLostUptoRow : OpenClaim := { program := "ytlfdekeahplidaa", sum := "a88e8be4b80da9db3df9e5300c5f50803a882902f35a8f923f52d6bad04be2d3", func := "lodger/lodgerlaw08.HintLost", spec := "hintLost", unfollowed := true, recurses := true, apart := false, narrowed := true }
def HintLostUptoSaid : Prop := hintLostUptoRow.holds Try.pinned (OpenSpec.upto hintLostSpec)

end Rows
end Go.Proofs.Ytlfdekeahplidaa
