/-
  No cell of these rows narrows 'for every input' (looked for: loops, veiled, ifaces, maps, wideKeys, modest, calm, conditions, laid).
  DERIVED. THE GIVEN ROWS OF THIS SEAT. 5 by the template 'for every input the law returns true; each argument reads behind the call as it read before'; 0 by the template 'total and deterministic' (their statements: YtbipjdmaoofggaaTotals.lean).
  GIVEN WITH THE SEED: the statements are not yours to turn. If you find one false, say at which input.
  Laid BY PROGRAM, IN A SANDBOX (cutbox-rows.mjs): the forced cells as the released guide's own fill.sh prints them over the translation af43acd7a83d1e5f… (all of the seat's roots in one cut). By AI agents, Wed Nov 11 2026. No macro, syntax, notation, axiom, sorry.
-/
import Derived.Test.YtbipjdmaoofggaaChecked
import GoSem.Claim
import GoSem.ClaimJoined
import GoSem.ClaimMapViews
import Derived.JoinedTies
import Derived.KernelRfl
namespace Go.Proofs.Ytbipjdmaoofggaa
/- THE CELL 'sum', in the pinned program and in every row, IS THE sha256 OF THE DUMP (.gsa) THAT YtbipjdmaoofggaaProg.lean LOADS. Nothing in Lean hashes anything: it is a label: what it is worth is what the hold of that sum in a sandbox is worth. -/
noncomputable def Try.pinned : Pinned := { name := "ytbipjdmaoofggaa", sum := "af43acd7a83d1e5f7515aedc0c19525f1c632d9ad783feec8dff3e1716a0e313", checked := Try.checked }
namespace Rows
def none {H : Type} : Left H := { results := [], args := [] }

/-- 'lodgerlaw07.WordDoes': WHATEVER THE INPUT: true; the input reads as it did. -/
def wordDoesSpec : ChangeSpec := { name := "wordDoes", fn := fun _ => fun
  | [d1, d2] => { results := [.lit (.bool true)], args := [d1, d2] }
  | _ => none }
def wordDoesRow : OpenClaim := { program := "ytbipjdmaoofggaa", sum := "af43acd7a83d1e5f7515aedc0c19525f1c632d9ad783feec8dff3e1716a0e313", func := "lodger/lodgerlaw07.WordDoes", spec := "wordDoes", unfollowed := true, recurses := true, apart := false }
def WordDoesSaid : Prop := wordDoesRow.holds Try.pinned (OpenSpec.ofChange wordDoesSpec)

/-- ITS FALSE NEIGHBOUR: 'it returns false'. Refute it at one input. -/
def wordDoesWrong : ChangeSpec := { name := "wordDoes", fn := fun _ => fun
  | [d1, d2] => { results := [.lit (.bool false)], args := [d1, d2] }
  | _ => none }
def WordDoesWrongFalsely : Prop := wordDoesRow.holds Try.pinned (OpenSpec.ofChange wordDoesWrong)

/-- 'lodgerlaw07.WordNews': WHATEVER THE INPUT: true; the input reads as it did. -/
def wordNewsSpec : ChangeSpec := { name := "wordNews", fn := fun _ => fun
  | [d1, d2] => { results := [.lit (.bool true)], args := [d1, d2] }
  | _ => none }
def wordNewsRow : OpenClaim := { program := "ytbipjdmaoofggaa", sum := "af43acd7a83d1e5f7515aedc0c19525f1c632d9ad783feec8dff3e1716a0e313", func := "lodger/lodgerlaw07.WordNews", spec := "wordNews", unfollowed := true, recurses := true, apart := false }
def WordNewsSaid : Prop := wordNewsRow.holds Try.pinned (OpenSpec.ofChange wordNewsSpec)

/-- ITS FALSE NEIGHBOUR: 'it returns false'. Refute it at one input. -/
def wordNewsWrong : ChangeSpec := { name := "wordNews", fn := fun _ => fun
  | [d1, d2] => { results := [.lit (.bool false)], args := [d1, d2] }
  | _ => none }
def WordNewsWrongFalsely : Prop := wordNewsRow.holds Try.pinned (OpenSpec.ofChange wordNewsWrong)

/-- 'lodgerlaw07.WordClaims': WHATEVER THE INPUT: true; the input reads as it did. -/
def wordClaimsSpec : ChangeSpec := { name := "wordClaims", fn := fun _ => fun
  | [d1, d2, d3] => { results := [.lit (.bool true)], args := [d1, d2, d3] }
  | _ => none }
def wordClaimsRow : OpenClaim := { program := "ytbipjdmaoofggaa", sum := "af43acd7a83d1e5f7515aedc0c19525f1c632d9ad783feec8dff3e1716a0e313", func := "lodger/lodgerlaw07.WordClaims", spec := "wordClaims", unfollowed := true, recurses := true, apart := false }
def WordClaimsSaid : Prop := wordClaimsRow.holds Try.pinned (OpenSpec.ofChange wordClaimsSpec)

/-- ITS FALSE NEIGHBOUR: 'it returns false'. Refute it at one input. -/
def wordClaimsWrong : ChangeSpec := { name := "wordClaims", fn := fun _ => fun
  | [d1, d2, d3] => { results := [.lit (.bool false)], args := [d1, d2, d3] }
  | _ => none }
def WordClaimsWrongFalsely : Prop := wordClaimsRow.holds Try.pinned (OpenSpec.ofChange wordClaimsWrong)

/-- 'lodgerlaw07.WordUsable': WHATEVER THE INPUT: true; the input reads as it did. -/
def wordUsableSpec : ChangeSpec := { name := "wordUsable", fn := fun _ => fun
  | [d] => { results := [.lit (.bool true)], args := [d] }
  | _ => none }
def wordUsableRow : OpenClaim := { program := "ytbipjdmaoofggaa", sum := "af43acd7a83d1e5f7515aedc0c19525f1c632d9ad783feec8dff3e1716a0e313", func := "lodger/lodgerlaw07.WordUsable", spec := "wordUsable", unfollowed := true, recurses := true, apart := false }
def WordUsableSaid : Prop := wordUsableRow.holds Try.pinned (OpenSpec.ofChange wordUsableSpec)

/-- ITS FALSE NEIGHBOUR: 'it returns false'. Refute it at one input. -/
def wordUsableWrong : ChangeSpec := { name := "wordUsable", fn := fun _ => fun
  | [d] => { results := [.lit (.bool false)], args := [d] }
  | _ => none }
def WordUsableWrongFalsely : Prop := wordUsableRow.holds Try.pinned (OpenSpec.ofChange wordUsableWrong)

/-- 'lodgerlaw07.WordTurns': WHATEVER THE INPUT: true; the input reads as it did. -/
def wordTurnsSpec : ChangeSpec := { name := "wordTurns", fn := fun _ => fun
  | [d1, d2] => { results := [.lit (.bool true)], args := [d1, d2] }
  | _ => none }
def wordTurnsRow : OpenClaim := { program := "ytbipjdmaoofggaa", sum := "af43acd7a83d1e5f7515aedc0c19525f1c632d9ad783feec8dff3e1716a0e313", func := "lodger/lodgerlaw07.WordTurns", spec := "wordTurns", unfollowed := true, recurses := true, apart := false }
def WordTurnsSaid : Prop := wordTurnsRow.holds Try.pinned (OpenSpec.ofChange wordTurnsSpec)

/-- ITS FALSE NEIGHBOUR: 'it returns false'. Refute it at one input. -/
def wordTurnsWrong : ChangeSpec := { name := "wordTurns", fn := fun _ => fun
  | [d1, d2] => { results := [.lit (.bool false)], args := [d1, d2] }
  | _ => none }
def WordTurnsWrongFalsely : Prop := wordTurnsRow.holds Try.pinned (OpenSpec.ofChange wordTurnsWrong)

/- THE SECOND FORM. 'bulk': how many values and letters a reading holds, each counted each time it is reached (what is shared counts as often as it is met; a slice's spare places count too). A statement '..UptoSaid' is the law's where the arguments, and the package variables that the reading takes, are together of bulk at most 1048576: NARROWER than '..Said'. Prove '..Said' where nothing that the law and all that it calls make is longer than what came in: it says more and counts as full. Else prove '..UptoSaid'. A law counts once. -/
mutual
def uptoBulk {H : Type} : DataW H → Nat
  | .lit (.string bytes) => bytes.length + 1
  | .lit _ => 1
  | .nil => 1
  | .ptr d => uptoBulk d + 1
  | .slice elems spare => uptoBulkAll elems + uptoBulkAll spare + 1
  | .agg parts => uptoBulkAll parts + 1
  | .iface _ d => uptoBulk d + 1
  | .map entries => uptoBulkEntries entries + 1
  | .held _ => 1
def uptoBulkAll {H : Type} : List (DataW H) → Nat
  | [] => 0
  | d :: r => uptoBulk d + uptoBulkAll r
def uptoBulkEntries {H : Type} : List (Lit × DataW H) → Nat
  | [] => 0
  | x :: r => uptoBulkEntry x + uptoBulkEntries r
def uptoBulkEntry {H : Type} : Lit × DataW H → Nat
  | (.string bytes, d) => bytes.length + uptoBulk d + 1
  | (_, d) => uptoBulk d + 1
 end
def uptoSmall : (H : Type) → List (DataW H) → Bool := fun _ ds => decide (uptoBulkAll ds ≤ 1048576)
def OpenSpec.upto (s : _root_.Go.ChangeSpec) : _root_.Go.OpenSpec := { _root_.Go.OpenSpec.ofChange s with cond := some uptoSmall }

/-- 'lodgerlaw07.WordDoes', WHERE WHAT IT READS IS OF BULK AT MOST 1048576: true; the input reads as it did. -/
def wordDoesUptoRow : OpenClaim := { program := "ytbipjdmaoofggaa", sum := "af43acd7a83d1e5f7515aedc0c19525f1c632d9ad783feec8dff3e1716a0e313", func := "lodger/lodgerlaw07.WordDoes", spec := "wordDoes", unfollowed := true, recurses := true, apart := false, narrowed := true }
def WordDoesUptoSaid : Prop := wordDoesUptoRow.holds Try.pinned (OpenSpec.upto wordDoesSpec)

/-- 'lodgerlaw07.WordNews', WHERE WHAT IT READS IS OF BULK AT MOST 1048576: true; the input reads as it did. -/
def wordNewsUptoRow : OpenClaim := { program := "ytbipjdmaoofggaa", sum := "af43acd7a83d1e5f7515aedc0c19525f1c632d9ad783feec8dff3e1716a0e313", func := "lodger/lodgerlaw07.WordNews", spec := "wordNews", unfollowed := true, recurses := true, apart := false, narrowed := true }
def WordNewsUptoSaid : Prop := wordNewsUptoRow.holds Try.pinned (OpenSpec.upto wordNewsSpec)

/-- 'lodgerlaw07.WordClaims', WHERE WHAT IT READS IS OF BULK AT MOST 1048576: true; the input reads as it did. -/
def wordClaimsUptoRow : OpenClaim := { program := "ytbipjdmaoofggaa", sum := "af43acd7a83d1e5f7515aedc0c19525f1c632d9ad783feec8dff3e1716a0e313", func := "lodger/lodgerlaw07.WordClaims", spec := "wordClaims", unfollowed := true, recurses := true, apart := false, narrowed := true }
def WordClaimsUptoSaid : Prop := wordClaimsUptoRow.holds Try.pinned (OpenSpec.upto wordClaimsSpec)

/-- 'lodgerlaw07.WordUsable', WHERE WHAT IT READS IS OF BULK AT MOST 1048576: true; the input reads as it did. -/
def wordUsableUptoRow : OpenClaim := { program := "ytbipjdmaoofggaa", sum := "af43acd7a83d1e5f7515aedc0c19525f1c632d9ad783feec8dff3e1716a0e313", func := "lodger/lodgerlaw07.WordUsable", spec := "wordUsable", unfollowed := true, recurses := true, apart := false, narrowed := true }
def WordUsableUptoSaid : Prop := wordUsableUptoRow.holds Try.pinned (OpenSpec.upto wordUsableSpec)

/-- 'lodgerlaw07.WordTurns', WHERE WHAT IT READS IS OF BULK AT MOST 1048576: true; the input reads as it did. -/
def wordTurnsUptoRow : OpenClaim := { program := "ytbipjdmaoofggaa", sum := "af43acd7a83d1e5f7515aedc0c19525f1c632d9ad783feec8dff3e1716a0e313", func := "lodger/lodgerlaw07.WordTurns", spec := "wordTurns", unfollowed := true, recurses := true, apart := false, narrowed := true }
def WordTurnsUptoSaid : Prop := wordTurnsUptoRow.holds Try.pinned (OpenSpec.upto wordTurnsSpec)

end Rows
end Go.Proofs.Ytbipjdmaoofggaa
