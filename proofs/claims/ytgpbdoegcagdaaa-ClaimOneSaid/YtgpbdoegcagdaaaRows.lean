/-
  No cell of these rows narrows 'for every input' (looked for: loops, veiled, ifaces, maps, wideKeys, modest, calm, conditions, laid).
  DERIVED. THE GIVEN ROWS OF THIS SEAT. 4 by the template 'for every input the law returns true; each argument reads behind the call as it read before'; 0 by the template 'total and deterministic' (their statements: YtgpbdoegcagdaaaTotals.lean).
  GIVEN WITH THE SEED: the statements are not yours to turn. If you find one false, say at which input.
  Laid BY PROGRAM, IN A SANDBOX (cutbox-rows.mjs): the forced cells as the released guide's own fill.sh prints them over the translation 47f881e4d01abbb7… (all of the seat's roots in one cut). By AI agents, Wed Nov 11 2026. No macro, syntax, notation, axiom, sorry.
-/
import Derived.Test.YtgpbdoegcagdaaaChecked
import GoSem.Claim
import GoSem.ClaimJoined
import GoSem.ClaimMapViews
import Derived.JoinedTies
import Derived.KernelRfl
namespace Go.Proofs.Ytgpbdoegcagdaaa
/- THE CELL 'sum', in the pinned program and in every row, IS THE sha256 OF THE DUMP (.gsa) THAT YtgpbdoegcagdaaaProg.lean LOADS. Nothing in Lean hashes anything: it is a label: what it is worth is what the hold of that sum in a sandbox is worth. -/
noncomputable def Try.pinned : Pinned := { name := "ytgpbdoegcagdaaa", sum := "47f881e4d01abbb78f20d1f6bbe4265ef7b838d29e2f0d36a5426c52918ddf0b", checked := Try.checked }
namespace Rows
def none {H : Type} : Left H := { results := [], args := [] }

/-- 'lodgerlaw13.ClaimOne': WHATEVER THE INPUT: true; the input reads as it did. -/
def claimOneSpec : ChangeSpec := { name := "claimOne", fn := fun _ => fun
  | [d1, d2, d3] => { results := [.lit (.bool true)], args := [d1, d2, d3] }
  | _ => none }
def claimOneRow : OpenClaim := { program := "ytgpbdoegcagdaaa", sum := "47f881e4d01abbb78f20d1f6bbe4265ef7b838d29e2f0d36a5426c52918ddf0b", func := "lodger/lodgerlaw13.ClaimOne", spec := "claimOne", unfollowed := true, recurses := true, apart := false }
def ClaimOneSaid : Prop := claimOneRow.holds Try.pinned (OpenSpec.ofChange claimOneSpec)

/-- ITS FALSE NEIGHBOUR: 'it returns false'. Refute it at one input. -/
def claimOneWrong : ChangeSpec := { name := "claimOne", fn := fun _ => fun
  | [d1, d2, d3] => { results := [.lit (.bool false)], args := [d1, d2, d3] }
  | _ => none }
def ClaimOneWrongFalsely : Prop := claimOneRow.holds Try.pinned (OpenSpec.ofChange claimOneWrong)

/-- 'lodgerlaw13.ClaimFails': WHATEVER THE INPUT: true; the input reads as it did. -/
def claimFailsSpec : ChangeSpec := { name := "claimFails", fn := fun _ => fun
  | [d1, d2, d3, d4] => { results := [.lit (.bool true)], args := [d1, d2, d3, d4] }
  | _ => none }
def claimFailsRow : OpenClaim := { program := "ytgpbdoegcagdaaa", sum := "47f881e4d01abbb78f20d1f6bbe4265ef7b838d29e2f0d36a5426c52918ddf0b", func := "lodger/lodgerlaw13.ClaimFails", spec := "claimFails", unfollowed := true, recurses := true, apart := false }
def ClaimFailsSaid : Prop := claimFailsRow.holds Try.pinned (OpenSpec.ofChange claimFailsSpec)

/-- ITS FALSE NEIGHBOUR: 'it returns false'. Refute it at one input. -/
def claimFailsWrong : ChangeSpec := { name := "claimFails", fn := fun _ => fun
  | [d1, d2, d3, d4] => { results := [.lit (.bool false)], args := [d1, d2, d3, d4] }
  | _ => none }
def ClaimFailsWrongFalsely : Prop := claimFailsRow.holds Try.pinned (OpenSpec.ofChange claimFailsWrong)

/-- 'lodgerlaw13.ClaimKeeps': WHATEVER THE INPUT: true; the input reads as it did. -/
def claimKeepsSpec : ChangeSpec := { name := "claimKeeps", fn := fun _ => fun
  | [d1, d2, d3] => { results := [.lit (.bool true)], args := [d1, d2, d3] }
  | _ => none }
def claimKeepsRow : OpenClaim := { program := "ytgpbdoegcagdaaa", sum := "47f881e4d01abbb78f20d1f6bbe4265ef7b838d29e2f0d36a5426c52918ddf0b", func := "lodger/lodgerlaw13.ClaimKeeps", spec := "claimKeeps", unfollowed := true, recurses := true, apart := false }
def ClaimKeepsSaid : Prop := claimKeepsRow.holds Try.pinned (OpenSpec.ofChange claimKeepsSpec)

/-- ITS FALSE NEIGHBOUR: 'it returns false'. Refute it at one input. -/
def claimKeepsWrong : ChangeSpec := { name := "claimKeeps", fn := fun _ => fun
  | [d1, d2, d3] => { results := [.lit (.bool false)], args := [d1, d2, d3] }
  | _ => none }
def ClaimKeepsWrongFalsely : Prop := claimKeepsRow.holds Try.pinned (OpenSpec.ofChange claimKeepsWrong)

/-- 'lodgerlaw13.ClaimLook': WHATEVER THE INPUT: true; the input reads as it did. -/
def claimLookSpec : ChangeSpec := { name := "claimLook", fn := fun _ => fun
  | [d1, d2, d3] => { results := [.lit (.bool true)], args := [d1, d2, d3] }
  | _ => none }
def claimLookRow : OpenClaim := { program := "ytgpbdoegcagdaaa", sum := "47f881e4d01abbb78f20d1f6bbe4265ef7b838d29e2f0d36a5426c52918ddf0b", func := "lodger/lodgerlaw13.ClaimLook", spec := "claimLook", unfollowed := true, recurses := true, apart := false }
def ClaimLookSaid : Prop := claimLookRow.holds Try.pinned (OpenSpec.ofChange claimLookSpec)

/-- ITS FALSE NEIGHBOUR: 'it returns false'. Refute it at one input. -/
def claimLookWrong : ChangeSpec := { name := "claimLook", fn := fun _ => fun
  | [d1, d2, d3] => { results := [.lit (.bool false)], args := [d1, d2, d3] }
  | _ => none }
def ClaimLookWrongFalsely : Prop := claimLookRow.holds Try.pinned (OpenSpec.ofChange claimLookWrong)

/- THE SECOND FORM. 'bulk': how many values and letters a reading holds, each counted each time it is reached (what is shared counts as often as it is met; a slice's spare places count too). A statement '..UptoSaid' is the law's where the arguments, and the package variables that the reading takes, are together of bulk at most 1048576: NARROWER than '..Said'. Prove '..Said' where nothing that the law and all that it calls make is longer than what came in: it says more and counts as full. Else prove '..UptoSaid'. A law counts once. -/
mutual
def uptoBulk {H : Type} : DataW H → Nat
  | .lit (.string bytes) => bytes.length + 1
  | .lit _ => 1
  | .nil => 1
  | .ptr d => uptoBulk d + 1
  | .slice elems spare => uptoBulkAll elems + uptoBulkAll spare + 1
  | .agg parts => uptoBulkAll parts + 1
  | .iface _ d => uptoBulk d + 1
  | .map entries => uptoBulkEntries entries + 1
  | .held _ => 1
def uptoBulkAll {H : Type} : List (DataW H) → Nat
  | [] => 0
  | d :: r => uptoBulk d + uptoBulkAll r
def uptoBulkEntries {H : Type} : List (Lit × DataW H) → Nat
  | [] => 0
  | x :: r => uptoBulkEntry x + uptoBulkEntries r
def uptoBulkEntry {H : Type} : Lit × DataW H → Nat
  | (.string bytes, d) => bytes.length + uptoBulk d + 1
  | (_, d) => uptoBulk d + 1
 end
def uptoSmall : (H : Type) → List (DataW H) → Bool := fun _ ds => decide (uptoBulkAll ds ≤ 1048576)
def OpenSpec.upto (s : _root_.Go.ChangeSpec) : _root_.Go.OpenSpec := { _root_.Go.OpenSpec.ofChange s with cond := some uptoSmall }

/-- 'lodgerlaw13.ClaimOne', WHERE WHAT IT READS IS OF BULK AT MOST 1048576: true; the input reads as it did. -/
def claimOneUptoRow : OpenClaim := { program := "ytgpbdoegcagdaaa", sum := "47f881e4d01abbb78f20d1f6bbe4265ef7b838d29e2f0d36a5426c52918ddf0b", func := "lodger/lodgerlaw13.ClaimOne", spec := "claimOne", unfollowed := true, recurses := true, apart := false, narrowed := true }
def ClaimOneUptoSaid : Prop := claimOneUptoRow.holds Try.pinned (OpenSpec.upto claimOneSpec)

/-- 'lodgerlaw13.ClaimFails', WHERE WHAT IT READS IS OF BULK AT MOST 1048576: true; the input reads as it did. -/
def claimFailsUptoRow : OpenClaim := { program := "ytgpbdoegcagdaaa", sum := "47f881e4d01abbb78f20d1f6bbe4265ef7b838d29e2f0d36a5426c52918ddf0b", func := "lodger/lodgerlaw13.ClaimFails", spec := "claimFails", unfollowed := true, recurses := true, apart := false, narrowed := true }
def ClaimFailsUptoSaid : Prop := claimFailsUptoRow.holds Try.pinned (OpenSpec.upto claimFailsSpec)

/-- 'lodgerlaw13.ClaimKeeps', WHERE WHAT IT READS IS OF BULK AT MOST 1048576: true; the input reads as it did. -/
def claimKeepsUptoRow : OpenClaim := { program := "ytgpbdoegcagdaaa", sum := "47f881e4d01abbb78f20d1f6bbe4265ef7b838d29e2f0d36a5426c52918ddf0b", func := "lodger/lodgerlaw13.ClaimKeeps", spec := "claimKeeps", unfollowed := true, recurses := true, apart := false, narrowed := true }
def ClaimKeepsUptoSaid : Prop := claimKeepsUptoRow.holds Try.pinned (OpenSpec.upto claimKeepsSpec)

/-- 'lodgerlaw13.ClaimLook', WHERE WHAT IT READS IS OF BULK AT MOST 1048576: true; the input reads as it did. -/
def claimLookUptoRow : OpenClaim := { program := "ytgpbdoegcagdaaa", sum := "47f881e4d01abbb78f20d1f6bbe4265ef7b838d29e2f0d36a5426c52918ddf0b", func := "lodger/lodgerlaw13.ClaimLook", spec := "claimLook", unfollowed := true, recurses := true, apart := false, narrowed := true }
def ClaimLookUptoSaid : Prop := claimLookUptoRow.holds Try.pinned (OpenSpec.upto claimLookSpec)

end Rows
end Go.Proofs.Ytgpbdoegcagdaaa
