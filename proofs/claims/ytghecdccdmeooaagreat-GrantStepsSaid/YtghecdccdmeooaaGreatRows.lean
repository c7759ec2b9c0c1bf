/-
  No cell of these rows narrows 'for every input' (looked for: loops, veiled, ifaces, maps, wideKeys, modest, calm, conditions, laid).
  DERIVED. THE GIVEN ROWS OF THIS SEAT. 4 by the template 'for every input the law returns true; each argument reads behind the call as it read before'; 0 by the template 'total and deterministic' (their statements: YtghecdccdmeooaaGreatTotals.lean).
  GIVEN WITH THE SEED: the statements are not yours to turn. If you find one false, say at which input.
  Laid BY PROGRAM, IN A SANDBOX (cutbox-rows.mjs): the forced cells as the released guide's own fill.sh prints them over the translation d1c066efedfa5fbe… (all of the seat's roots in one cut). By AI agents, Wed Nov 11 2026. No macro, syntax, notation, axiom, sorry.
-/
import Derived.Test.YtghecdccdmeooaaGreatChecked
import GoSem.Claim
import GoSem.ClaimJoined
import GoSem.ClaimMapViews
import Derived.JoinedTies
import Derived.KernelRfl
namespace Go.Proofs.YtghecdccdmeooaaGreat
/- THE CELL 'sum', in the pinned program and in every row, IS THE sha256 OF THE DUMP (.gsa) THAT YtghecdccdmeooaaGreatProg.lean LOADS. Nothing in Lean hashes anything: it is a label: what it is worth is what the hold of that sum in a sandbox is worth. -/
noncomputable def Tryz.pinned : Pinned := { name := "ytghecdccdmeooaagreat", sum := "d1c066efedfa5fbec798976780694f8ee20d1f91e0d954b14a53f7a3fc4f942e", checked := Tryz.checked }
namespace Rows
def none {H : Type} : Left H := { results := [], args := [] }

/-- 'lodgerlaw17.GrantSteps': WHATEVER THE INPUT: true; the input reads as it did. -/
def grantStepsSpec : ChangeSpec := { name := "grantSteps", fn := fun _ => fun
  | [d1, d2, d3] => { results := [.lit (.bool true)], args := [d1, d2, d3] }
  | _ => none }
def grantStepsRow : OpenClaim := { program := "ytghecdccdmeooaagreat", sum := "d1c066efedfa5fbec798976780694f8ee20d1f91e0d954b14a53f7a3fc4f942e", func := "lodger/lodgerlaw17.GrantSteps", spec := "grantSteps", unfollowed := true, recurses := true, apart := false }
def GrantStepsSaid : Prop := grantStepsRow.holds Tryz.pinned (OpenSpec.ofChange grantStepsSpec)

/-- ITS FALSE NEIGHBOUR: 'it returns false'. Refute it at one input. -/
def grantStepsWrong : ChangeSpec := { name := "grantSteps", fn := fun _ => fun
  | [d1, d2, d3] => { results := [.lit (.bool false)], args := [d1, d2, d3] }
  | _ => none }
def GrantStepsWrongFalsely : Prop := grantStepsRow.holds Tryz.pinned (OpenSpec.ofChange grantStepsWrong)

/-- 'lodgerlaw17.GrantAlone': WHATEVER THE INPUT: true; the input reads as it did. -/
def grantAloneSpec : ChangeSpec := { name := "grantAlone", fn := fun _ => fun
  | [d1, d2, d3] => { results := [.lit (.bool true)], args := [d1, d2, d3] }
  | _ => none }
def grantAloneRow : OpenClaim := { program := "ytghecdccdmeooaagreat", sum := "d1c066efedfa5fbec798976780694f8ee20d1f91e0d954b14a53f7a3fc4f942e", func := "lodger/lodgerlaw17.GrantAlone", spec := "grantAlone", unfollowed := true, recurses := true, apart := false }
def GrantAloneSaid : Prop := grantAloneRow.holds Tryz.pinned (OpenSpec.ofChange grantAloneSpec)

/-- ITS FALSE NEIGHBOUR: 'it returns false'. Refute it at one input. -/
def grantAloneWrong : ChangeSpec := { name := "grantAlone", fn := fun _ => fun
  | [d1, d2, d3] => { results := [.lit (.bool false)], args := [d1, d2, d3] }
  | _ => none }
def GrantAloneWrongFalsely : Prop := grantAloneRow.holds Tryz.pinned (OpenSpec.ofChange grantAloneWrong)

/-- 'lodgerlaw17.GrantOnce': WHATEVER THE INPUT: true; the input reads as it did. -/
def grantOnceSpec : ChangeSpec := { name := "grantOnce", fn := fun _ => fun
  | [d1, d2, d3, d4] => { results := [.lit (.bool true)], args := [d1, d2, d3, d4] }
  | _ => none }
def grantOnceRow : OpenClaim := { program := "ytghecdccdmeooaagreat", sum := "d1c066efedfa5fbec798976780694f8ee20d1f91e0d954b14a53f7a3fc4f942e", func := "lodger/lodgerlaw17.GrantOnce", spec := "grantOnce", unfollowed := true, recurses := true, apart := false }
def GrantOnceSaid : Prop := grantOnceRow.holds Tryz.pinned (OpenSpec.ofChange grantOnceSpec)

/-- ITS FALSE NEIGHBOUR: 'it returns false'. Refute it at one input. -/
def grantOnceWrong : ChangeSpec := { name := "grantOnce", fn := fun _ => fun
  | [d1, d2, d3, d4] => { results := [.lit (.bool false)], args := [d1, d2, d3, d4] }
  | _ => none }
def GrantOnceWrongFalsely : Prop := grantOnceRow.holds Tryz.pinned (OpenSpec.ofChange grantOnceWrong)

/-- 'lodgerlaw17.GrantAll': WHATEVER THE INPUT: true; the input reads as it did. -/
def grantAllSpec : ChangeSpec := { name := "grantAll", fn := fun _ => fun
  | [d1, d2] => { results := [.lit (.bool true)], args := [d1, d2] }
  | _ => none }
def grantAllRow : OpenClaim := { program := "ytghecdccdmeooaagreat", sum := "d1c066efedfa5fbec798976780694f8ee20d1f91e0d954b14a53f7a3fc4f942e", func := "lodger/lodgerlaw17.GrantAll", spec := "grantAll", unfollowed := true, recurses := true, apart := false }
def GrantAllSaid : Prop := grantAllRow.holds Tryz.pinned (OpenSpec.ofChange grantAllSpec)

/-- ITS FALSE NEIGHBOUR: 'it returns false'. Refute it at one input. -/
def grantAllWrong : ChangeSpec := { name := "grantAll", fn := fun _ => fun
  | [d1, d2] => { results := [.lit (.bool false)], args := [d1, d2] }
  | _ => none }
def GrantAllWrongFalsely : Prop := grantAllRow.holds Tryz.pinned (OpenSpec.ofChange grantAllWrong)

/- THE SECOND FORM. 'bulk': how many values and letters a reading holds, each counted each time it is reached (what is shared counts as often as it is met; a slice's spare places count too). A statement '..UptoSaid' is the law's where the arguments, and the package variables that the reading takes, are together of bulk at most 1048576: NARROWER than '..Said'. Prove '..Said' where nothing that the law and all that it calls make is longer than what came in: it says more and counts as full. Else prove '..UptoSaid'. A law counts once. -/
mutual
def uptoBulk {H : Type} : DataW H → Nat
  | .lit (.string bytes) => bytes.length + 1
  | .lit _ => 1
  | .nil => 1
  | .ptr d => uptoBulk d + 1
  | .slice elems spare => uptoBulkAll elems + uptoBulkAll spare + 1
  | .agg parts => uptoBulkAll parts + 1
  | .iface _ d => uptoBulk d + 1
  | .map entries => uptoBulkEntries entries + 1
  | .held _ => 1
def uptoBulkAll {H : Type} : List (DataW H) → Nat
  | [] => 0
  | d :: r => uptoBulk d + uptoBulkAll r
def uptoBulkEntries {H : Type} : List (Lit × DataW H) → Nat
  | [] => 0
  | x :: r => uptoBulkEntry x + uptoBulkEntries r
def uptoBulkEntry {H : Type} : Lit × DataW H → Nat
  | (.string bytes, d) => bytes.length + uptoBulk d + 1
  | (_, d) => uptoBulk d + 1
 end
def uptoSmall : (H : Type) → List (DataW H) → Bool := fun _ ds => decide (uptoBulkAll ds ≤ 1048576)
def OpenSpec.upto (s : _root_.Go.ChangeSpec) : _root_.Go.OpenSpec := { _root_.Go.OpenSpec.ofChange s with cond := some uptoSmall }

/-- 'lodgerlaw17.GrantSteps', WHERE WHAT IT READS IS OF BULK AT MOST 1048576: true; the input reads as it did. -/
def grantStepsUptoRow : OpenClaim := { program := "ytghecdccdmeooaagreat", sum := "d1c066efedfa5fbec798976780694f8ee20d1f91e0d954b14a53f7a3fc4f942e", func := "lodger/lodgerlaw17.GrantSteps", spec := "grantSteps", unfollowed := true, recurses := true, apart := false, narrowed := true }
def GrantStepsUptoSaid : Prop := grantStepsUptoRow.holds Tryz.pinned (OpenSpec.upto grantStepsSpec)

/-- 'lodgerlaw17.GrantAlone', WHERE WHAT IT READS IS OF BULK AT MOST 1048576: true; the input reads as it did. -/
def grantAloneUptoRow : OpenClaim := { program := "ytghecdccdmeooaagreat", sum := "d1c066efedfa5fbec798976780694f8ee20d1f91e0d954b14a53f7a3fc4f942e", func := "lodger/lodgerlaw17.GrantAlone", spec := "grantAlone", unfollowed := true, recurses := true, apart := false, narrowed := true }
def GrantAloneUptoSaid : Prop := grantAloneUptoRow.holds Tryz.pinned (OpenSpec.upto grantAloneSpec)

/-- 'lodgerlaw17.GrantOnce', WHERE WHAT IT READS IS OF BULK AT MOST 1048576: true; the input reads as it did. -/
def grantOnceUptoRow : OpenClaim := { program := "ytghecdccdmeooaagreat", sum := "d1c066efedfa5fbec798976780694f8ee20d1f91e0d954b14a53f7a3fc4f942e", func := "lodger/lodgerlaw17.GrantOnce", spec := "grantOnce", unfollowed := true, recurses := true, apart := false, narrowed := true }
def GrantOnceUptoSaid : Prop := grantOnceUptoRow.holds Tryz.pinned (OpenSpec.upto grantOnceSpec)

/-- 'lodgerlaw17.GrantAll', WHERE WHAT IT READS IS OF BULK AT MOST 1048576: true; the input reads as it did. -/
def grantAllUptoRow : OpenClaim := { program := "ytghecdccdmeooaagreat", sum := "d1c066efedfa5fbec798976780694f8ee20d1f91e0d954b14a53f7a3fc4f942e", func := "lodger/lodgerlaw17.GrantAll", spec := "grantAll", unfollowed := true, recurses := true, apart := false, narrowed := true }
def GrantAllUptoSaid : Prop := grantAllUptoRow.holds Tryz.pinned (OpenSpec.upto grantAllSpec)

end Rows
end Go.Proofs.YtghecdccdmeooaaGreat
