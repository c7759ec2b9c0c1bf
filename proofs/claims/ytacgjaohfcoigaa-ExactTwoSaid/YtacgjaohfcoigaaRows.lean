/-
  No cell of these rows narrows 'for every input' (looked for: loops, veiled, ifaces, maps, wideKeys, modest, calm, conditions, laid).
  DERIVED. THE GIVEN ROWS OF THIS SEAT. 3 by the template 'for every input the law returns true; each argument reads behind the call as it read before'; 0 by the template 'total and deterministic' (their statements: YtacgjaohfcoigaaTotals.lean).
  GIVEN WITH THE SEED: the statements are not yours to turn. If you find one false, say at which input.
  Laid BY PROGRAM, IN A SANDBOX (cutbox-rows.mjs): the forced cells as the released guide's own fill.sh prints them over the translation 017ff8648f3f9fab… (all of the seat's roots in one cut). By AI agents, Wed Nov 11 2026. No macro, syntax, notation, axiom, sorry.
-/
import Derived.Test.YtacgjaohfcoigaaChecked
import GoSem.Claim
import GoSem.ClaimJoined
import GoSem.ClaimMapViews
import Derived.JoinedTies
import Derived.KernelRfl
namespace Go.Proofs.Ytacgjaohfcoigaa
/- THE CELL 'sum', in the pinned program and in every row, IS THE sha256 OF THE DUMP (.gsa) THAT YtacgjaohfcoigaaProg.lean LOADS. Nothing in Lean hashes anything: it is a label: what it is worth is what the hold of that sum in a sandbox is worth. -/
noncomputable def Try.pinned : Pinned := { name := "ytacgjaohfcoigaa", sum := "017ff8648f3f9fab499e8f70d93b8487545db8dd0d6462e5cb926b524272d79f", checked := Try.checked }
namespace Rows
def none {H : Type} : Left H := { results := [], args := [] }

/-- 'lodgerlaw18.ExactOnce': WHATEVER THE INPUT: true; the input reads as it did. -/
def exactOnceSpec : ChangeSpec := { name := "exactOnce", fn := fun _ => fun
  | [d1, d2, d3, d4] => { results := [.lit (.bool true)], args := [d1, d2, d3, d4] }
  | _ => none }
def exactOnceRow : OpenClaim := { program := "ytacgjaohfcoigaa", sum := "017ff8648f3f9fab499e8f70d93b8487545db8dd0d6462e5cb926b524272d79f", func := "lodger/lodgerlaw18.ExactOnce", spec := "exactOnce", unfollowed := true, recurses := true, apart := false }
def ExactOnceSaid : Prop := exactOnceRow.holds Try.pinned (OpenSpec.ofChange exactOnceSpec)

/-- ITS FALSE NEIGHBOUR: 'it returns false'. Refute it at one input. -/
def exactOnceWrong : ChangeSpec := { name := "exactOnce", fn := fun _ => fun
  | [d1, d2, d3, d4] => { results := [.lit (.bool false)], args := [d1, d2, d3, d4] }
  | _ => none }
def ExactOnceWrongFalsely : Prop := exactOnceRow.holds Try.pinned (OpenSpec.ofChange exactOnceWrong)

/-- 'lodgerlaw18.ExactAlone': WHATEVER THE INPUT: true; the input reads as it did. -/
def exactAloneSpec : ChangeSpec := { name := "exactAlone", fn := fun _ => fun
  | [d1, d2, d3] => { results := [.lit (.bool true)], args := [d1, d2, d3] }
  | _ => none }
def exactAloneRow : OpenClaim := { program := "ytacgjaohfcoigaa", sum := "017ff8648f3f9fab499e8f70d93b8487545db8dd0d6462e5cb926b524272d79f", func := "lodger/lodgerlaw18.ExactAlone", spec := "exactAlone", unfollowed := true, recurses := true, apart := false }
def ExactAloneSaid : Prop := exactAloneRow.holds Try.pinned (OpenSpec.ofChange exactAloneSpec)

/-- ITS FALSE NEIGHBOUR: 'it returns false'. Refute it at one input. -/
def exactAloneWrong : ChangeSpec := { name := "exactAlone", fn := fun _ => fun
  | [d1, d2, d3] => { results := [.lit (.bool false)], args := [d1, d2, d3] }
  | _ => none }
def ExactAloneWrongFalsely : Prop := exactAloneRow.holds Try.pinned (OpenSpec.ofChange exactAloneWrong)

/-- 'lodgerlaw18.ExactTwo': WHATEVER THE INPUT: true; the input reads as it did. -/
def exactTwoSpec : ChangeSpec := { name := "exactTwo", fn := fun _ => fun
  | [d1, d2, d3] => { results := [.lit (.bool true)], args := [d1, d2, d3] }
  | _ => none }
def exactTwoRow : OpenClaim := { program := "ytacgjaohfcoigaa", sum := "017ff8648f3f9fab499e8f70d93b8487545db8dd0d6462e5cb926b524272d79f", func := "lodger/lodgerlaw18.ExactTwo", spec := "exactTwo", unfollowed := true, recurses := true, apart := false }
def ExactTwoSaid : Prop := exactTwoRow.holds Try.pinned (OpenSpec.ofChange exactTwoSpec)

/-- ITS FALSE NEIGHBOUR: 'it returns false'. Refute it at one input. -/
def exactTwoWrong : ChangeSpec := { name := "exactTwo", fn := fun _ => fun
  | [d1, d2, d3] => { results := [.lit (.bool false)], args := [d1, d2, d3] }
  | _ => none }
def ExactTwoWrongFalsely : Prop := exactTwoRow.holds Try.pinned (OpenSpec.ofChange exactTwoWrong)

/- THE SECOND FORM. 'bulk': how many values and letters a reading holds, each counted each time it is reached (what is shared counts as often as it is met; a slice's spare places count too). A statement '..UptoSaid' is the law's where the arguments, and the package variables that the reading takes, are together of bulk at most 1048576: NARROWER than '..Said'. Prove '..Said' where nothing that the law and all that it calls make is longer than what came in: it says more and counts as full. Else prove '..UptoSaid'. A law counts once. -/
mutual
def uptoBulk {H : Type} : DataW H → Nat
  | .lit (.string bytes) => bytes.length + 1
  | .lit _ => 1
  | .nil => 1
  | .ptr d => uptoBulk d + 1
  | .slice elems spare => uptoBulkAll elems + uptoBulkAll spare + 1
  | .agg parts => uptoBulkAll parts + 1
  | .iface _ d => uptoBulk d + 1
  | .map entries => uptoBulkEntries entries + 1
  | .held _ => 1
def uptoBulkAll {H : Type} : List (DataW H) → Nat
  | [] => 0
  | d :: r => uptoBulk d + uptoBulkAll r
def uptoBulkEntries {H : Type} : List (Lit × DataW H) → Nat
  | [] => 0
  | x :: r => uptoBulkEntry x + uptoBulkEntries r
def uptoBulkEntry {H : Type} : Lit × DataW H → Nat
  | (.string bytes, d) => bytes.length + uptoBulk d + 1
  | (_, d) => uptoBulk d + 1
 end
def uptoSmall : (H : Type) → List (DataW H) → Bool := fun _ ds => decide (uptoBulkAll ds ≤ 1048576)
def OpenSpec.upto (s : _root_.Go.ChangeSpec) : _root_.Go.OpenSpec := { _root_.Go.OpenSpec.ofChange s with cond := some uptoSmall }

/-- 'lodgerlaw18.ExactOnce', WHERE WHAT IT READS IS OF BULK AT MOST 1048576: true; the input reads as it did. -/
def exactOnceUptoRow : OpenClaim := { program := "ytacgjaohfcoigaa", sum := "017ff8648f3f9fab499e8f70d93b8487545db8dd0d6462e5cb926b524272d79f", func := "lodger/lodgerlaw18.ExactOnce", spec := "exactOnce", unfollowed := true, recurses := true, apart := false, narrowed := true }
def ExactOnceUptoSaid : Prop := exactOnceUptoRow.holds Try.pinned (OpenSpec.upto exactOnceSpec)

/-- 'lodgerlaw18.ExactAlone', WHERE WHAT IT READS IS OF BULK AT MOST 1048576: true; the input reads as it did. -/
def exactAloneUptoRow : OpenClaim := { program := "ytacgjaohfcoigaa", sum := "017ff8648f3f9fab499e8f70d93b8487545db8dd0d6462e5cb926b524272d79f", func := "lodger/lodgerlaw18.ExactAlone", spec := "exactAlone", unfollowed := true, recurses := true, apart := false, narrowed := true }
def ExactAloneUptoSaid : Prop := exactAloneUptoRow.holds Try.pinned (OpenSpec.upto exactAloneSpec)

/-- 'lodgerlaw18.ExactTwo', WHERE WHAT IT READS IS OF BULK AT MOST 1048576: true; the input reads as it did. -/
def exactTwoUptoRow : OpenClaim := { program := "ytacgjaohfcoigaa", sum := "017ff8648f3f9fab499e8f70d93b8487545db8dd0d6462e5cb926b524272d79f", func := "lodger/lodgerlaw18.ExactTwo", spec := "exactTwo", unfollowed := true, recurses := true, apart := false, narrowed := true }
def ExactTwoUptoSaid : Prop := exactTwoUptoRow.holds Try.pinned (OpenSpec.upto exactTwoSpec)

end Rows
end Go.Proofs.Ytacgjaohfcoigaa
