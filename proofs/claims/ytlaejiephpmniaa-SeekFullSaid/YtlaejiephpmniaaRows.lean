/-
  No cell of these rows narrows 'for every input' (looked for: loops, veiled, ifaces, maps, wideKeys, modest, calm, conditions, laid).
  DERIVED. THE GIVEN ROWS OF THIS SEAT. 4 by the template 'for every input the law returns true; each argument reads behind the call as it read before'; 0 by the template 'total and deterministic' (their statements: YtlaejiephpmniaaTotals.lean).
  GIVEN WITH THE SEED: the statements are not yours to turn. If you find one false, say at which input.
  Laid BY PROGRAM, IN A SANDBOX (cutbox-rows.mjs): the forced cells as the released guide's own fill.sh prints them over the translation 216fa36dbef41a5f… (all of the seat's roots in one cut). By AI agents, Wed Nov 11 2026. No macro, syntax, notation, axiom, sorry.
-/
import Derived.Test.YtlaejiephpmniaaChecked
import GoSem.Claim
import GoSem.ClaimJoined
import GoSem.ClaimMapViews
import Derived.JoinedTies
import Derived.KernelRfl
namespace Go.Proofs.Ytlaejiephpmniaa
/- THE CELL 'sum', in the pinned program and in every row, IS THE sha256 OF THE DUMP (.gsa) THAT YtlaejiephpmniaaProg.lean LOADS. Nothing in Lean hashes anything: it is a label: what it is worth is what the hold of that sum in a sandbox is worth. -/
noncomputable def Try.pinned : Pinned := { name := "ytlaejiephpmniaa", sum := "216fa36dbef41a5f71878b6ffa2a78e41c1fcba3f0d92e46db43042ea38dbc66", checked := Try.checked }
namespace Rows
def none {H : Type} : Left H := { results := [], args := [] }

/-- 'lodgerlaw15.SeekEnds': WHATEVER THE INPUT: true; the input reads as it did. -/
def seekEndsSpec : ChangeSpec := { name := "seekEnds", fn := fun _ => fun
  | [d1, d2, d3] => { results := [.lit (.bool true)], args := [d1, d2, d3] }
  | _ => none }
def seekEndsRow : OpenClaim := { program := "ytlaejiephpmniaa", sum := "216fa36dbef41a5f71878b6ffa2a78e41c1fcba3f0d92e46db43042ea38dbc66", func := "lodger/lodgerlaw15.SeekEnds", spec := "seekEnds", unfollowed := true, recurses := true, apart := false }
def SeekEndsSaid : Prop := seekEndsRow.holds Try.pinned (OpenSpec.ofChange seekEndsSpec)

/-- ITS FALSE NEIGHBOUR: 'it returns false'. Refute it at one input. -/
def seekEndsWrong : ChangeSpec := { name := "seekEnds", fn := fun _ => fun
  | [d1, d2, d3] => { results := [.lit (.bool false)], args := [d1, d2, d3] }
  | _ => none }
def SeekEndsWrongFalsely : Prop := seekEndsRow.holds Try.pinned (OpenSpec.ofChange seekEndsWrong)

/-- 'lodgerlaw15.SeekNext': WHATEVER THE INPUT: true; the input reads as it did. -/
def seekNextSpec : ChangeSpec := { name := "seekNext", fn := fun _ => fun
  | [d1, d2, d3] => { results := [.lit (.bool true)], args := [d1, d2, d3] }
  | _ => none }
def seekNextRow : OpenClaim := { program := "ytlaejiephpmniaa", sum := "216fa36dbef41a5f71878b6ffa2a78e41c1fcba3f0d92e46db43042ea38dbc66", func := "lodger/lodgerlaw15.SeekNext", spec := "seekNext", unfollowed := true, recurses := true, apart := false }
def SeekNextSaid : Prop := seekNextRow.holds Try.pinned (OpenSpec.ofChange seekNextSpec)

/-- ITS FALSE NEIGHBOUR: 'it returns false'. Refute it at one input. -/
def seekNextWrong : ChangeSpec := { name := "seekNext", fn := fun _ => fun
  | [d1, d2, d3] => { results := [.lit (.bool false)], args := [d1, d2, d3] }
  | _ => none }
def SeekNextWrongFalsely : Prop := seekNextRow.holds Try.pinned (OpenSpec.ofChange seekNextWrong)

/-- 'lodgerlaw15.SeekStays': WHATEVER THE INPUT: true; the input reads as it did. -/
def seekStaysSpec : ChangeSpec := { name := "seekStays", fn := fun _ => fun
  | [d1, d2, d3] => { results := [.lit (.bool true)], args := [d1, d2, d3] }
  | _ => none }
def seekStaysRow : OpenClaim := { program := "ytlaejiephpmniaa", sum := "216fa36dbef41a5f71878b6ffa2a78e41c1fcba3f0d92e46db43042ea38dbc66", func := "lodger/lodgerlaw15.SeekStays", spec := "seekStays", unfollowed := true, recurses := true, apart := false }
def SeekStaysSaid : Prop := seekStaysRow.holds Try.pinned (OpenSpec.ofChange seekStaysSpec)

/-- ITS FALSE NEIGHBOUR: 'it returns false'. Refute it at one input. -/
def seekStaysWrong : ChangeSpec := { name := "seekStays", fn := fun _ => fun
  | [d1, d2, d3] => { results := [.lit (.bool false)], args := [d1, d2, d3] }
  | _ => none }
def SeekStaysWrongFalsely : Prop := seekStaysRow.holds Try.pinned (OpenSpec.ofChange seekStaysWrong)

/-- 'lodgerlaw15.SeekFull': WHATEVER THE INPUT: true; the input reads as it did. -/
def seekFullSpec : ChangeSpec := { name := "seekFull", fn := fun _ => fun
  | [d1, d2, d3] => { results := [.lit (.bool true)], args := [d1, d2, d3] }
  | _ => none }
def seekFullRow : OpenClaim := { program := "ytlaejiephpmniaa", sum := "216fa36dbef41a5f71878b6ffa2a78e41c1fcba3f0d92e46db43042ea38dbc66", func := "lodger/lodgerlaw15.SeekFull", spec := "seekFull", unfollowed := true, recurses := true, apart := false }
def SeekFullSaid : Prop := seekFullRow.holds Try.pinned (OpenSpec.ofChange seekFullSpec)

/-- ITS FALSE NEIGHBOUR: 'it returns false'. Refute it at one input. -/
def seekFullWrong : ChangeSpec := { name := "seekFull", fn := fun _ => fun
  | [d1, d2, d3] => { results := [.lit (.bool false)], args := [d1, d2, d3] }
  | _ => none }
def SeekFullWrongFalsely : Prop := seekFullRow.holds Try.pinned (OpenSpec.ofChange seekFullWrong)

/- THE SECOND FORM. 'bulk': how many values and letters a reading holds, each counted each time it is reached (what is shared counts as often as it is met; a slice's spare places count too). A statement '..UptoSaid' is the law's where the arguments, and the package variables that the reading takes, are together of bulk at most 1048576: NARROWER than '..Said'. Prove '..Said' where nothing that the law and all that it calls make is longer than what came in: it says more and counts as full. Else prove '..UptoSaid'. A law counts once. -/
mutual
def uptoBulk {H : Type} : DataW H → Nat
  | .lit (.string bytes) => bytes.length + 1
  | .lit _ => 1
  | .nil => 1
  | .ptr d => uptoBulk d + 1
  | .slice elems spare => uptoBulkAll elems + uptoBulkAll spare + 1
  | .agg parts => uptoBulkAll parts + 1
  | .iface _ d => uptoBulk d + 1
  | .map entries => uptoBulkEntries entries + 1
  | .held _ => 1
def uptoBulkAll {H : Type} : List (DataW H) → Nat
  | [] => 0
  | d :: r => uptoBulk d + uptoBulkAll r
def uptoBulkEntries {H : Type} : List (Lit × DataW H) → Nat
  | [] => 0
  | x :: r => uptoBulkEntry x + uptoBulkEntries r
def uptoBulkEntry {H : Type} : Lit × DataW H → Nat
  | (.string bytes, d) => bytes.length + uptoBulk d + 1
  | (_, d) => uptoBulk d + 1
 end
def uptoSmall : (H : Type) → List (DataW H) → Bool := fun _ ds => decide (uptoBulkAll ds ≤ 1048576)
def OpenSpec.upto (s : _root_.Go.ChangeSpec) : _root_.Go.OpenSpec := { _root_.Go.OpenSpec.ofChange s with cond := some uptoSmall }

/-- 'lodgerlaw15.SeekEnds', WHERE WHAT IT READS IS OF BULK AT MOST 1048576: true; the input reads as it did. -/
def seekEndsUptoRow : OpenClaim := { program := "ytlaejiephpmniaa", sum := "216fa36dbef41a5f71878b6ffa2a78e41c1fcba3f0d92e46db43042ea38dbc66", func := "lodger/lodgerlaw15.SeekEnds", spec := "seekEnds", unfollowed := true, recurses := true, apart := false, narrowed := true }
def SeekEndsUptoSaid : Prop := seekEndsUptoRow.holds Try.pinned (OpenSpec.upto seekEndsSpec)

/-- 'lodgerlaw15.SeekNext', WHERE WHAT IT READS IS OF BULK AT MOST 1048576: true; the input reads as it did. -/
def seekNextUptoRow : OpenClaim := { program := "ytlaejiephpmniaa", sum := "216fa36dbef41a5f71878b6ffa2a78e41c1fcba3f0d92e46db43042ea38dbc66", func := "lodger/lodgerlaw15.SeekNext", spec := "seekNext", unfollowed := true, recurses := true, apart := false, narrowed := true }
def SeekNextUptoSaid : Prop := seekNextUptoRow.holds Try.pinned (OpenSpec.upto seekNextSpec)

/-- 'lodgerlaw15.SeekStays', WHERE WHAT IT READS IS OF BULK AT MOST 1048576: true; the input reads as it did. -/
def seekStaysUptoRow : OpenClaim := { program := "ytlaejiephpmniaa", sum := "216fa36dbef41a5f71878b6ffa2a78e41c1fcba3f0d92e46db43042ea38dbc66", func := "lodger/lodgerlaw15.SeekStays", spec := "seekStays", unfollowed := true, recurses := true, apart := false, narrowed := true }
def SeekStaysUptoSaid : Prop := seekStaysUptoRow.holds Try.pinned (OpenSpec.upto seekStaysSpec)

/-- 'lodgerlaw15.SeekFull', WHERE WHAT IT READS IS OF BULK AT MOST 1048576: true; the input reads as it did. -/
def seekFullUptoRow : OpenClaim := { program := "ytlaejiephpmniaa", sum := "216fa36dbef41a5f71878b6ffa2a78e41c1fcba3f0d92e46db43042ea38dbc66", func := "lodger/lodgerlaw15.SeekFull", spec := "seekFull", unfollowed := true, recurses := true, apart := false, narrowed := true }
def SeekFullUptoSaid : Prop := seekFullUptoRow.holds Try.pinned (OpenSpec.upto seekFullSpec)

end Rows
end Go.Proofs.Ytlaejiephpmniaa
