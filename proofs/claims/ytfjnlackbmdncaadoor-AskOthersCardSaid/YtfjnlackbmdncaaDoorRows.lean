/-
  NARROWER THAN 'FOR EVERY INPUT', by the rows' own cells (each row's printed sentence says how): AskChecks: laid · AskFirst: laid · AskOthers: laid · AskKeeps: laid · AskOne: laid.
  DERIVED. THE GIVEN ROWS OF THIS SEAT. 5 by the template 'for every input the law returns true; each argument reads behind the call as it read before'; 0 by the template 'total and deterministic' (their statements: YtfjnlackbmdncaaDoorTotals.lean).
  GIVEN WITH THE SEED: the statements are not yours to turn. If you find one false, say at which input.
  Laid BY PROGRAM, IN A SANDBOX (cutbox-rows.mjs): the forced cells as the released guide's own fill.sh prints them over the translation a5d48a7799154c4f… (all of the seat's roots in one cut). By AI agents, Wed Nov 11 2026. No macro, syntax, notation, axiom, sorry.
-/
import Derived.Test.YtfjnlackbmdncaaDoorChecked
import GoSem.Claim
import GoSem.ClaimJoined
import GoSem.ClaimMapViews
import Derived.JoinedTies
import Derived.KernelRfl
namespace Go.Proofs.YtfjnlackbmdncaaDoor
/- THE CELL 'sum', in the pinned program and in every row, IS THE sha256 OF THE DUMP (.gsa) THAT YtfjnlackbmdncaaDoorProg.lean LOADS. Nothing in Lean hashes anything: it is a label: what it is worth is what the hold of that sum in a sandbox is worth. -/
noncomputable def Tryd.pinned : Pinned := { name := "ytfjnlackbmdncaadoor", sum := "a5d48a7799154c4fac8436f0e365f1d8cd5b2db9a47ebeddb188f399f2eb3af2", checked := Tryd.checked }
namespace Rows
def none {H : Type} : Left H := { results := [], args := [] }

/- WHAT THE LISTED PACKAGE-LEVEL VARIABLES READ AS WHEN THE CALL BEGINS. Each datum BY PROGRAM (the guide's laid-datum.mjs) off the statement by which the dump's own 'gosem.cut.vars' lays the variable. In a bare row this is a premise. The card (YtfjnlackbmdncaaDoorCards.lean) ties it to the program's text. -/
def laid_lodger_ask_namesOne {H : Type} : DataW H := .agg [.lit (.bool false), .lit (.bool false), .lit (.bool true), .lit (.bool true), .lit (.bool false), .lit (.bool true), .lit (.bool false), .lit (.bool false)]

/-- 'lodgerlaw10.AskChecks': WHATEVER THE INPUT: true; the input reads as it did. -/
def askChecksSpec : ChangeSpec := { name := "askChecks", fn := fun _ => fun
  | [d1, d2, d3] => { results := [.lit (.bool true)], args := [d1, d2, d3] }
  | _ => none }
def askChecksRow : OpenClaim := { program := "ytfjnlackbmdncaadoor", sum := "a5d48a7799154c4fac8436f0e365f1d8cd5b2db9a47ebeddb188f399f2eb3af2", func := "lodger/lodgerlaw10.AskChecks", spec := "askChecks", named := ["lodger/ask.namesOne"], apart := false, laid := [("lodger/ask.namesOne", laid_lodger_ask_namesOne)] }
def AskChecksSaid : Prop := askChecksRow.holds Tryd.pinned (OpenSpec.ofChange askChecksSpec)

/-- ITS FALSE NEIGHBOUR: 'it returns false'. Refute it at one input. -/
def askChecksWrong : ChangeSpec := { name := "askChecks", fn := fun _ => fun
  | [d1, d2, d3] => { results := [.lit (.bool false)], args := [d1, d2, d3] }
  | _ => none }
def AskChecksWrongFalsely : Prop := askChecksRow.holds Tryd.pinned (OpenSpec.ofChange askChecksWrong)

/-- 'lodgerlaw10.AskFirst': WHATEVER THE INPUT: true; the input reads as it did. -/
def askFirstSpec : ChangeSpec := { name := "askFirst", fn := fun _ => fun
  | [d1, d2, d3] => { results := [.lit (.bool true)], args := [d1, d2, d3] }
  | _ => none }
def askFirstRow : OpenClaim := { program := "ytfjnlackbmdncaadoor", sum := "a5d48a7799154c4fac8436f0e365f1d8cd5b2db9a47ebeddb188f399f2eb3af2", func := "lodger/lodgerlaw10.AskFirst", spec := "askFirst", named := ["lodger/ask.namesOne"], apart := false, laid := [("lodger/ask.namesOne", laid_lodger_ask_namesOne)] }
def AskFirstSaid : Prop := askFirstRow.holds Tryd.pinned (OpenSpec.ofChange askFirstSpec)

/-- ITS FALSE NEIGHBOUR: 'it returns false'. Refute it at one input. -/
def askFirstWrong : ChangeSpec := { name := "askFirst", fn := fun _ => fun
  | [d1, d2, d3] => { results := [.lit (.bool false)], args := [d1, d2, d3] }
  | _ => none }
def AskFirstWrongFalsely : Prop := askFirstRow.holds Tryd.pinned (OpenSpec.ofChange askFirstWrong)

/-- 'lodgerlaw10.AskOthers': WHATEVER THE INPUT: true; the input reads as it did. -/
def askOthersSpec : ChangeSpec := { name := "askOthers", fn := fun _ => fun
  | [d1, d2, d3, d4] => { results := [.lit (.bool true)], args := [d1, d2, d3, d4] }
  | _ => none }
def askOthersRow : OpenClaim := { program := "ytfjnlackbmdncaadoor", sum := "a5d48a7799154c4fac8436f0e365f1d8cd5b2db9a47ebeddb188f399f2eb3af2", func := "lodger/lodgerlaw10.AskOthers", spec := "askOthers", named := ["lodger/ask.namesOne"], apart := false, laid := [("lodger/ask.namesOne", laid_lodger_ask_namesOne)] }
def AskOthersSaid : Prop := askOthersRow.holds Tryd.pinned (OpenSpec.ofChange askOthersSpec)

/-- ITS FALSE NEIGHBOUR: 'it returns false'. Refute it at one input. -/
def askOthersWrong : ChangeSpec := { name := "askOthers", fn := fun _ => fun
  | [d1, d2, d3, d4] => { results := [.lit (.bool false)], args := [d1, d2, d3, d4] }
  | _ => none }
def AskOthersWrongFalsely : Prop := askOthersRow.holds Tryd.pinned (OpenSpec.ofChange askOthersWrong)

/-- 'lodgerlaw10.AskKeeps': WHATEVER THE INPUT: true; the input reads as it did. -/
def askKeepsSpec : ChangeSpec := { name := "askKeeps", fn := fun _ => fun
  | [d1, d2] => { results := [.lit (.bool true)], args := [d1, d2] }
  | _ => none }
def askKeepsRow : OpenClaim := { program := "ytfjnlackbmdncaadoor", sum := "a5d48a7799154c4fac8436f0e365f1d8cd5b2db9a47ebeddb188f399f2eb3af2", func := "lodger/lodgerlaw10.AskKeeps", spec := "askKeeps", named := ["lodger/ask.namesOne"], apart := false, laid := [("lodger/ask.namesOne", laid_lodger_ask_namesOne)] }
def AskKeepsSaid : Prop := askKeepsRow.holds Tryd.pinned (OpenSpec.ofChange askKeepsSpec)

/-- ITS FALSE NEIGHBOUR: 'it returns false'. Refute it at one input. -/
def askKeepsWrong : ChangeSpec := { name := "askKeeps", fn := fun _ => fun
  | [d1, d2] => { results := [.lit (.bool false)], args := [d1, d2] }
  | _ => none }
def AskKeepsWrongFalsely : Prop := askKeepsRow.holds Tryd.pinned (OpenSpec.ofChange askKeepsWrong)

/-- 'lodgerlaw10.AskOne': WHATEVER THE INPUT: true; the input reads as it did. -/
def askOneSpec : ChangeSpec := { name := "askOne", fn := fun _ => fun
  | [d1, d2] => { results := [.lit (.bool true)], args := [d1, d2] }
  | _ => none }
def askOneRow : OpenClaim := { program := "ytfjnlackbmdncaadoor", sum := "a5d48a7799154c4fac8436f0e365f1d8cd5b2db9a47ebeddb188f399f2eb3af2", func := "lodger/lodgerlaw10.AskOne", spec := "askOne", named := ["lodger/ask.namesOne"], apart := false, laid := [("lodger/ask.namesOne", laid_lodger_ask_namesOne)] }
def AskOneSaid : Prop := askOneRow.holds Tryd.pinned (OpenSpec.ofChange askOneSpec)

/-- ITS FALSE NEIGHBOUR: 'it returns false'. Refute it at one input. -/
def askOneWrong : ChangeSpec := { name := "askOne", fn := fun _ => fun
  | [d1, d2] => { results := [.lit (.bool false)], args := [d1, d2] }
  | _ => none }
def AskOneWrongFalsely : Prop := askOneRow.holds Tryd.pinned (OpenSpec.ofChange askOneWrong)

/- THE SECOND FORM. 'bulk': how many values and letters a reading holds, each counted each time it is reached (what is shared counts as often as it is met; a slice's spare places count too). A statement '..UptoSaid' is the law's where the arguments, and the package variables that the reading takes, are together of bulk at most 1048576: NARROWER than '..Said'. Prove '..Said' where nothing that the law and all that it calls make is longer than what came in: it says more and counts as full. Else prove '..UptoSaid'. A law counts once. -/
mutual
def uptoBulk {H : Type} : DataW H → Nat
  | .lit (.string bytes) => bytes.length + 1
  | .lit _ => 1
  | .nil => 1
  | .ptr d => uptoBulk d + 1
  | .slice elems spare => uptoBulkAll elems + uptoBulkAll spare + 1
  | .agg parts => uptoBulkAll parts + 1
  | .iface _ d => uptoBulk d + 1
  | .map entries => uptoBulkEntries entries + 1
  | .held _ => 1
def uptoBulkAll {H : Type} : List (DataW H) → Nat
  | [] => 0
  | d :: r => uptoBulk d + uptoBulkAll r
def uptoBulkEntries {H : Type} : List (Lit × DataW H) → Nat
  | [] => 0
  | x :: r => uptoBulkEntry x + uptoBulkEntries r
def uptoBulkEntry {H : Type} : Lit × DataW H → Nat
  | (.string bytes, d) => bytes.length + uptoBulk d + 1
  | (_, d) => uptoBulk d + 1
 end
def uptoSmall : (H : Type) → List (DataW H) → Bool := fun _ ds => decide (uptoBulkAll ds ≤ 1048576)
def OpenSpec.upto (s : _root_.Go.ChangeSpec) : _root_.Go.OpenSpec := { _root_.Go.OpenSpec.ofChange s with cond := some uptoSmall }

/-- 'lodgerlaw10.AskChecks', WHERE WHAT IT READS IS OF BULK AT MOST 1048576: true; the input reads as it did. -/
def askChecksUptoRow : OpenClaim := { program := "ytfjnlackbmdncaadoor", sum := "a5d48a7799154c4fac8436f0e365f1d8cd5b2db9a47ebeddb188f399f2eb3af2", func := "lodger/lodgerlaw10.AskChecks", spec := "askChecks", named := ["lodger/ask.namesOne"], apart := false, laid := [("lodger/ask.namesOne", laid_lodger_ask_namesOne)], narrowed := true }
def AskChecksUptoSaid : Prop := askChecksUptoRow.holds Tryd.pinned (OpenSpec.upto askChecksSpec)

/-- 'lodgerlaw10.AskFirst', WHERE WHAT IT READS IS OF BULK AT MOST 1048576: true; the input reads as it did. -/
def askFirstUptoRow : OpenClaim := { program := "ytfjnlackbmdncaadoor", sum := "a5d48a7799154c4fac8436f0e365f1d8cd5b2db9a47ebeddb188f399f2eb3af2", func := "lodger/lodgerlaw10.AskFirst", spec := "askFirst", named := ["lodger/ask.namesOne"], apart := false, laid := [("lodger/ask.namesOne", laid_lodger_ask_namesOne)], narrowed := true }
def AskFirstUptoSaid : Prop := askFirstUptoRow.holds Tryd.pinned (OpenSpec.upto askFirstSpec)

/-- 'lodgerlaw10.AskOthers', WHERE WHAT IT READS IS OF BULK AT MOST 1048576: true; the input reads as it did. -/
def askOthersUptoRow : OpenClaim := { program := "ytfjnlackbmdncaadoor", sum := "a5d48a7799154c4fac8436f0e365f1d8cd5b2db9a47ebeddb188f399f2eb3af2", func := "lodger/lodgerlaw10.AskOthers", spec := "askOthers", named := ["lodger/ask.namesOne"], apart := false, laid := [("lodger/ask.namesOne", laid_lodger_ask_namesOne)], narrowed := true }
def AskOthersUptoSaid : Prop := askOthersUptoRow.holds Tryd.pinned (OpenSpec.upto askOthersSpec)

/-- 'lodgerlaw10.AskKeeps', WHERE WHAT IT READS IS OF BULK AT MOST 1048576: true; the input reads as it did. -/
def askKeepsUptoRow : OpenClaim := { program := "ytfjnlackbmdncaadoor", sum := "a5d48a7799154c4fac8436f0e365f1d8cd5b2db9a47ebeddb188f399f2eb3af2", func := "lodger/lodgerlaw10.AskKeeps", spec := "askKeeps", named := ["lodger/ask.namesOne"], apart := false, laid := [("lodger/ask.namesOne", laid_lodger_ask_namesOne)], narrowed := true }
def AskKeepsUptoSaid : Prop := askKeepsUptoRow.holds Tryd.pinned (OpenSpec.upto askKeepsSpec)

/-- 'lodgerlaw10.AskOne', WHERE WHAT IT READS IS OF BULK AT MOST 1048576: true; the input reads as it did. -/
def askOneUptoRow : OpenClaim := { program := "ytfjnlackbmdncaadoor", sum := "a5d48a7799154c4fac8436f0e365f1d8cd5b2db9a47ebeddb188f399f2eb3af2", func := "lodger/lodgerlaw10.AskOne", spec := "askOne", named := ["lodger/ask.namesOne"], apart := false, laid := [("lodger/ask.namesOne", laid_lodger_ask_namesOne)], narrowed := true }
def AskOneUptoSaid : Prop := askOneUptoRow.holds Tryd.pinned (OpenSpec.upto askOneSpec)

end Rows
end Go.Proofs.YtfjnlackbmdncaaDoor
