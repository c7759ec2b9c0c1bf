/-
  NARROWER THAN 'FOR EVERY INPUT', by the rows' own cells (each row's printed sentence says how): SpecTells: laid · SpecLegal: laid · SpecBack: laid · SpecKeeps: laid · SpecFull: laid · SpecWhole: laid.
  DERIVED. THE GIVEN ROWS OF THIS SEAT. 6 by the template 'for every input the law returns true; each argument reads behind the call as it read before'; 0 by the template 'total and deterministic' (their statements: YtmakbmmnjbnfiaaDoorTotals.lean).
  GIVEN WITH THE SEED: the statements are not yours to turn. If you find one false, say at which input.
  Laid BY PROGRAM, IN A SANDBOX (cutbox-rows.mjs): the forced cells as the released guide's own fill.sh prints them over the translation 0411239605f2461e… (all of the seat's roots in one cut). By AI agents, Wed Nov 11 2026. No macro, syntax, notation, axiom, sorry.
-/
import Derived.Test.YtmakbmmnjbnfiaaDoorChecked
import GoSem.Claim
import GoSem.ClaimJoined
import GoSem.ClaimMapViews
import Derived.JoinedTies
import Derived.KernelRfl
namespace Go.Proofs.YtmakbmmnjbnfiaaDoor
/- THE CELL 'sum', in the pinned program and in every row, IS THE sha256 OF THE DUMP (.gsa) THAT YtmakbmmnjbnfiaaDoorProg.lean LOADS. Nothing in Lean hashes anything: it is a label: what it is worth is what the hold of that sum in a sandbox is worth. -/
noncomputable def Tryd.pinned : Pinned := { name := "ytmakbmmnjbnfiaadoor", sum := "0411239605f2461e61766ffcbd74afd50709c3ed0e94d0ef74a5b5b8608d6345", checked := Tryd.checked }
namespace Rows
def none {H : Type} : Left H := { results := [], args := [] }

/- WHAT THE LISTED PACKAGE-LEVEL VARIABLES READ AS WHEN THE CALL BEGINS. Each datum BY PROGRAM (the guide's laid-datum.mjs) off the statement by which the dump's own 'gosem.cut.vars' lays the variable. In a bare row this is a premise. The card (YtmakbmmnjbnfiaaDoorCards.lean) ties it to the program's text. -/
def laid_lodger_ask_namesOne {H : Type} : DataW H := .agg [.lit (.bool false), .lit (.bool false), .lit (.bool true), .lit (.bool true), .lit (.bool false), .lit (.bool true), .lit (.bool false), .lit (.bool false)]

/-- 'lodgerlaw11.SpecTells': WHATEVER THE INPUT: true; the input reads as it did. -/
def specTellsSpec : ChangeSpec := { name := "specTells", fn := fun _ => fun
  | [d1, d2, d3, d4] => { results := [.lit (.bool true)], args := [d1, d2, d3, d4] }
  | _ => none }
def specTellsRow : OpenClaim := { program := "ytmakbmmnjbnfiaadoor", sum := "0411239605f2461e61766ffcbd74afd50709c3ed0e94d0ef74a5b5b8608d6345", func := "lodger/lodgerlaw11.SpecTells", spec := "specTells", unfollowed := true, recurses := true, named := ["lodger/ask.namesOne"], apart := false, laid := [("lodger/ask.namesOne", laid_lodger_ask_namesOne)] }
def SpecTellsSaid : Prop := specTellsRow.holds Tryd.pinned (OpenSpec.ofChange specTellsSpec)

/-- ITS FALSE NEIGHBOUR: 'it returns false'. Refute it at one input. -/
def specTellsWrong : ChangeSpec := { name := "specTells", fn := fun _ => fun
  | [d1, d2, d3, d4] => { results := [.lit (.bool false)], args := [d1, d2, d3, d4] }
  | _ => none }
def SpecTellsWrongFalsely : Prop := specTellsRow.holds Tryd.pinned (OpenSpec.ofChange specTellsWrong)

/-- 'lodgerlaw11.SpecLegal': WHATEVER THE INPUT: true; the input reads as it did. -/
def specLegalSpec : ChangeSpec := { name := "specLegal", fn := fun _ => fun
  | [d1, d2, d3, d4] => { results := [.lit (.bool true)], args := [d1, d2, d3, d4] }
  | _ => none }
def specLegalRow : OpenClaim := { program := "ytmakbmmnjbnfiaadoor", sum := "0411239605f2461e61766ffcbd74afd50709c3ed0e94d0ef74a5b5b8608d6345", func := "lodger/lodgerlaw11.SpecLegal", spec := "specLegal", unfollowed := true, recurses := true, named := ["lodger/ask.namesOne"], apart := false, laid := [("lodger/ask.namesOne", laid_lodger_ask_namesOne)] }
def SpecLegalSaid : Prop := specLegalRow.holds Tryd.pinned (OpenSpec.ofChange specLegalSpec)

/-- ITS FALSE NEIGHBOUR: 'it returns false'. Refute it at one input. -/
def specLegalWrong : ChangeSpec := { name := "specLegal", fn := fun _ => fun
  | [d1, d2, d3, d4] => { results := [.lit (.bool false)], args := [d1, d2, d3, d4] }
  | _ => none }
def SpecLegalWrongFalsely : Prop := specLegalRow.holds Tryd.pinned (OpenSpec.ofChange specLegalWrong)

/-- 'lodgerlaw11.SpecBack': WHATEVER THE INPUT: true; the input reads as it did. -/
def specBackSpec : ChangeSpec := { name := "specBack", fn := fun _ => fun
  | [d1, d2, d3, d4] => { results := [.lit (.bool true)], args := [d1, d2, d3, d4] }
  | _ => none }
def specBackRow : OpenClaim := { program := "ytmakbmmnjbnfiaadoor", sum := "0411239605f2461e61766ffcbd74afd50709c3ed0e94d0ef74a5b5b8608d6345", func := "lodger/lodgerlaw11.SpecBack", spec := "specBack", unfollowed := true, recurses := true, named := ["lodger/ask.namesOne"], apart := false, laid := [("lodger/ask.namesOne", laid_lodger_ask_namesOne)] }
def SpecBackSaid : Prop := specBackRow.holds Tryd.pinned (OpenSpec.ofChange specBackSpec)

/-- ITS FALSE NEIGHBOUR: 'it returns false'. Refute it at one input. -/
def specBackWrong : ChangeSpec := { name := "specBack", fn := fun _ => fun
  | [d1, d2, d3, d4] => { results := [.lit (.bool false)], args := [d1, d2, d3, d4] }
  | _ => none }
def SpecBackWrongFalsely : Prop := specBackRow.holds Tryd.pinned (OpenSpec.ofChange specBackWrong)

/-- 'lodgerlaw11.SpecKeeps': WHATEVER THE INPUT: true; the input reads as it did. -/
def specKeepsSpec : ChangeSpec := { name := "specKeeps", fn := fun _ => fun
  | [d1, d2, d3, d4] => { results := [.lit (.bool true)], args := [d1, d2, d3, d4] }
  | _ => none }
def specKeepsRow : OpenClaim := { program := "ytmakbmmnjbnfiaadoor", sum := "0411239605f2461e61766ffcbd74afd50709c3ed0e94d0ef74a5b5b8608d6345", func := "lodger/lodgerlaw11.SpecKeeps", spec := "specKeeps", unfollowed := true, recurses := true, named := ["lodger/ask.namesOne"], apart := false, laid := [("lodger/ask.namesOne", laid_lodger_ask_namesOne)] }
def SpecKeepsSaid : Prop := specKeepsRow.holds Tryd.pinned (OpenSpec.ofChange specKeepsSpec)

/-- ITS FALSE NEIGHBOUR: 'it returns false'. Refute it at one input. -/
def specKeepsWrong : ChangeSpec := { name := "specKeeps", fn := fun _ => fun
  | [d1, d2, d3, d4] => { results := [.lit (.bool false)], args := [d1, d2, d3, d4] }
  | _ => none }
def SpecKeepsWrongFalsely : Prop := specKeepsRow.holds Tryd.pinned (OpenSpec.ofChange specKeepsWrong)

/-- 'lodgerlaw11.SpecFull': WHATEVER THE INPUT: true; the input reads as it did. -/
def specFullSpec : ChangeSpec := { name := "specFull", fn := fun _ => fun
  | [d1, d2] => { results := [.lit (.bool true)], args := [d1, d2] }
  | _ => none }
def specFullRow : OpenClaim := { program := "ytmakbmmnjbnfiaadoor", sum := "0411239605f2461e61766ffcbd74afd50709c3ed0e94d0ef74a5b5b8608d6345", func := "lodger/lodgerlaw11.SpecFull", spec := "specFull", unfollowed := true, recurses := true, named := ["lodger/ask.namesOne"], apart := false, laid := [("lodger/ask.namesOne", laid_lodger_ask_namesOne)] }
def SpecFullSaid : Prop := specFullRow.holds Tryd.pinned (OpenSpec.ofChange specFullSpec)

/-- ITS FALSE NEIGHBOUR: 'it returns false'. Refute it at one input. -/
def specFullWrong : ChangeSpec := { name := "specFull", fn := fun _ => fun
  | [d1, d2] => { results := [.lit (.bool false)], args := [d1, d2] }
  | _ => none }
def SpecFullWrongFalsely : Prop := specFullRow.holds Tryd.pinned (OpenSpec.ofChange specFullWrong)

/-- 'lodgerlaw11.SpecWhole': WHATEVER THE INPUT: true; the input reads as it did. -/
def specWholeSpec : ChangeSpec := { name := "specWhole", fn := fun _ => fun
  | [d1, d2, d3, d4] => { results := [.lit (.bool true)], args := [d1, d2, d3, d4] }
  | _ => none }
def specWholeRow : OpenClaim := { program := "ytmakbmmnjbnfiaadoor", sum := "0411239605f2461e61766ffcbd74afd50709c3ed0e94d0ef74a5b5b8608d6345", func := "lodger/lodgerlaw11.SpecWhole", spec := "specWhole", unfollowed := true, recurses := true, named := ["lodger/ask.namesOne"], apart := false, laid := [("lodger/ask.namesOne", laid_lodger_ask_namesOne)] }
def SpecWholeSaid : Prop := specWholeRow.holds Tryd.pinned (OpenSpec.ofChange specWholeSpec)

/-- ITS FALSE NEIGHBOUR: 'it returns false'. Refute it at one input. -/
def specWholeWrong : ChangeSpec := { name := "specWhole", fn := fun _ => fun
  | [d1, d2, d3, d4] => { results := [.lit (.bool false)], args := [d1, d2, d3, d4] }
  | _ => none }
def SpecWholeWrongFalsely : Prop := specWholeRow.holds Tryd.pinned (OpenSpec.ofChange specWholeWrong)

/- THE SECOND FORM. 'bulk': how many values and letters a reading holds, each counted each time it is reached (what is shared counts as often as it is met; a slice's spare places count too). A statement '..UptoSaid' is the law's where the arguments, and the package variables that the reading takes, are together of bulk at most 1048576: NARROWER than '..Said'. Prove '..Said' where nothing that the law and all that it calls make is longer than what came in: it says more and counts as full. Else prove '..UptoSaid'. A law counts once. -/
mutual
def uptoBulk {H : Type} : DataW H → Nat
  | .lit (.string bytes) => bytes.length + 1
  | .lit _ => 1
  | .nil => 1
  | .ptr d => uptoBulk d + 1
  | .slice elems spare => uptoBulkAll elems + uptoBulkAll spare + 1
  | .agg parts => uptoBulkAll parts + 1
  | .iface _ d => uptoBulk d + 1
  | .map entries => uptoBulkEntries entries + 1
  | .held _ => 1
def uptoBulkAll {H : Type} : List (DataW H) → Nat
  | [] => 0
  | d :: r => uptoBulk d + uptoBulkAll r
def uptoBulkEntries {H : Type} : List (Lit × DataW H) → Nat
  | [] => 0
  | x :: r => uptoBulkEntry x + uptoBulkEntries r
def uptoBulkEntry {H : Type} : Lit × DataW H → Nat
  | (.string bytes, d) => bytes.length + uptoBulk d + 1
  | (_, d) => uptoBulk d + 1
 end
def uptoSmall : (H : Type) → List (DataW H) → Bool := fun _ ds => decide (uptoBulkAll ds ≤ 1048576)
def OpenSpec.upto (s : _root_.Go.ChangeSpec) : _root_.Go.OpenSpec := { _root_.Go.OpenSpec.ofChange s with cond := some uptoSmall }

/-- 'lodgerlaw11.SpecTells', WHERE WHAT IT READS IS OF BULK AT MOST 1048576: true; the input reads as it did. -/
def specTellsUptoRow : OpenClaim := { program := "ytmakbmmnjbnfiaadoor", sum := "0411239605f2461e61766ffcbd74afd50709c3ed0e94d0ef74a5b5b8608d6345", func := "lodger/lodgerlaw11.SpecTells", spec := "specTells", unfollowed := true, recurses := true, named := ["lodger/ask.namesOne"], apart := false, laid := [("lodger/ask.namesOne", laid_lodger_ask_namesOne)], narrowed := true }
def SpecTellsUptoSaid : Prop := specTellsUptoRow.holds Tryd.pinned (OpenSpec.upto specTellsSpec)

/-- 'lodgerlaw11.SpecLegal', WHERE WHAT IT READS IS OF BULK AT MOST 1048576: true; the input reads as it did. -/
def specLegalUptoRow : OpenClaim := { program := "ytmakbmmnjbnfiaadoor", sum := "0411239605f2461e61766ffcbd74afd50709c3ed0e94d0ef74a5b5b8608d6345", func := "lodger/lodgerlaw11.SpecLegal", spec := "specLegal", unfollowed := true, recurses := true, named := ["lodger/ask.namesOne"], apart := false, laid := [("lodger/ask.namesOne", laid_lodger_ask_namesOne)], narrowed := true }
def SpecLegalUptoSaid : Prop := specLegalUptoRow.holds Tryd.pinned (OpenSpec.upto specLegalSpec)

/-- 'lodgerlaw11.SpecBack', WHERE WHAT IT READS IS OF BULK AT MOST 1048576: true; the input reads as it did. -/
def specBackUptoRow : OpenClaim := { program := "ytmakbmmnjbnfiaadoor", sum := "0411239605f2461e61766ffcbd74afd50709c3ed0e94d0ef74a5b5b8608d6345", func := "lodger/lodgerlaw11.SpecBack", spec := "specBack", unfollowed := true, recurses := true, named := ["lodger/ask.namesOne"], apart := false, laid := [("lodger/ask.namesOne", laid_lodger_ask_namesOne)], narrowed := true }
def SpecBackUptoSaid : Prop := specBackUptoRow.holds Tryd.pinned (OpenSpec.upto specBackSpec)

/-- 'lodgerlaw11.SpecKeeps', WHERE WHAT IT READS IS OF BULK AT MOST 1048576: true; the input reads as it did. -/
def specKeepsUptoRow : OpenClaim := { program := "ytmakbmmnjbnfiaadoor", sum := "0411239605f2461e61766ffcbd74afd50709c3ed0e94d0ef74a5b5b8608d6345", func := "lodger/lodgerlaw11.SpecKeeps", spec := "specKeeps", unfollowed := true, recurses := true, named := ["lodger/ask.namesOne"], apart := false, laid := [("lodger/ask.namesOne", laid_lodger_ask_namesOne)], narrowed := true }
def SpecKeepsUptoSaid : Prop := specKeepsUptoRow.holds Tryd.pinned (OpenSpec.upto specKeepsSpec)

/-- 'lodgerlaw11.SpecFull', WHERE WHAT IT READS IS OF BULK AT MOST 1048576: true; the input reads as it did. -/
def specFullUptoRow : OpenClaim := { program := "ytmakbmmnjbnfiaadoor", sum := "0411239605f2461e61766ffcbd74afd50709c3ed0e94d0ef74a5b5b8608d6345", func := "lodger/lodgerlaw11.SpecFull", spec := "specFull", unfollowed := true, recurses := true, named := ["lodger/ask.namesOne"], apart := false, laid := [("lodger/ask.namesOne", laid_lodger_ask_namesOne)], narrowed := true }
def SpecFullUptoSaid : Prop := specFullUptoRow.holds Tryd.pinned (OpenSpec.upto specFullSpec)

/-- 'lodgerlaw11.SpecWhole', WHERE WHAT IT READS IS OF BULK AT MOST 1048576: true; the input reads as it did. -/
def specWholeUptoRow : OpenClaim := { program := "ytmakbmmnjbnfiaadoor", sum := "0411239605f2461e61766ffcbd74afd50709c3ed0e94d0ef74a5b5b8608d6345", func := "lodger/lodgerlaw11.SpecWhole", spec := "specWhole", unfollowed := true, recurses := true, named := ["lodger/ask.namesOne"], apart := false, laid := [("lodger/ask.namesOne", laid_lodger_ask_namesOne)], narrowed := true }
def SpecWholeUptoSaid : Prop := specWholeUptoRow.holds Tryd.pinned (OpenSpec.upto specWholeSpec)

end Rows
end Go.Proofs.YtmakbmmnjbnfiaaDoor
