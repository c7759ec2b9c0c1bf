/-
  NARROWER THAN 'FOR EVERY INPUT', by the rows' own cells (each row's printed sentence says how): PoolOne: laid · PoolAlone: laid · PoolMost: laid · PoolTold: laid.
  DERIVED. THE GIVEN ROWS OF THIS SEAT. 4 by the template 'for every input the law returns true; each argument reads behind the call as it read before'; 0 by the template 'total and deterministic' (their statements: YtfhefofkhmkcnaaGreatDoorTotals.lean).
  GIVEN WITH THE SEED: the statements are not yours to turn. If you find one false, say at which input.
  Laid BY PROGRAM, IN A SANDBOX (cutbox-rows.mjs): the forced cells as the released guide's own fill.sh prints them over the translation 38b18ef1c877e2b5… (all of the seat's roots in one cut). By AI agents, Wed Nov 11 2026. No macro, syntax, notation, axiom, sorry.
-/
import Derived.Test.YtfhefofkhmkcnaaGreatDoorChecked
import GoSem.Claim
import GoSem.ClaimJoined
import GoSem.ClaimMapViews
import Derived.JoinedTies
import Derived.KernelRfl
namespace Go.Proofs.YtfhefofkhmkcnaaGreatDoor
/- THE CELL 'sum', in the pinned program and in every row, IS THE sha256 OF THE DUMP (.gsa) THAT YtfhefofkhmkcnaaGreatDoorProg.lean LOADS. Nothing in Lean hashes anything: it is a label: what it is worth is what the hold of that sum in a sandbox is worth. -/
noncomputable def Tryz.pinned : Pinned := { name := "ytfhefofkhmkcnaagreatdoor", sum := "38b18ef1c877e2b502ab6d79e8e505b964d39e65477181b1ecfad9c33041b4d8", checked := Tryz.checked }
namespace Rows
def none {H : Type} : Left H := { results := [], args := [] }

/- WHAT THE LISTED PACKAGE-LEVEL VARIABLES READ AS WHEN THE CALL BEGINS. Each datum BY PROGRAM (the guide's laid-datum.mjs) off the statement by which the dump's own 'gosem.cut.vars' lays the variable. In a bare row this is a premise. The card (YtfhefofkhmkcnaaGreatDoorCards.lean) ties it to the program's text. -/
def laid_lodger_ask_namesOne {H : Type} : DataW H := .agg [.lit (.bool false), .lit (.bool false), .lit (.bool true), .lit (.bool true), .lit (.bool false), .lit (.bool true), .lit (.bool false), .lit (.bool false)]

/-- 'lodgerlaw21.PoolOne': WHATEVER THE INPUT: true; the input reads as it did. -/
def poolOneSpec : ChangeSpec := { name := "poolOne", fn := fun _ => fun
  | [d1, d2, d3, d4, d5] => { results := [.lit (.bool true)], args := [d1, d2, d3, d4, d5] }
  | _ => none }
def poolOneRow : OpenClaim := { program := "ytfhefofkhmkcnaagreatdoor", sum := "38b18ef1c877e2b502ab6d79e8e505b964d39e65477181b1ecfad9c33041b4d8", func := "lodger/lodgerlaw21.PoolOne", spec := "poolOne", unfollowed := true, recurses := true, named := ["lodger/ask.namesOne"], apart := false, laid := [("lodger/ask.namesOne", laid_lodger_ask_namesOne)] }
def PoolOneSaid : Prop := poolOneRow.holds Tryz.pinned (OpenSpec.ofChange poolOneSpec)

/-- ITS FALSE NEIGHBOUR: 'it returns false'. Refute it at one input. -/
def poolOneWrong : ChangeSpec := { name := "poolOne", fn := fun _ => fun
  | [d1, d2, d3, d4, d5] => { results := [.lit (.bool false)], args := [d1, d2, d3, d4, d5] }
  | _ => none }
def PoolOneWrongFalsely : Prop := poolOneRow.holds Tryz.pinned (OpenSpec.ofChange poolOneWrong)

/-- 'lodgerlaw21.PoolAlone': WHATEVER THE INPUT: true; the input reads as it did. -/
def poolAloneSpec : ChangeSpec := { name := "poolAlone", fn := fun _ => fun
  | [d1, d2, d3, d4] => { results := [.lit (.bool true)], args := [d1, d2, d3, d4] }
  | _ => none }
def poolAloneRow : OpenClaim := { program := "ytfhefofkhmkcnaagreatdoor", sum := "38b18ef1c877e2b502ab6d79e8e505b964d39e65477181b1ecfad9c33041b4d8", func := "lodger/lodgerlaw21.PoolAlone", spec := "poolAlone", unfollowed := true, recurses := true, named := ["lodger/ask.namesOne"], apart := false, laid := [("lodger/ask.namesOne", laid_lodger_ask_namesOne)] }
def PoolAloneSaid : Prop := poolAloneRow.holds Tryz.pinned (OpenSpec.ofChange poolAloneSpec)

/-- ITS FALSE NEIGHBOUR: 'it returns false'. Refute it at one input. -/
def poolAloneWrong : ChangeSpec := { name := "poolAlone", fn := fun _ => fun
  | [d1, d2, d3, d4] => { results := [.lit (.bool false)], args := [d1, d2, d3, d4] }
  | _ => none }
def PoolAloneWrongFalsely : Prop := poolAloneRow.holds Tryz.pinned (OpenSpec.ofChange poolAloneWrong)

/-- 'lodgerlaw21.PoolMost': WHATEVER THE INPUT: true; the input reads as it did. -/
def poolMostSpec : ChangeSpec := { name := "poolMost", fn := fun _ => fun
  | [d1, d2] => { results := [.lit (.bool true)], args := [d1, d2] }
  | _ => none }
def poolMostRow : OpenClaim := { program := "ytfhefofkhmkcnaagreatdoor", sum := "38b18ef1c877e2b502ab6d79e8e505b964d39e65477181b1ecfad9c33041b4d8", func := "lodger/lodgerlaw21.PoolMost", spec := "poolMost", unfollowed := true, recurses := true, named := ["lodger/ask.namesOne"], apart := false, laid := [("lodger/ask.namesOne", laid_lodger_ask_namesOne)] }
def PoolMostSaid : Prop := poolMostRow.holds Tryz.pinned (OpenSpec.ofChange poolMostSpec)

/-- ITS FALSE NEIGHBOUR: 'it returns false'. Refute it at one input. -/
def poolMostWrong : ChangeSpec := { name := "poolMost", fn := fun _ => fun
  | [d1, d2] => { results := [.lit (.bool false)], args := [d1, d2] }
  | _ => none }
def PoolMostWrongFalsely : Prop := poolMostRow.holds Tryz.pinned (OpenSpec.ofChange poolMostWrong)

/-- 'lodgerlaw21.PoolTold': WHATEVER THE INPUT: true; the input reads as it did. -/
def poolToldSpec : ChangeSpec := { name := "poolTold", fn := fun _ => fun
  | [d1, d2] => { results := [.lit (.bool true)], args := [d1, d2] }
  | _ => none }
def poolToldRow : OpenClaim := { program := "ytfhefofkhmkcnaagreatdoor", sum := "38b18ef1c877e2b502ab6d79e8e505b964d39e65477181b1ecfad9c33041b4d8", func := "lodger/lodgerlaw21.PoolTold", spec := "poolTold", unfollowed := true, recurses := true, named := ["lodger/ask.namesOne"], apart := false, laid := [("lodger/ask.namesOne", laid_lodger_ask_namesOne)] }
def PoolToldSaid : Prop := poolToldRow.holds Tryz.pinned (OpenSpec.ofChange poolToldSpec)

/-- ITS FALSE NEIGHBOUR: 'it returns false'. Refute it at one input. -/
def poolToldWrong : ChangeSpec := { name := "poolTold", fn := fun _ => fun
  | [d1, d2] => { results := [.lit (.bool false)], args := [d1, d2] }
  | _ => none }
def PoolToldWrongFalsely : Prop := poolToldRow.holds Tryz.pinned (OpenSpec.ofChange poolToldWrong)

/- THE SECOND FORM. 'bulk': how many values and letters a reading holds, each counted each time it is reached (what is shared counts as often as it is met; a slice's spare places count too). A statement '..UptoSaid' is the law's where the arguments, and the package variables that the reading takes, are together of bulk at most 1048576: NARROWER than '..Said'. Prove '..Said' where nothing that the law and all that it calls make is longer than what came in: it says more and counts as full. Else prove '..UptoSaid'. A law counts once. -/
mutual
def uptoBulk {H : Type} : DataW H → Nat
  | .lit (.string bytes) => bytes.length + 1
  | .lit _ => 1
  | .nil => 1
  | .ptr d => uptoBulk d + 1
  | .slice elems spare => uptoBulkAll elems + uptoBulkAll spare + 1
  | .agg parts => uptoBulkAll parts + 1
  | .iface _ d => uptoBulk d + 1
  | .map entries => uptoBulkEntries entries + 1
  | .held _ => 1
def uptoBulkAll {H : Type} : List (DataW H) → Nat
  | [] => 0
  | d :: r => uptoBulk d + uptoBulkAll r
def uptoBulkEntries {H : Type} : List (Lit × DataW H) → Nat
  | [] => 0
  | x :: r => uptoBulkEntry x + uptoBulkEntries r
def uptoBulkEntry {H : Type} : Lit × DataW H → Nat
  | (.string bytes, d) => bytes.length + uptoBulk d + 1
  | (_, d) => uptoBulk d + 1
 end
def uptoSmall : (H : Type) → List (DataW H) → Bool := fun _ ds => decide (uptoBulkAll ds ≤ 1048576)
def OpenSpec.upto (s : _root_.Go.ChangeSpec) : _root_.Go.OpenSpec := { _root_.Go.OpenSpec.ofChange s with cond := some uptoSmall }

/-- 'lodgerlaw21.PoolOne', WHERE WHAT IT READS IS OF BULK AT MOST 1048576: true; the input reads as it did. -/
def poolOneUptoRow : OpenClaim := { program := "ytfhefofkhmkcnaagreatdoor", sum := "38b18ef1c877e2b502ab6d79e8e505b964d39e65477181b1ecfad9c33041b4d8", func := "lodger/lodgerlaw21.PoolOne", spec := "poolOne", unfollowed := true, recurses := true, named := ["lodger/ask.namesOne"], apart := false, laid := [("lodger/ask.namesOne", laid_lodger_ask_namesOne)], narrowed := true }
def PoolOneUptoSaid : Prop := poolOneUptoRow.holds Tryz.pinned (OpenSpec.upto poolOneSpec)

/-- 'lodgerlaw21.PoolAlone', WHERE WHAT IT READS IS OF BULK AT MOST 1048576: true; the input reads as it did. -/
def poolAloneUptoRow : OpenClaim := { program := "ytfhefofkhmkcnaagreatdoor", sum := "38b18ef1c877e2b502ab6d79e8e505b964d39e65477181b1ecfad9c33041b4d8", func := "lodger/lodgerlaw21.PoolAlone", spec := "poolAlone", unfollowed := true, recurses := true, named := ["lodger/ask.namesOne"], apart := false, laid := [("lodger/ask.namesOne", laid_lodger_ask_namesOne)], narrowed := true }
def PoolAloneUptoSaid : Prop := poolAloneUptoRow.holds Tryz.pinned (OpenSpec.upto poolAloneSpec)

/-- 'lodgerlaw21.PoolMost', WHERE WHAT IT READS IS OF BULK AT MOST 1048576: true; the input reads as it did. -/
def poolMostUptoRow : OpenClaim := { program := "ytfhefofkhmkcnaagreatdoor", sum := "38b18ef1c877e2b502ab6d79e8e505b964d39e65477181b1ecfad9c33041b4d8", func := "lodger/lodgerlaw21.PoolMost", spec := "poolMost", unfollowed := true, recurses := true, named := ["lodger/ask.namesOne"], apart := false, laid := [("lodger/ask.namesOne", laid_lodger_ask_namesOne)], narrowed := true }
def PoolMostUptoSaid : Prop := poolMostUptoRow.holds Tryz.pinned (OpenSpec.upto poolMostSpec)

/-- 'lodgerlaw21.PoolTold', WHERE WHAT IT READS IS OF BULK AT MOST 1048576: true; the input reads as it did. -/
def poolToldUptoRow : OpenClaim := { program := "ytfhefofkhmkcnaagreatdoor", sum := "38b18ef1c877e2b502ab6d79e8e505b964d39e65477181b1ecfad9c33041b4d8", func := "lodger/lodgerlaw21.PoolTold", spec := "poolTold", unfollowed := true, recurses := true, named := ["lodger/ask.namesOne"], apart := false, laid := [("lodger/ask.namesOne", laid_lodger_ask_namesOne)], narrowed := true }
def PoolToldUptoSaid : Prop := poolToldUptoRow.holds Tryz.pinned (OpenSpec.upto poolToldSpec)

end Rows
end Go.Proofs.YtfhefofkhmkcnaaGreatDoor
