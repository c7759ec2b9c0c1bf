/-
  Words for what calls answer: a bool, a list of integers; nothing that was there is otherwise. The program isn't named here.
-/
import Derived.Test.YtmakbmmnjbnfiaaDoorHintGuard
import Derived.Deep.Cut
import Derived.Lib.AppendZerosOnto
import Derived.Lib.Walk
namespace Go.Proofs.YtmakbmmnjbnfiaaDoor
open Go.RowKit
def RetBo (b : Bool) (w : World) (e : Ending) (w' : World) : Prop := e = .returned (.bool b) ∧ Below w.heap.size w w'
/-- A list of integers is answered; nothing that was there is otherwise. -/
def RetI (k : IntKind) (xs : List Int) (w : World) (e : Ending) (w' : World) : Prop := ∃ A n c, e = .returned (.slice A n c) ∧ IS k 0 w' A n c xs ∧ Below w.heap.size w w'
end Go.Proofs.YtmakbmmnjbnfiaaDoor

