/-
  What hint.further, hint.onward and the document's Goes answer of an operation: one operation, gone on. Conditions: at most 65536 addresses, all the block's; Item at most 65536.
-/
import Derived.Test.YtlaejiephpmniaaHintPure
import Derived.Laws.CopyOwn
namespace Go.Proofs.Ytlaejiephpmniaa
open Go.RowKit
def RetBo (b : Bool) (w : World) (e : Ending) (w' : World) : Prop := e = .returned (.bool b) ∧ Below w.heap.size w w'
def RetOp (h : Hd) (s : Sc) (w : World) (e : Ending) (w' : World) : Prop := e = .returned (.agg (opv h s)) ∧ Below w.heap.size w w'
end Go.Proofs.Ytlaejiephpmniaa

