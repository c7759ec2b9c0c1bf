/-
  What Store, Add, Swap and New of package cells answer, as lists: the world grows, and nothing that was there is otherwise. Conditions: at most 65536 cells; words below 2^64.
-/
import Derived.Test.YtlaejiephpmniaaCellCalls
namespace Go.Proofs.Ytlaejiephpmniaa
open Go.RowKit
def one (t : TypeId) (v : Nat) : Obj := .cells #[.int .u64 (v : Int)] t
theorem RetS.ret {n : Nat} {xs : List Nat} {w w1 w2 : World} {A : Option Addr} {c : Nat} (h : US w2 A n c xs) (K1 : Below w.heap.size w w1) (K2 : Below w1.heap.size w1 w2) : US w2 A n c xs ∧ Below w.heap.size w w2 :=
  ⟨h, K1.trans (K2.mono K1.size)⟩
def swB (xs : List Nat) (a : Int) (y : Nat) : Bool := decide (0 ≤ a ∧ a < (xs.length : Int) ∧ ldI xs a = y)
def swL (xs : List Nat) (a : Int) (y v : Nat) : List Nat := if swB xs a y = true then stI xs a v else xs
end Go.Proofs.Ytlaejiephpmniaa

