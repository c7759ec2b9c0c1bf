/-
  What May and Full of package model answer of a configuration that may be: whether a list is a set that may be, and whether a set that may be is all of it; nothing that was there is otherwise. Conditions: at most 65536 numbers.
-/
import Derived.Test.YtmakbmmnjbnfiaaDoorModelConcat
namespace Go.Proofs.YtmakbmmnjbnfiaaDoor
open Go.RowKit
section
variable {w : World} {lo lo2 a M : Nat} {p sh wo qu tr : Int} {A B : Option Addr} {n c m d : Nat} {zs xs : List Int}
end
end Go.Proofs.YtmakbmmnjbnfiaaDoor

