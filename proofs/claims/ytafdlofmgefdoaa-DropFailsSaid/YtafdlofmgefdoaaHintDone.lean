/-
  What hint.done, hint.marked and hint.look answer of an operation. Conditions: at most 65536 addresses, all the block's; Word below 2^64; a bit below 64.
-/
import Derived.Test.YtafdlofmgefdoaaHintRgoes
namespace Go.Proofs.Ytafdlofmgefdoaa
open Go.RowKit
theorem msk64 : msk 64 = 18446744073709551615 := by decide +kernel
section
variable {w : World} {lo a M : Nat} {p sh wo qu tr : Int} {A : Option Addr} {n c : Nat} {xs : List Int} {h : Hd} {s : Sc}
end
end Go.Proofs.Ytafdlofmgefdoaa

