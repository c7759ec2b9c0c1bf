/-
  An answer of two: a number and a bool.
-/
import Derived.Test.YtmakbmmnjbnfiaaDoorModelRow
namespace Go.Proofs.YtmakbmmnjbnfiaaDoor
theorem ret_ib {a c : Int} {b d : Bool} (h : a = c) (g : b = d) : Ending.returned (.tuple #[.int .i64 a, .bool b]) = .returned (.tuple #[.int .i64 c, .bool d]) := by rw [h, g]
theorem take_gi {xs : List Int} {j : Nat} (h : j < xs.length) : xs.take (j + 1) = xs.take j ++ [gi xs j] := by
  rw [List.take_succ_eq_append_getElem h, gi_at h]
end Go.Proofs.YtmakbmmnjbnfiaaDoor

