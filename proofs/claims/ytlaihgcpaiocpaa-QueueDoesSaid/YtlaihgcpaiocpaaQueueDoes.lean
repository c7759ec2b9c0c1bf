/-
  The walk of the statement QueueDoes: for every queue and two numbers the law answers true, and nothing that was there is otherwise; conditions: as each theorem states.
-/
import Derived.Test.YtlaihgcpaiocpaaQueueDoesB
import Derived.Test.YtlaihgcpaiocpaaQueueDoesC
namespace Go.Proofs.Ytlaihgcpaiocpaa.queueDoes
open Go.RowKit
theorem walk (m : Int) (A : Option Addr) (n c : Nat) (z : List Int) (cl : Bool) (x most : Int) (w : World) (h : IsRow .i64 w A n c z) :
    Calls Try.prog 3 #[.agg #[.int .i64 m, .slice A n c, .bool cl], .int .i64 x, .int .i64 most] w fun e w' => e = .returned (.bool true) ∧ Below w.heap.size w w' := by
  obtain ⟨xs, I, _⟩ := IS.of_row h
  by_cases hn : n ≤ 200
  · by_cases hm : mayB m n = true
    · cases cl with
      | false =>
        by_cases h1 : most < 1
        · exact yes_lt_false m A n c xs x most w I hn h1 hm
        · by_cases h2 : 64 < most
          · exact yes_gt_false m A n c xs x most w I hn h2 hm
          · exact yes_good_false m A n c xs x most w I hn (by omega) (by omega) hm
      | true =>
        by_cases h1 : most < 1
        · exact yes_lt_true m A n c xs x most w I hn h1 hm
        · by_cases h2 : 64 < most
          · exact yes_gt_true m A n c xs x most w I hn h2 hm
          · exact yes_good_true m A n c xs x most w I hn (by omega) (by omega) hm
    · have hm : mayB m n = false := by simpa using hm
      by_cases h1 : most < 1
      · exact no_lt m A n c cl xs x most w I hn h1 hm
      · by_cases h2 : 64 < most
        · exact no_gt m A n c cl xs x most w I hn h2 hm
        · exact no_good m A n c cl xs x most w I hn (by omega) (by omega) hm
  · exact big m A n c cl x most w (by omega)
end Go.Proofs.Ytlaihgcpaiocpaa.queueDoes
