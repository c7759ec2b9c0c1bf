/-
  The anchor of the statements of shard answers true, in every world, and nothing that was there is otherwise; no conditions.
-/
import Derived.Test.YtlmppeejcfgdeaaShardCalls
namespace Go.Proofs.Ytlmppeejcfgdeaa
open Go.RowKit
set_option maxHeartbeats 1000000 in
theorem awake_any (w : World) : Calls Try.prog 5 #[] w fun e w' => e = .returned (.bool true) ∧ Below w.heap.size w w' := by
  have c0 : ∀ w, Calls Try.prog 9 #[.int .i64 96, .int .i64 2, .int .i64 0] w (RetII 0 1 w) := fun w => range_any 96 2 0 (by decide) (by decide) (by decide) (by decide) w
  have c1 : ∀ w, Calls Try.prog 9 #[.int .i64 96, .int .i64 2, .int .i64 1] w (RetII 1 3 w) := fun w => range_any 96 2 1 (by decide) (by decide) (by decide) (by decide) w
  have c2 : ∀ w, Calls Try.prog 9 #[.int .i64 1, .int .i64 64, .int .i64 3] w (RetII 0 0 w) := fun w => range_any 1 64 3 (by decide) (by decide) (by decide) (by decide) w
  have c3 : ∀ w, Calls Try.prog 10 #[.int .i64 96, .int .i64 2, .int .i64 2] w fun e w' => e = .returned (.int .i64 1) ∧ Below w.heap.size w w' := fun w => of_any 96 2 2 1 (by decide) (by decide) (by decide) (by decide) (by decide) (by decide) w
  have c4 : ∀ w, Calls Try.prog 10 #[.int .i64 1, .int .i64 64, .int .i64 0] w fun e w' => e = .returned (.int .i64 63) ∧ Below w.heap.size w w' := fun w => of_any 1 64 0 63 (by decide) (by decide) (by decide) (by decide) (by decide) (by decide) w
  have c5 : ∀ w, Calls Try.prog 6 #[.int .i64 4, .int .i64 9] w fun e w' => e = .returned (.int .i64 1) ∧ w = w' := fun w => home_any 4 9 (by decide) (by decide) (by decide) w
  have c6 : ∀ w, Calls Try.prog 7 #[.int .i64 4, .int .i64 3, .int .i64 2] w fun e w' => e = .returned (.int .i64 1) ∧ w = w' := fun w => from_any 4 3 2 (by decide) (by decide) (by decide) (by decide) w
  go_enter Try.func5, Try.ntmps5
  go_wp2_with (first
      | (with_reducible refine (c0 _).mono ?_); rintro e w' ⟨rfl, K0⟩
      | (with_reducible refine (c1 _).mono ?_); rintro e w' ⟨rfl, K1⟩
      | (with_reducible refine (c2 _).mono ?_); rintro e w' ⟨rfl, K2⟩
      | (with_reducible refine (c3 _).mono ?_); rintro e w' ⟨rfl, K3⟩
      | (with_reducible refine (c4 _).mono ?_); rintro e w' ⟨rfl, K4⟩
      | (with_reducible refine (c5 _).mono ?_); rintro e w' ⟨rfl, rfl⟩
      | (with_reducible refine (c6 _).mono ?_); rintro e w' ⟨rfl, rfl⟩)
  go_ret
  exact ⟨rfl, Below.then_ K0 (Below.then_ K1 (Below.then_ K2 (Below.then_ K3 K4)))⟩
end Go.Proofs.Ytlmppeejcfgdeaa
