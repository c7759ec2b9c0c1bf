/-
  The anchor of the statements of place answers true, in every world; no conditions.
-/
import Derived.Test.YtmhcgbmfdpljhaaPlaceRefs
namespace Go.Proofs.Ytmhcgbmfdpljhaa
open Go.RowKit
set_option maxHeartbeats 400000 in
theorem awake_any (w : World) : Calls Try.prog 7 #[] w fun e w' => e = .returned (.bool true) ∧ w = w' := by
  have c0 : ∀ w, Calls Try.prog 8 #[.int .i64 40] w fun e w' => e = .returned (.tuple #[.int .i64 1, .int .i64 8]) ∧ w = w' := fun w => leaf_any 40 (by decide) w
  have c1 : ∀ w, Calls Try.prog 9 #[.int .i64 33, .int .i64 1] w fun e w' => e = .returned (.tuple #[.int .i64 2, .int .i64 1]) ∧ w = w' := fun w => top_any 33 1 (by decide) (by decide) w
  have c2 : ∀ w, Calls Try.prog 11 #[.int .i64 33, .int .i64 1] w fun e w' => e = .returned (.tuple #[.int .i64 3, .int .i64 0]) ∧ w = w' := fun w => rootof_any 33 1 (by decide) (by decide) w
  have c3 : ∀ w, Calls Try.prog 13 #[.int .i64 33] w fun e w' => e = .returned (.int .i64 2) ∧ w = w' := fun w => leaves_any 33 (by decide) w
  have c4 : ∀ w, Calls Try.prog 15 #[.int .i64 33] w fun e w' => e = .returned (.int .i64 1) ∧ w = w' := fun w => tops_any 33 (by decide) w
  have c5 : ∀ w, Calls Try.prog 17 #[.int .i64 33] w fun e w' => e = .returned (.int .i64 4) ∧ w = w' := fun w => cells_any 33 (by decide) w
  have c6 : ∀ w, Calls Try.prog 19 #[.int .i64 1, .int .i64 8] w fun e w' => e = .returned (.int .i64 40) ∧ w = w' := fun w => offset_any 1 8 (by decide) (by decide) w
  have c7 : ∀ w, Calls Try.prog 20 #[.int .i64 33, .int .i64 1] w fun e w' => e = .returned (.int .i64 1) ∧ w = w' := fun w => width_any 33 1 (by decide) (by decide) w
  have c8 : ∀ w, Calls Try.prog 20 #[.int .i64 33, .int .i64 0] w fun e w' => e = .returned (.int .i64 32) ∧ w = w' := fun w => width_any 33 0 (by decide) (by decide) w
  have c9 : ∀ w, Calls Try.prog 13 #[.int .i64 65536] w fun e w' => e = .returned (.int .i64 2048) ∧ w = w' := fun w => leaves_any 65536 (by decide) w
  have c10 : ∀ w, Calls Try.prog 15 #[.int .i64 65536] w fun e w' => e = .returned (.int .i64 32) ∧ w = w' := fun w => tops_any 65536 (by decide) w
  go_enter Try.func7, Try.ntmps7
  go_wp2_with (first
      | (with_reducible refine (c0 _).mono ?_); rintro e w' ⟨rfl, rfl⟩
      | (with_reducible refine (c1 _).mono ?_); rintro e w' ⟨rfl, rfl⟩
      | (with_reducible refine (c2 _).mono ?_); rintro e w' ⟨rfl, rfl⟩
      | (with_reducible refine (c3 _).mono ?_); rintro e w' ⟨rfl, rfl⟩
      | (with_reducible refine (c4 _).mono ?_); rintro e w' ⟨rfl, rfl⟩
      | (with_reducible refine (c5 _).mono ?_); rintro e w' ⟨rfl, rfl⟩
      | (with_reducible refine (c6 _).mono ?_); rintro e w' ⟨rfl, rfl⟩
      | (with_reducible refine (c7 _).mono ?_); rintro e w' ⟨rfl, rfl⟩
      | (with_reducible refine (c8 _).mono ?_); rintro e w' ⟨rfl, rfl⟩
      | (with_reducible refine (c9 _).mono ?_); rintro e w' ⟨rfl, rfl⟩
      | (with_reducible refine (c10 _).mono ?_); rintro e w' ⟨rfl, rfl⟩)
  go_ret
  exact ⟨rfl, rfl⟩
end Go.Proofs.Ytmhcgbmfdpljhaa
