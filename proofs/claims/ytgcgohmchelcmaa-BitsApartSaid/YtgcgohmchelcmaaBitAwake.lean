/-
  The anchor of the statements of bits answers true, in every world; no conditions.
-/
import Derived.Test.YtgcgohmchelcmaaBitCalls
namespace Go.Proofs.Ytgcgohmchelcmaa
open Go.RowKit
set_option maxHeartbeats 400000 in
theorem awake_any (w : World) : Calls Try.prog 8 #[] w fun e w' => e = .returned (.bool true) ∧ w = w' := by
  have f1 : ∀ w, Calls Try.prog 9 #[.int .u64 7, .int .i64 64] w fun e w' => e = .returned (.tuple #[.int .i64 3, .bool true]) ∧ w = w' := fun w => first_any 7 64 (by decide) (by decide) w
  have f2 : ∀ w, Calls Try.prog 9 #[.int .u64 7, .int .i64 3] w fun e w' => e = .returned (.tuple #[.int .i64 0, .bool false]) ∧ w = w' := fun w => first_any 7 3 (by decide) (by decide) w
  have f3 : ∀ w, Calls Try.prog 9 #[.int .u64 0, .int .i64 0] w fun e w' => e = .returned (.tuple #[.int .i64 0, .bool false]) ∧ w = w' := fun w => first_any 0 0 (by decide) (by decide) w
  have c1 : ∀ w, Calls Try.prog 17 #[.int .u64 7, .int .i64 2] w fun e w' => e = .returned (.int .i64 2) ∧ w = w' := fun w => count_any 7 2 (by decide) (by decide) w
  have m1 : ∀ w, Calls Try.prog 19 #[.int .i64 64] w fun e w' => e = .returned (.int .u64 18446744073709551615) ∧ w = w' := fun w => mask_any 64 (by decide) w
  have m2 : ∀ w, Calls Try.prog 19 #[.int .i64 0] w fun e w' => e = .returned (.int .u64 0) ∧ w = w' := fun w => mask_any 0 (by decide) w
  have h1 : ∀ w, Calls Try.prog 11 #[.int .u64 8, .int .i64 3] w fun e w' => e = .returned (.bool true) ∧ w = w' := fun w => has_any 8 3 (by decide) (by decide) w
  have h2 : ∀ w, Calls Try.prog 11 #[.int .u64 8, .int .i64 2] w fun e w' => e = .returned (.bool false) ∧ w = w' := fun w => has_any 8 2 (by decide) (by decide) w
  have s1 : ∀ w, Calls Try.prog 13 #[.int .u64 0, .int .i64 63] w fun e w' => e = .returned (.int .u64 9223372036854775808) ∧ w = w' := fun w => set_any 0 63 (by decide) (by decide) w
  have d1 : ∀ w, Calls Try.prog 15 #[.int .u64 12, .int .i64 2] w fun e w' => e = .returned (.int .u64 8) ∧ w = w' := fun w => clear_any 12 2 (by decide) (by decide) w
  go_enter Try.func8, Try.ntmps8
  go_wp2_with (first
      | (with_reducible refine (f1 _).mono ?_); rintro e w' ⟨rfl, rfl⟩
      | (with_reducible refine (f2 _).mono ?_); rintro e w' ⟨rfl, rfl⟩
      | (with_reducible refine (f3 _).mono ?_); rintro e w' ⟨rfl, rfl⟩
      | (with_reducible refine (c1 _).mono ?_); rintro e w' ⟨rfl, rfl⟩
      | (with_reducible refine (m1 _).mono ?_); rintro e w' ⟨rfl, rfl⟩
      | (with_reducible refine (m2 _).mono ?_); rintro e w' ⟨rfl, rfl⟩
      | (with_reducible refine (h1 _).mono ?_); rintro e w' ⟨rfl, rfl⟩
      | (with_reducible refine (h2 _).mono ?_); rintro e w' ⟨rfl, rfl⟩
      | (with_reducible refine (s1 _).mono ?_); rintro e w' ⟨rfl, rfl⟩
      | (with_reducible refine (d1 _).mono ?_); rintro e w' ⟨rfl, rfl⟩)
  go_ret
  exact ⟨rfl, rfl⟩
end Go.Proofs.Ytgcgohmchelcmaa
