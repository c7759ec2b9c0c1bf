/-
  What each function of package word answers, and the document's own words, for words below 2^64 and bits below 32 (all but the first words'): the world is as it was.
-/
import Derived.Test.YthnmneinimlpcaaWordMath
namespace Go.Proofs.Ythnmneinimlpcaa
open Go.RowKit
theorem with_any (X i : Nat) (hX : X < 18446744073709551616) (hi : i < 64) (w : World) :
    Calls Try.prog 50 #[.int .u64 X, .int .i64 i] w fun e w' => e = .returned (.int .u64 (setb X i)) ∧ w = w' := by
  go_enter Try.func50, Try.ntmps50
  go_wp2_with (go_at_call 66; refine (set_any _ _ hX hi _).mono ?_; rintro e w' ⟨rfl, rfl⟩)
  go_ret
  exact ⟨rfl, rfl⟩
theorem without_any (X i : Nat) (hX : X < 18446744073709551616) (hi : i < 64) (w : World) :
    Calls Try.prog 51 #[.int .u64 X, .int .i64 i] w fun e w' => e = .returned (.int .u64 (clrb X i)) ∧ w = w' := by
  go_enter Try.func51, Try.ntmps51
  go_wp2_with (go_at_call 67; refine (clear_any _ _ hX hi _).mono ?_; rintro e w' ⟨rfl, rfl⟩)
  go_ret
  exact ⟨rfl, rfl⟩
theorem changed_any (X : Nat) (w : World) :
    Calls Try.prog 65 #[.int .u64 X] w fun e w' => e = .returned (.int .u64 (ch X)) ∧ w = w' := by
  go_enter Try.func65, Try.ntmps65
  go_wp2
  go_ret
  exact ⟨ret_int (by rw [IntKind.wrap_u64]; unfold ch; omega), rfl⟩
theorem become_with (X i : Nat) (hX : X < 18446744073709551616) (hi : i < 64) (w : World) :
    Calls Try.prog 49 #[.int .u64 X, .int .i64 i, .func (.func 50) #[] #[]] w fun e w' => e = .returned (.int .u64 (clm X i)) ∧ w = w' := by
  go_enter Try.func49, Try.ntmps49
  go_wp2_with (first
    | ((with_reducible refine (with_any _ _ hX hi _).mono ?_); rintro e w' ⟨rfl, rfl⟩)
    | ((with_reducible refine (changed_any _ _).mono ?_); rintro e w' ⟨rfl, rfl⟩))
  go_ret
  exact ⟨rfl, rfl⟩
theorem become_without (X i : Nat) (hX : X < 18446744073709551616) (hi : i < 64) (w : World) :
    Calls Try.prog 49 #[.int .u64 X, .int .i64 i, .func (.func 51) #[] #[]] w fun e w' => e = .returned (.int .u64 (drp X i)) ∧ w = w' := by
  go_enter Try.func49, Try.ntmps49
  go_wp2_with (first
    | ((with_reducible refine (without_any _ _ hX hi _).mono ?_); rintro e w' ⟨rfl, rfl⟩)
    | ((with_reducible refine (changed_any _ _).mono ?_); rintro e w' ⟨rfl, rfl⟩))
  go_ret
  exact ⟨rfl, rfl⟩
theorem claim_any (X i : Nat) (hX : X < 18446744073709551616) (hi : i < 64) (w : World) :
    Calls Try.prog 31 #[.int .u64 X, .int .i64 i] w fun e w' => e = .returned (.int .u64 (clm X i)) ∧ w = w' := by
  go_enter Try.func31, Try.ntmps31
  go_wp2_with (go_at_call 49; refine (become_with _ _ hX hi _).mono ?_; rintro e w' ⟨rfl, rfl⟩)
  go_ret
  exact ⟨rfl, rfl⟩
theorem drop_any (X i : Nat) (hX : X < 18446744073709551616) (hi : i < 64) (w : World) :
    Calls Try.prog 32 #[.int .u64 X, .int .i64 i] w fun e w' => e = .returned (.int .u64 (drp X i)) ∧ w = w' := by
  go_enter Try.func32, Try.ntmps32
  go_wp2_with (go_at_call 49; refine (become_without _ _ hX hi _).mono ?_; rintro e w' ⟨rfl, rfl⟩)
  go_ret
  exact ⟨rfl, rfl⟩
theorem used_any (X i : Nat) (hX : X < 18446744073709551616) (hi : i < 64) (w : World) :
    Calls Try.prog 44 #[.int .u64 X, .int .i64 i] w fun e w' => e = .returned (.bool (X.testBit i)) ∧ w = w' := by
  go_enter Try.func44, Try.ntmps44
  go_wp2_with (go_at_call 64; refine (has_any _ _ hX hi _).mono ?_; rintro e w' ⟨rfl, rfl⟩)
  go_ret
  exact ⟨rfl, rfl⟩
end Go.Proofs.Ythnmneinimlpcaa

