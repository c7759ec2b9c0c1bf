/-
  What each function of package word answers, and the document's own words, for words below 2^64 and bits below 32 (all but the first words'): the world is as it was.
-/
import Derived.Test.YtgpbdoegcagdaaaWordMath
namespace Go.Proofs.Ytgpbdoegcagdaaa
open Go.RowKit
theorem with_any (X i : Nat) (hX : X < 18446744073709551616) (hi : i < 64) (w : World) :
    Calls Try.prog 28 #[.int .u64 X, .int .i64 i] w fun e w' => e = .returned (.int .u64 (setb X i)) ∧ w = w' := by
  go_enter Try.func28, Try.ntmps28
  go_wp2_with (go_at_call 41; refine (set_any _ _ hX hi _).mono ?_; rintro e w' ⟨rfl, rfl⟩)
  go_ret
  exact ⟨rfl, rfl⟩
theorem changed_any (X : Nat) (w : World) :
    Calls Try.prog 40 #[.int .u64 X] w fun e w' => e = .returned (.int .u64 (ch X)) ∧ w = w' := by
  go_enter Try.func40, Try.ntmps40
  go_wp2
  go_ret
  exact ⟨ret_int (by rw [IntKind.wrap_u64]; unfold ch; omega), rfl⟩
theorem become_with (X i : Nat) (hX : X < 18446744073709551616) (hi : i < 64) (w : World) :
    Calls Try.prog 27 #[.int .u64 X, .int .i64 i, .func (.func 28) #[] #[]] w fun e w' => e = .returned (.int .u64 (clm X i)) ∧ w = w' := by
  go_enter Try.func27, Try.ntmps27
  go_wp2_with (first
    | ((with_reducible refine (with_any _ _ hX hi _).mono ?_); rintro e w' ⟨rfl, rfl⟩)
    | ((with_reducible refine (changed_any _ _).mono ?_); rintro e w' ⟨rfl, rfl⟩))
  go_ret
  exact ⟨rfl, rfl⟩
theorem claim_any (X i : Nat) (hX : X < 18446744073709551616) (hi : i < 64) (w : World) :
    Calls Try.prog 17 #[.int .u64 X, .int .i64 i] w fun e w' => e = .returned (.int .u64 (clm X i)) ∧ w = w' := by
  go_enter Try.func17, Try.ntmps17
  go_wp2_with (go_at_call 27; refine (become_with _ _ hX hi _).mono ?_; rintro e w' ⟨rfl, rfl⟩)
  go_ret
  exact ⟨rfl, rfl⟩
theorem wfirst_any (X : Nat) (hX : X < 18446744073709551616) (w : World) :
    Calls Try.prog 10 #[.int .u64 X] w fun e w' => e = .returned (.tuple #[.int .i64 (fi X 32), .bool (fb X 32)]) ∧ w = w' := by
  have T := fun w => Lib.hid (first_any X 32 hX (by decide) w)
  generalize fi X 32 = f at T ⊢
  generalize fb X 32 = b at T ⊢
  go_enter Try.func10, Try.ntmps10
  go_wp2_with (go_at_call 22; refine ((T _).out).mono ?_; rintro e w' ⟨rfl, rfl⟩)
  go_ret2
  exact ⟨rfl, rfl⟩
theorem full_any (X : Nat) (hX : X < 18446744073709551616) (w : World) :
    Calls Try.prog 13 #[.int .u64 X] w fun e w' => e = .returned (.bool (fl X)) ∧ w = w' := by
  have T := fun w => Lib.hid (wfirst_any X hX w)
  have e1 : fl X = !fb X 32 := rfl
  rw [e1]
  clear e1
  generalize fi X 32 = f at T ⊢
  generalize fb X 32 = b at T ⊢
  go_enter Try.func13, Try.ntmps13
  go_wp2_with (go_at_call 10; refine ((T _).out).mono ?_; rintro e w' ⟨rfl, rfl⟩)
  go_ret
  exact ⟨rfl, rfl⟩
end Go.Proofs.Ytgpbdoegcagdaaa

