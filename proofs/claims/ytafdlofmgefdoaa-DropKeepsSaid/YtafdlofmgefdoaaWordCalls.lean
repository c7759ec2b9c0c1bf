/-
  What each function of package word answers, and the document's own words, for words below 2^64 and bits below 32 (all but the first words'): the world is as it was.
-/
import Derived.Test.YtafdlofmgefdoaaWordMath
namespace Go.Proofs.Ytafdlofmgefdoaa
open Go.RowKit
theorem without_any (X i : Nat) (hX : X < 18446744073709551616) (hi : i < 64) (w : World) :
    Calls Try.prog 33 #[.int .u64 X, .int .i64 i] w fun e w' => e = .returned (.int .u64 (clrb X i)) ∧ w = w' := by
  go_enter Try.func33, Try.ntmps33
  go_wp2_with (go_at_call 47; refine (clear_any _ _ hX hi _).mono ?_; rintro e w' ⟨rfl, rfl⟩)
  go_ret
  exact ⟨rfl, rfl⟩
theorem changed_any (X : Nat) (w : World) :
    Calls Try.prog 46 #[.int .u64 X] w fun e w' => e = .returned (.int .u64 (ch X)) ∧ w = w' := by
  go_enter Try.func46, Try.ntmps46
  go_wp2
  go_ret
  exact ⟨ret_int (by rw [IntKind.wrap_u64]; unfold ch; omega), rfl⟩
theorem become_without (X i : Nat) (hX : X < 18446744073709551616) (hi : i < 64) (w : World) :
    Calls Try.prog 32 #[.int .u64 X, .int .i64 i, .func (.func 33) #[] #[]] w fun e w' => e = .returned (.int .u64 (drp X i)) ∧ w = w' := by
  go_enter Try.func32, Try.ntmps32
  go_wp2_with (first
    | ((with_reducible refine (without_any _ _ hX hi _).mono ?_); rintro e w' ⟨rfl, rfl⟩)
    | ((with_reducible refine (changed_any _ _).mono ?_); rintro e w' ⟨rfl, rfl⟩))
  go_ret
  exact ⟨rfl, rfl⟩
theorem drop_any (X i : Nat) (hX : X < 18446744073709551616) (hi : i < 64) (w : World) :
    Calls Try.prog 16 #[.int .u64 X, .int .i64 i] w fun e w' => e = .returned (.int .u64 (drp X i)) ∧ w = w' := by
  go_enter Try.func16, Try.ntmps16
  go_wp2_with (go_at_call 32; refine (become_without _ _ hX hi _).mono ?_; rintro e w' ⟨rfl, rfl⟩)
  go_ret
  exact ⟨rfl, rfl⟩
theorem used_any (X i : Nat) (hX : X < 18446744073709551616) (hi : i < 64) (w : World) :
    Calls Try.prog 42 #[.int .u64 X, .int .i64 i] w fun e w' => e = .returned (.bool (X.testBit i)) ∧ w = w' := by
  go_enter Try.func42, Try.ntmps42
  go_wp2_with (go_at_call 49; refine (has_any _ _ hX hi _).mono ?_; rintro e w' ⟨rfl, rfl⟩)
  go_ret
  exact ⟨rfl, rfl⟩
theorem changes_any (X : Nat) (hX : X < 18446744073709551616) (w : World) :
    Calls Try.prog 13 #[.int .u64 X] w fun e w' => e = .returned (.int .u32 (cg X)) ∧ w = w' := by
  go_enter Try.func13, Try.ntmps13
  go_wp2
  go_ret
  exact ⟨ret_int (by unfold cg; first | omega | go_num), rfl⟩
theorem wfirst_any (X : Nat) (hX : X < 18446744073709551616) (w : World) :
    Calls Try.prog 30 #[.int .u64 X] w fun e w' => e = .returned (.tuple #[.int .i64 (fi X 32), .bool (fb X 32)]) ∧ w = w' := by
  have T := fun w => Lib.hid (first_any X 32 hX (by decide) w)
  generalize fi X 32 = f at T ⊢
  generalize fb X 32 = b at T ⊢
  go_enter Try.func30, Try.ntmps30
  go_wp2_with (go_at_call 45; refine ((T _).out).mono ?_; rintro e w' ⟨rfl, rfl⟩)
  go_ret2
  exact ⟨rfl, rfl⟩
theorem full_any (X : Nat) (hX : X < 18446744073709551616) (w : World) :
    Calls Try.prog 12 #[.int .u64 X] w fun e w' => e = .returned (.bool (fl X)) ∧ w = w' := by
  have T := fun w => Lib.hid (wfirst_any X hX w)
  have e1 : fl X = !fb X 32 := rfl
  rw [e1]
  clear e1
  generalize fi X 32 = f at T ⊢
  generalize fb X 32 = b at T ⊢
  go_enter Try.func12, Try.ntmps12
  go_wp2_with (go_at_call 30; refine ((T _).out).mono ?_; rintro e w' ⟨rfl, rfl⟩)
  go_ret
  exact ⟨rfl, rfl⟩
end Go.Proofs.Ytafdlofmgefdoaa

