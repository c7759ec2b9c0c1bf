/-
  What each function of package word answers, and the document's own words, for words below 2^64 and bits below 32 (all but the first words'): the world is as it was.
-/
import Derived.Test.YtbipjdmaoofggaaWordMath
namespace Go.Proofs.Ytbipjdmaoofggaa
open Go.RowKit
theorem with_any (X i : Nat) (hX : X < 18446744073709551616) (hi : i < 64) (w : World) :
    Calls Try.prog 36 #[.int .u64 X, .int .i64 i] w fun e w' => e = .returned (.int .u64 (setb X i)) ∧ w = w' := by
  go_enter Try.func36, Try.ntmps36
  go_wp2_with (go_at_call 53; refine (set_any _ _ hX hi _).mono ?_; rintro e w' ⟨rfl, rfl⟩)
  go_ret
  exact ⟨rfl, rfl⟩
theorem without_any (X i : Nat) (hX : X < 18446744073709551616) (hi : i < 64) (w : World) :
    Calls Try.prog 38 #[.int .u64 X, .int .i64 i] w fun e w' => e = .returned (.int .u64 (clrb X i)) ∧ w = w' := by
  go_enter Try.func38, Try.ntmps38
  go_wp2_with (go_at_call 54; refine (clear_any _ _ hX hi _).mono ?_; rintro e w' ⟨rfl, rfl⟩)
  go_ret
  exact ⟨rfl, rfl⟩
theorem changed_any (X : Nat) (w : World) :
    Calls Try.prog 52 #[.int .u64 X] w fun e w' => e = .returned (.int .u64 (ch X)) ∧ w = w' := by
  go_enter Try.func52, Try.ntmps52
  go_wp2
  go_ret
  exact ⟨ret_int (by rw [IntKind.wrap_u64]; unfold ch; omega), rfl⟩
theorem become_with (X i : Nat) (hX : X < 18446744073709551616) (hi : i < 64) (w : World) :
    Calls Try.prog 35 #[.int .u64 X, .int .i64 i, .func (.func 36) #[] #[]] w fun e w' => e = .returned (.int .u64 (clm X i)) ∧ w = w' := by
  go_enter Try.func35, Try.ntmps35
  go_wp2_with (first
    | ((with_reducible refine (with_any _ _ hX hi _).mono ?_); rintro e w' ⟨rfl, rfl⟩)
    | ((with_reducible refine (changed_any _ _).mono ?_); rintro e w' ⟨rfl, rfl⟩))
  go_ret
  exact ⟨rfl, rfl⟩
theorem become_without (X i : Nat) (hX : X < 18446744073709551616) (hi : i < 64) (w : World) :
    Calls Try.prog 35 #[.int .u64 X, .int .i64 i, .func (.func 38) #[] #[]] w fun e w' => e = .returned (.int .u64 (drp X i)) ∧ w = w' := by
  go_enter Try.func35, Try.ntmps35
  go_wp2_with (first
    | ((with_reducible refine (without_any _ _ hX hi _).mono ?_); rintro e w' ⟨rfl, rfl⟩)
    | ((with_reducible refine (changed_any _ _).mono ?_); rintro e w' ⟨rfl, rfl⟩))
  go_ret
  exact ⟨rfl, rfl⟩
theorem claim_any (X i : Nat) (hX : X < 18446744073709551616) (hi : i < 64) (w : World) :
    Calls Try.prog 14 #[.int .u64 X, .int .i64 i] w fun e w' => e = .returned (.int .u64 (clm X i)) ∧ w = w' := by
  go_enter Try.func14, Try.ntmps14
  go_wp2_with (go_at_call 35; refine (become_with _ _ hX hi _).mono ?_; rintro e w' ⟨rfl, rfl⟩)
  go_ret
  exact ⟨rfl, rfl⟩
theorem drop_any (X i : Nat) (hX : X < 18446744073709551616) (hi : i < 64) (w : World) :
    Calls Try.prog 16 #[.int .u64 X, .int .i64 i] w fun e w' => e = .returned (.int .u64 (drp X i)) ∧ w = w' := by
  go_enter Try.func16, Try.ntmps16
  go_wp2_with (go_at_call 35; refine (become_without _ _ hX hi _).mono ?_; rintro e w' ⟨rfl, rfl⟩)
  go_ret
  exact ⟨rfl, rfl⟩
theorem used_any (X i : Nat) (hX : X < 18446744073709551616) (hi : i < 64) (w : World) :
    Calls Try.prog 11 #[.int .u64 X, .int .i64 i] w fun e w' => e = .returned (.bool (X.testBit i)) ∧ w = w' := by
  go_enter Try.func11, Try.ntmps11
  go_wp2_with (go_at_call 33; refine (has_any _ _ hX hi _).mono ?_; rintro e w' ⟨rfl, rfl⟩)
  go_ret
  exact ⟨rfl, rfl⟩
theorem changes_any (X : Nat) (hX : X < 18446744073709551616) (w : World) :
    Calls Try.prog 13 #[.int .u64 X] w fun e w' => e = .returned (.int .u32 (cg X)) ∧ w = w' := by
  go_enter Try.func13, Try.ntmps13
  go_wp2
  go_ret
  exact ⟨ret_int (by unfold cg; first | omega | go_num), rfl⟩
theorem wfirst_any (X : Nat) (hX : X < 18446744073709551616) (w : World) :
    Calls Try.prog 9 #[.int .u64 X] w fun e w' => e = .returned (.tuple #[.int .i64 (fi X 32), .bool (fb X 32)]) ∧ w = w' := by
  have T := fun w => Lib.hid (first_any X 32 hX (by decide) w)
  generalize fi X 32 = f at T ⊢
  generalize fb X 32 = b at T ⊢
  go_enter Try.func9, Try.ntmps9
  go_wp2_with (go_at_call 31; refine ((T _).out).mono ?_; rintro e w' ⟨rfl, rfl⟩)
  go_ret2
  exact ⟨rfl, rfl⟩
theorem full_any (X : Nat) (hX : X < 18446744073709551616) (w : World) :
    Calls Try.prog 18 #[.int .u64 X] w fun e w' => e = .returned (.bool (fl X)) ∧ w = w' := by
  have T := fun w => Lib.hid (wfirst_any X hX w)
  have e1 : fl X = !fb X 32 := rfl
  rw [e1]
  clear e1
  generalize fi X 32 = f at T ⊢
  generalize fb X 32 = b at T ⊢
  go_enter Try.func18, Try.ntmps18
  go_wp2_with (go_at_call 9; refine ((T _).out).mono ?_; rintro e w' ⟨rfl, rfl⟩)
  go_ret
  exact ⟨rfl, rfl⟩
theorem rclaim_any (X i : Nat) (hX : X < 18446744073709551616) (hi : i < 64) (w : World) :
    Calls Try.prog 15 #[.int .u64 X, .int .i64 i] w fun e w' => e = .returned (.int .u64 (clm X i)) ∧ w = w' := by
  go_enter Try.func15, Try.ntmps15
  go_wp2_with (go_at_call 37; refine (rset_any _ _ hX hi _).mono ?_; rintro e w' ⟨rfl, rfl⟩)
  go_ret
  exact ⟨ret_int (by rw [IntKind.wrap_u64]; unfold clm ch; omega), rfl⟩
theorem rdrop_any (X i : Nat) (hX : X < 18446744073709551616) (hi : i < 64) (w : World) :
    Calls Try.prog 17 #[.int .u64 X, .int .i64 i] w fun e w' => e = .returned (.int .u64 (drp X i)) ∧ w = w' := by
  go_enter Try.func17, Try.ntmps17
  go_wp2_with (go_at_call 39; refine (rclear_any _ _ hX hi _).mono ?_; rintro e w' ⟨rfl, rfl⟩)
  go_ret
  exact ⟨ret_int (by rw [IntKind.wrap_u64]; unfold drp ch; omega), rfl⟩
theorem rwfirst_any (X : Nat) (hX : X < 18446744073709551616) (w : World) :
    Calls Try.prog 10 #[.int .u64 X] w fun e w' => e = .returned (.tuple #[.int .i64 (fi X 32), .bool (fb X 32)]) ∧ w = w' := by
  have T := fun w => Lib.hid (rfirst_any X 32 hX (by decide) w)
  generalize fi X 32 = f at T ⊢
  generalize fb X 32 = b at T ⊢
  go_enter Try.func10, Try.ntmps10
  go_wp2_with (go_at_call 32; refine ((T _).out).mono ?_; rintro e w' ⟨rfl, rfl⟩)
  go_ret2
  exact ⟨rfl, rfl⟩
theorem rfull_any (X : Nat) (hX : X < 18446744073709551616) (w : World) :
    Calls Try.prog 19 #[.int .u64 X] w fun e w' => e = .returned (.bool (fl X)) ∧ w = w' := by
  go_enter Try.func19, Try.ntmps19
  go_wp2
  go_ret
  refine ⟨ret_bool ?_, rfl⟩
  rw [Bool.eq_iff_iff, ← fl_mod]
  first
  | (simp only [beq_iff_eq]; omega)
  | (simp; omega)
end Go.Proofs.Ytbipjdmaoofggaa
