/-
  What each function of package bits, and each of the document's own bits, answers, for words below 2^64, places below 64 and numbers up to 64: the world is as it was.
-/
import Derived.Test.YtafdlofmgefdoaaBitMath
import Derived.WalkKit
import Derived.ProofKit
import Derived.OpenShut
import Derived.Lib.Hide
namespace Go.Proofs.Ytafdlofmgefdoaa
open Go.RowKit
theorem ret_ib {a c : Int} {b d : Bool} (h : a = c) (g : b = d) : Ending.returned (.tuple #[.int .i64 a, .bool b]) = .returned (.tuple #[.int .i64 c, .bool d]) := by rw [h, g]
theorem wf_u64 {a : Int} (h : (Lit.int .u64 a).wf = true) : ∃ X : Nat, a = X ∧ X < 18446744073709551616 := by
  have h' : 0 ≤ a ∧ a ≤ 18446744073709551615 := by simpa [Lit.wf, IntKind.min, IntKind.max, IntKind.bits, IntKind.signed] using h
  exact ⟨a.toNat, by omega, by omega⟩
theorem pw_lt {i : Nat} (h : i < 64) : pw i < 18446744073709551616 := pow_lt64 h
theorem and_ne (X i : Nat) (hX : X < 18446744073709551616) (hi : i < 64) : (Go.bits .and .u64 (X : Int) (pw i : Nat) != 0) = X.testBit i := by
  rw [u64_and_nat X (pw i) hX (pw_lt hi), ← and_pow_zero X i]
  unfold pw
  rw [Bool.eq_iff_iff]; simp only [bne_iff_ne, ne_eq]; omega

theorem only_any (i : Nat) (hi : i < 64) (w : World) :
    Calls Try.prog 54 #[.int .i64 i] w fun e w' => e = .returned (.int .u64 (pw i : Nat)) ∧ w = w' := by
  go_enter Try.func54, Try.ntmps54
  go_wp2
  go_ret
  refine ⟨ret_int ?_, rfl⟩
  have h := pw_lt hi
  have e : (2 : Int) ^ i = ((pw i : Nat) : Int) := by unfold pw; simp
  rw [e, IntKind.wrap_u64]
  omega
theorem below_any (n : Nat) (hn : n ≤ 64) (w : World) :
    Calls Try.prog 53 #[.int .i64 n] w fun e w' => e = .returned (.int .i64 n) ∧ w = w' := by
  go_enter Try.func53, Try.ntmps53
  go_wp2
  go_ret
  exact ⟨rfl, rfl⟩
theorem has_any (X i : Nat) (hX : X < 18446744073709551616) (hi : i < 64) (w : World) :
    Calls Try.prog 49 #[.int .u64 X, .int .i64 i] w fun e w' => e = .returned (.bool (X.testBit i)) ∧ w = w' := by
  go_enter Try.func49, Try.ntmps49
  go_wp2_with (go_at_call 54; refine (only_any _ hi _).mono ?_; rintro e w' ⟨rfl, rfl⟩)
  go_ret
  exact ⟨ret_bool (and_ne X i hX hi), rfl⟩
theorem clear_any (X i : Nat) (hX : X < 18446744073709551616) (hi : i < 64) (w : World) :
    Calls Try.prog 47 #[.int .u64 X, .int .i64 i] w fun e w' => e = .returned (.int .u64 (clrb X i)) ∧ w = w' := by
  go_enter Try.func47, Try.ntmps47
  go_wp2_with (go_at_call 54; refine (only_any _ hi _).mono ?_; rintro e w' ⟨rfl, rfl⟩)
  go_ret
  exact ⟨ret_int (u64_andNot_nat X (pw i) hX (pw_lt hi)), rfl⟩
theorem first_any (X n : Nat) (hX : X < 18446744073709551616) (hn : n ≤ 64) (w : World) :
    Calls Try.prog 45 #[.int .u64 X, .int .i64 n] w fun e w' => e = .returned (.tuple #[.int .i64 (fi X n), .bool (fb X n)]) ∧ w = w' := by
  go_enter Try.func45, Try.ntmps45
  go_wp2_with (go_at_call 53; refine (below_any _ hn _).mono ?_; rintro e w' ⟨rfl, rfl⟩)
  go_loop [9] (fun i => ∃ j : Nat, j ≤ n ∧ i = .int .i64 j ∧ Hid (∀ k, k < j → X.testBit k = true)) (fun i => n - (intOf i).toNat)
  case atStart => exact ⟨0, Nat.zero_le _, rfl, Lib.hid (fun k hk => by omega)⟩
  case round =>
    obtain ⟨j, hj, rfl, ha⟩ := hrel
    by_cases hlt : j < n
    · cases hb : X.testBit j with
      | true =>
        have hasj : ∀ w, Calls Try.prog 49 #[.int .u64 X, .int .i64 j] w fun e w' => e = .returned (.bool true) ∧ w = w' := fun w => hb ▸ has_any X j hX (by omega) w
        have HB := Lib.hid hb; clear hb
        go_wp2_with (go_at_call 49; refine (hasj _).mono ?_; rintro e w' ⟨rfl, rfl⟩)
        go_round
        case rel => exact ⟨j + 1, by omega, by go_num, Lib.hid (fun k hk => by
          by_cases e : k = j
          · rw [e]; exact HB.out
          · exact ha.out k (by omega))⟩
        case measure => simp [intOf]; omega
      | false =>
        have hasj : ∀ w, Calls Try.prog 49 #[.int .u64 X, .int .i64 j] w fun e w' => e = .returned (.bool false) ∧ w = w' := fun w => hb ▸ has_any X j hX (by omega) w
        have HB := Lib.hid hb; clear hb
        go_wp2_with (go_at_call 49; refine (hasj _).mono ?_; rintro e w' ⟨rfl, rfl⟩)
        go_ret2
        have f := fi_of hlt HB.out ha.out
        exact ⟨ret_ib (by rw [f.1]) f.2.symm, rfl⟩
    · go_wp2
      go_ret2
      have e : j = n := by omega
      have f := fi_not (X := X) (n := n) (fun k hk => ha.out k (by omega))
      exact ⟨ret_ib (by rw [f.1]; rfl) f.2.symm, rfl⟩
def msk (n : Nat) : Nat := 2 ^ n - 1
theorem msk_lt {n : Nat} (hn : n ≤ 64) : msk n < 18446744073709551616 := by
  have := pow_le64 hn; have := Nat.two_pow_pos n; unfold msk; omega
theorem pow_any (i : Nat) (hi : i < 64) (w : World) :
    Calls Try.prog 29 #[.int .i64 i] w fun e w' => e = .returned (.int .u64 (pw i : Nat)) ∧ w = w' := by
  go_enter Try.func29, Try.ntmps29
  go_wp2
  go_loop [3, 4] (fun p k => ∃ j : Nat, j ≤ i ∧ k = .int .i64 j ∧ p = .int .u64 (pw j : Nat)) (fun _ k => i - (intOf k).toNat)
  case atStart => exact ⟨0, Nat.zero_le _, rfl, rfl⟩
  case round =>
    obtain ⟨j, hj, rfl, rfl⟩ := hrel
    by_cases hlt : j < i
    · have h1 : pw (j + 1) < 18446744073709551616 := pw_lt (by omega)
      have h2 : pw (j + 1) = pw j * 2 := by unfold pw; rw [Nat.pow_succ]
      have h3 : pw j * 2 < 18446744073709551616 := by omega
      have H2 := Lib.hid h2
      clear h2
      go_wp2
      go_round
      case rel => exact ⟨j + 1, by omega, by go_num, by rw [H2.out]; go_num⟩
      case measure => simp [intOf]; omega
    · go_wp2
      go_ret
      have : j = i := by omega
      subst this
      exact ⟨rfl, rfl⟩
theorem bit_eq (X i : Nat) (hX : X < 18446744073709551616) : ((IntKind.u64.wrap ((X : Int) / (pw i : Nat))).tmod 2 == 1) = X.testBit i := by
  have e : (X : Int) / (pw i : Nat) = ((X / pw i : Nat) : Int) := by simp
  have hl : X / pw i ≤ X := Nat.div_le_self _ _
  rw [e, IntKind.wrap_u64, bit_div]
  show _ = decide (X / pw i % 2 = 1)
  generalize X / pw i = q at *
  have e2 : (q : Int) % 18446744073709551616 = q := by omega
  rw [e2, Int.tmod_eq_emod_of_nonneg (by omega), Bool.eq_iff_iff]
  simp only [beq_iff_eq, decide_eq_true_eq]
  omega
theorem rhas_any (X i : Nat) (hX : X < 18446744073709551616) (hi : i < 64) (w : World) :
    Calls Try.prog 11 #[.int .u64 X, .int .i64 i] w fun e w' => e = .returned (.bool (X.testBit i)) ∧ w = w' := by
  have hp : 0 < pw i := Nat.two_pow_pos i
  go_enter Try.func11, Try.ntmps11
  go_wp2_with (go_at_call 29; refine (pow_any _ hi _).mono ?_; rintro e w' ⟨rfl, rfl⟩)
  go_ret
  exact ⟨ret_bool (bit_eq X i hX), rfl⟩
end Go.Proofs.Ytafdlofmgefdoaa

