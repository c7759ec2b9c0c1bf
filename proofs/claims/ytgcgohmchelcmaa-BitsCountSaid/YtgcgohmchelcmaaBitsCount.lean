/-
  The walk of the statement BitsCount: for every word and number the law answers true; no conditions.
-/
import Derived.Test.YtgcgohmchelcmaaBitAwake
namespace Go.Proofs.Ytgcgohmchelcmaa.bitsCount
open Go.RowKit
theorem xor_not (X : Nat) (hX : X < 18446744073709551616) : Go.bits .xor .u64 IntKind.u64.max (X : Int) = ((18446744073709551615 - X : Nat) : Int) := by
  have e : IntKind.u64.max = ((18446744073709551615 : Nat) : Int) := by decide
  rw [e, u64_xor_nat _ _ (by decide) hX]
  congr 1
  apply Nat.eq_of_testBit_eq
  intro k
  rw [Nat.testBit_xor, not_bit hX, ones_bit]
  by_cases h : k < 64
  · simp [h]
  · simp [h, bit_high hX (show 64 ≤ k by omega)]
theorem walk (a0 : Int) (a1 : Int) (w0 : (Lit.int .u64 a0).wf = true) (w1 : (Lit.int .u8 a1).wf = true) (w : World) :
    Calls Try.prog 7 #[.int .u64 a0, .int .u8 a1] w fun e w' => e = .returned (.bool true) ∧ Grown w w' := by
  obtain ⟨X, rfl, hX⟩ := wf_u64 w0
  obtain ⟨I, rfl, hI⟩ := wf_u8 w1
  clear w0 w1
  obtain ⟨m, hm, hm'⟩ : ∃ a : Nat, (I : Int) % 65 = a ∧ a ≤ 64 := ⟨I % 65, by omega, by omega⟩
  have hL0 := u64_and_nat X (msk m) hX (msk_lt hm')
  have c1 : cnt X m = cnt (X &&& msk m) 64 := cnt_low X m hm'
  have c2 : cnt X 64 = cnt (X &&& msk m) 64 + cnt (X - (X &&& msk m)) 64 := cnt_parts X m 64
  have c3 := cnt_not hX
  have hle : X &&& msk m ≤ X := Nat.and_le_left
  generalize X &&& msk m = L at hL0 c1 c2 hle
  have hL : L < 18446744073709551616 := by omega
  obtain ⟨D, hD, hDl, hDD⟩ : ∃ D : Nat, (X : Int) - L = D ∧ D < 18446744073709551616 ∧ X - L = D := ⟨X - L, by omega, by omega, rfl⟩
  rw [hDD] at c2
  have hx : Go.bits .xor .u64 IntKind.u64.max (X : Int) = ((18446744073709551615 - X : Nat) : Int) := xor_not X hX
  have hN : 18446744073709551615 - X < 18446744073709551616 := by omega
  have hs : IntKind.u64.signed = false := rfl
  generalize 18446744073709551615 - X = N at hx c3 hN
  clear hDD
  have b1 := cnt_le L 64
  have b2 := cnt_le D 64
  have b3 := cnt_le X 64
  have c3' : (cnt N 64 : Int) = 64 - (cnt L 64 + cnt D 64) := by omega
  have b4 : 64 - ((cnt L 64 : Int) + cnt D 64) ≤ 64 := by omega
  clear c3
  go_enter Try.func7, Try.ntmps7
  go_wp2_with (first
      | (go_at_call 8; refine (awake_any _).mono ?_; rintro e w' ⟨rfl, rfl⟩)
      | ((with_reducible refine (mask_any _ (by assumption) _).mono ?_); rintro e w' ⟨rfl, rfl⟩)
      | ((with_reducible refine (count_64 _ (by assumption) _).mono ?_); rintro e w' ⟨rfl, rfl⟩)
      | ((with_reducible refine (count_0 _ (by assumption) _).mono ?_); rintro e w' ⟨rfl, rfl⟩)
      | ((with_reducible refine (count_any _ _ (by assumption) (by assumption) _).mono ?_); rintro e w' ⟨rfl, rfl⟩))
  trace_state
  go_ret
  exact ⟨rfl, Grown.refl _⟩
end Go.Proofs.Ytgcgohmchelcmaa.bitsCount
