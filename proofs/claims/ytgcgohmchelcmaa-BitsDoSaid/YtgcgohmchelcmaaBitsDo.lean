/-
  The walk of the statement BitsDo: for every word, place and number the law answers true; no conditions.
-/
import Derived.Test.YtgcgohmchelcmaaBitAwake
namespace Go.Proofs.Ytgcgohmchelcmaa.bitsDo
open Go.RowKit
theorem m1 (m : Nat) (hm : m ≤ 64) : cnt (msk m) 64 = m ∧ (0 < m → (msk m).testBit (m - 1) = true) ∧ (msk m).testBit m = false := by
  refine ⟨?_, fun h => ?_, ?_⟩
  · have h := cnt_low (2 ^ m - 1) m hm
    rw [cnt_all m (fun k hk => by rw [mask_bit]; simp [hk])] at h
    rw [Nat.and_self] at h
    exact h.symm
  · unfold msk; rw [mask_bit]; simp; omega
  · unfold msk; rw [mask_bit]; simp
theorem walk (a0 : Int) (a1 : Int) (a2 : Int) (w0 : (Lit.int .u64 a0).wf = true) (w1 : (Lit.int .u8 a1).wf = true) (w2 : (Lit.int .u8 a2).wf = true) (w : World) :
    Calls Try.prog 3 #[.int .u64 a0, .int .u8 a1, .int .u8 a2] w fun e w' => e = .returned (.bool true) ∧ Grown w w' := by
  obtain ⟨X, rfl, hX⟩ := wf_u64 w0
  obtain ⟨I, rfl, hI⟩ := wf_u8 w1
  obtain ⟨K, rfl, hK⟩ := wf_u8 w2
  clear w0 w1 w2
  obtain ⟨k, hk, hk'⟩ : ∃ a : Nat, (I : Int) % 64 = a ∧ a < 64 := ⟨I % 64, by omega, by omega⟩
  obtain ⟨m, hm, hm'⟩ : ∃ b : Nat, (K : Int) % 65 = b ∧ b ≤ 64 := ⟨K % 65, by omega, by omega⟩
  obtain ⟨g1, g2, g3⟩ := m1 m hm'
  have l1 := msk_lt hm'
  by_cases hm0 : m = 0
  · have e0 : ((m : Int) == 0) = true := by simp; omega
    have e64 : ((m : Int) == 64) = false := by simp; omega
    have hm64 : m < 64 := by omega
    have H0 := Lib.hid hm0
    clear g2 hm0
    go_enter Try.func3, Try.ntmps3
    go_wp2_with (first
    | (go_at_call 8; refine (awake_any _).mono ?_; rintro e w' ⟨rfl, rfl⟩)
    | ((with_reducible refine (mask_any _ (by assumption) _).mono ?_); rintro e w' ⟨rfl, rfl⟩)
    | ((with_reducible refine (first_any _ _ (by assumption) (by assumption) _).mono ?_); rintro e w' ⟨rfl, rfl⟩)
    | ((with_reducible refine (rfirst_any _ _ (by assumption) (by assumption) _).mono ?_); rintro e w' ⟨rfl, rfl⟩)
    | ((with_reducible refine (count_64 _ (by assumption) _).mono ?_); rintro e w' ⟨rfl, rfl⟩)
    | ((with_reducible refine (count_any _ _ (by assumption) (by assumption) _).mono ?_); rintro e w' ⟨rfl, rfl⟩)
    | ((with_reducible refine (rcount_any _ _ (by assumption) (by assumption) _).mono ?_); rintro e w' ⟨rfl, rfl⟩)
    | ((with_reducible refine (has_any _ _ (by assumption) (by assumption) _).mono ?_); rintro e w' ⟨rfl, rfl⟩)
    | ((with_reducible refine (set_any _ _ (by assumption) (by assumption) _).mono ?_); rintro e w' ⟨rfl, rfl⟩)
    | ((with_reducible refine (clear_any _ _ (by assumption) (by assumption) _).mono ?_); rintro e w' ⟨rfl, rfl⟩)
    | ((with_reducible refine (rhas_any _ _ (by assumption) (by assumption) _).mono ?_); rintro e w' ⟨rfl, rfl⟩)
    | ((with_reducible refine (rset_any _ _ (by assumption) (by assumption) _).mono ?_); rintro e w' ⟨rfl, rfl⟩)
    | ((with_reducible refine (rclear_any _ _ (by assumption) (by assumption) _).mono ?_); rintro e w' ⟨rfl, rfl⟩))
    go_ret
    exact ⟨rfl, Grown.refl _⟩
  · have hpos : 0 < m := by omega
    have g2' := g2 hpos
    obtain ⟨j, hj, hj'⟩ : ∃ j : Nat, (m : Int) - 1 = j ∧ m - 1 = j := ⟨m - 1, by omega, rfl⟩
    have hj64 : j < 64 := by omega
    have e0 : ((m : Int) == 0) = false := by simp; omega
    rw [hj'] at g2'
    clear g2 hj' hm0
    by_cases h64 : m = 64
    · have e64 : ((m : Int) == 64) = true := by simp; omega
      clear h64
      go_enter Try.func3, Try.ntmps3
      go_wp2_with (first
      | (go_at_call 8; refine (awake_any _).mono ?_; rintro e w' ⟨rfl, rfl⟩)
      | ((with_reducible refine (mask_any _ (by assumption) _).mono ?_); rintro e w' ⟨rfl, rfl⟩)
      | ((with_reducible refine (first_any _ _ (by assumption) (by assumption) _).mono ?_); rintro e w' ⟨rfl, rfl⟩)
      | ((with_reducible refine (rfirst_any _ _ (by assumption) (by assumption) _).mono ?_); rintro e w' ⟨rfl, rfl⟩)
      | ((with_reducible refine (count_64 _ (by assumption) _).mono ?_); rintro e w' ⟨rfl, rfl⟩)
      | ((with_reducible refine (count_any _ _ (by assumption) (by assumption) _).mono ?_); rintro e w' ⟨rfl, rfl⟩)
      | ((with_reducible refine (rcount_any _ _ (by assumption) (by assumption) _).mono ?_); rintro e w' ⟨rfl, rfl⟩)
      | ((with_reducible refine (has_any _ _ (by assumption) (by assumption) _).mono ?_); rintro e w' ⟨rfl, rfl⟩)
      | ((with_reducible refine (set_any _ _ (by assumption) (by assumption) _).mono ?_); rintro e w' ⟨rfl, rfl⟩)
      | ((with_reducible refine (clear_any _ _ (by assumption) (by assumption) _).mono ?_); rintro e w' ⟨rfl, rfl⟩)
      | ((with_reducible refine (rhas_any _ _ (by assumption) (by assumption) _).mono ?_); rintro e w' ⟨rfl, rfl⟩)
      | ((with_reducible refine (rset_any _ _ (by assumption) (by assumption) _).mono ?_); rintro e w' ⟨rfl, rfl⟩)
      | ((with_reducible refine (rclear_any _ _ (by assumption) (by assumption) _).mono ?_); rintro e w' ⟨rfl, rfl⟩))
      go_ret
      exact ⟨rfl, Grown.refl _⟩
    · have hm64 : m < 64 := by omega
      have e64 : ((m : Int) == 64) = false := by simp; omega
      clear h64
      go_enter Try.func3, Try.ntmps3
      go_wp2_with (first
      | (go_at_call 8; refine (awake_any _).mono ?_; rintro e w' ⟨rfl, rfl⟩)
      | ((with_reducible refine (mask_any _ (by assumption) _).mono ?_); rintro e w' ⟨rfl, rfl⟩)
      | ((with_reducible refine (first_any _ _ (by assumption) (by assumption) _).mono ?_); rintro e w' ⟨rfl, rfl⟩)
      | ((with_reducible refine (rfirst_any _ _ (by assumption) (by assumption) _).mono ?_); rintro e w' ⟨rfl, rfl⟩)
      | ((with_reducible refine (count_64 _ (by assumption) _).mono ?_); rintro e w' ⟨rfl, rfl⟩)
      | ((with_reducible refine (count_any _ _ (by assumption) (by assumption) _).mono ?_); rintro e w' ⟨rfl, rfl⟩)
      | ((with_reducible refine (rcount_any _ _ (by assumption) (by assumption) _).mono ?_); rintro e w' ⟨rfl, rfl⟩)
      | ((with_reducible refine (has_any _ _ (by assumption) (by assumption) _).mono ?_); rintro e w' ⟨rfl, rfl⟩)
      | ((with_reducible refine (set_any _ _ (by assumption) (by assumption) _).mono ?_); rintro e w' ⟨rfl, rfl⟩)
      | ((with_reducible refine (clear_any _ _ (by assumption) (by assumption) _).mono ?_); rintro e w' ⟨rfl, rfl⟩)
      | ((with_reducible refine (rhas_any _ _ (by assumption) (by assumption) _).mono ?_); rintro e w' ⟨rfl, rfl⟩)
      | ((with_reducible refine (rset_any _ _ (by assumption) (by assumption) _).mono ?_); rintro e w' ⟨rfl, rfl⟩)
      | ((with_reducible refine (rclear_any _ _ (by assumption) (by assumption) _).mono ?_); rintro e w' ⟨rfl, rfl⟩))
      go_ret
      exact ⟨rfl, Grown.refl _⟩
end Go.Proofs.Ytgcgohmchelcmaa.bitsDo
