/-
  The walk of the statement BitsApart: for every word and every two places the law answers true; no conditions.
-/
import Derived.Test.YtgcgohmchelcmaaBitAwake
namespace Go.Proofs.Ytgcgohmchelcmaa.bitsApart
open Go.RowKit
theorem f1 {X a : Nat} (hX : X < 18446744073709551616) (ha : a < 64) : (clrb X a).testBit a = false ∧ (setb X a).testBit a = true ∧ clrb (setb X a) a = clrb X a := by
  refine ⟨by rw [clrb_bit hX ha]; simp, by rw [setb_bit]; simp, ?_⟩
  apply Nat.eq_of_testBit_eq
  intro k
  rw [clrb_bit (setb_lt hX ha) ha, clrb_bit hX ha, setb_bit]
  by_cases e : a = k <;> simp [e]
theorem f2 {X a b : Nat} (hX : X < 18446744073709551616) (ha : a < 64) (hb : b < 64) (h : a ≠ b) : setb (clrb X b) a = clrb (setb X a) b ∧ (setb X a).testBit b = X.testBit b := by
  refine ⟨?_, by rw [setb_bit]; simp [h]⟩
  apply Nat.eq_of_testBit_eq
  intro k
  rw [clrb_bit (setb_lt hX ha) hb, setb_bit, setb_bit, clrb_bit hX hb]
  by_cases e : a = k
  · subst e; have : ¬ b = a := fun h' => h h'.symm
    simp [this]
  · by_cases e2 : b = k <;> simp [e, e2]
theorem walk (a0 : Int) (a1 : Int) (a2 : Int) (w0 : (Lit.int .u64 a0).wf = true) (w1 : (Lit.int .u8 a1).wf = true) (w2 : (Lit.int .u8 a2).wf = true) (w : World) :
    Calls Try.prog 6 #[.int .u64 a0, .int .u8 a1, .int .u8 a2] w fun e w' => e = .returned (.bool true) ∧ Grown w w' := by
  obtain ⟨X, rfl, hX⟩ := wf_u64 w0
  obtain ⟨I, rfl, hI⟩ := wf_u8 w1
  obtain ⟨K, rfl, hK⟩ := wf_u8 w2
  clear w0 w1 w2
  obtain ⟨a, ha, ha'⟩ : ∃ a : Nat, (I : Int) % 64 = a ∧ a < 64 := ⟨I % 64, by omega, by omega⟩
  obtain ⟨b, hb, hb'⟩ : ∃ b : Nat, (K : Int) % 64 = b ∧ b < 64 := ⟨K % 64, by omega, by omega⟩
  have l1 : setb X a < 18446744073709551616 := setb_lt hX ha'
  have l2 : clrb X a < 18446744073709551616 := clrb_lt hX
  have l3 : clrb X b < 18446744073709551616 := clrb_lt hX
  obtain ⟨g1, g2, g3⟩ := f1 hX ha'
  by_cases hab : a = b
  · subst hab
    go_enter Try.func6, Try.ntmps6
    go_wp2_with (first
      | (go_at_call 8; refine (awake_any _).mono ?_; rintro e w' ⟨rfl, rfl⟩)
      | (go_at_call 11; refine (has_any _ _ (by assumption) (by assumption) _).mono ?_; rintro e w' ⟨rfl, rfl⟩)
      | (go_at_call 13; refine (set_any _ _ (by assumption) (by assumption) _).mono ?_; rintro e w' ⟨rfl, rfl⟩)
      | (go_at_call 15; refine (clear_any _ _ (by assumption) (by assumption) _).mono ?_; rintro e w' ⟨rfl, rfl⟩))
    go_ret
    exact ⟨rfl, Grown.refl _⟩
  · obtain ⟨g4, g5⟩ := f2 hX ha' hb' hab
    go_enter Try.func6, Try.ntmps6
    go_wp2_with (first
      | (go_at_call 8; refine (awake_any _).mono ?_; rintro e w' ⟨rfl, rfl⟩)
      | (go_at_call 11; refine (has_any _ _ (by assumption) (by assumption) _).mono ?_; rintro e w' ⟨rfl, rfl⟩)
      | (go_at_call 13; refine (set_any _ _ (by assumption) (by assumption) _).mono ?_; rintro e w' ⟨rfl, rfl⟩)
      | (go_at_call 15; refine (clear_any _ _ (by assumption) (by assumption) _).mono ?_; rintro e w' ⟨rfl, rfl⟩))
    go_ret
    exact ⟨rfl, Grown.refl _⟩
end Go.Proofs.Ytgcgohmchelcmaa.bitsApart
