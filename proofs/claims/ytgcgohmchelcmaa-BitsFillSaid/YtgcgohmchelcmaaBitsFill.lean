/-
  The walk of the statement BitsFill: for every word and number the law answers true; no conditions.
-/
import Derived.Test.YtgcgohmchelcmaaBitAwake
namespace Go.Proofs.Ytgcgohmchelcmaa.bitsFill
open Go.RowKit
def Fill (X m k Y c : Nat) : Prop := Y < 18446744073709551616 ∧ cnt Y m = c ∧ k ≤ c ∧ Y ||| msk m = X ||| msk m
theorem fill_step {X m k Y c : Nat} (hm : m ≤ 64) (h : Fill X m k Y c) (hf : fb Y m = true) : Fill X m (k + 1) (setb Y (fi Y m)) (c + 1) := by
  obtain ⟨h1, h2, h3, h4⟩ := h
  obtain ⟨y1, y2, _⟩ := f_yes hf
  refine ⟨setb_lt h1 (by omega), by rw [cnt_setb _ _ _ y1 y2, h2], by omega, ?_⟩
  rw [← h4]
  apply Nat.eq_of_testBit_eq
  intro j
  unfold msk
  rw [Nat.testBit_or, Nat.testBit_or, setb_bit, mask_bit]
  by_cases e : fi Y m = j
  · have : j < m := by omega
    simp [this]
  · simp [e]
theorem fill_end {X m k Y c : Nat} (hX : X < 18446744073709551616) (hm : m ≤ 64) (h : Fill X m k Y c) (he : 64 ≤ k ∨ fb Y m = false) :
    c = m ∧ Go.bits .and .u64 (Y : Int) (msk m : Nat) = (msk m : Nat) ∧ ∃ O : Nat, Go.bits .or .u64 (Y : Int) (msk m : Nat) = O ∧ Go.bits .or .u64 (X : Int) (msk m : Nat) = O := by
  obtain ⟨h1, h2, h3, h4⟩ := h
  have hall : ∀ j, j < m → Y.testBit j = true := by
    rcases he with he | he
    · intro j hj
      cases hb : Y.testBit j with
      | true => rfl
      | false => have := cnt_lt m j hj hb; omega
    · exact (f_no he).2
  refine ⟨by rw [← h2]; exact cnt_all m hall, ?_, X ||| msk m, ?_, ?_⟩
  · rw [u64_and_nat _ _ h1 (msk_lt hm)]
    congr 1
    apply Nat.eq_of_testBit_eq
    intro j
    unfold msk
    rw [Nat.testBit_and, mask_bit]
    by_cases hj : j < m
    · simp [hj, hall j hj]
    · simp [hj]
  · rw [u64_or_nat _ _ h1 (msk_lt hm), h4]
  · rw [u64_or_nat _ _ hX (msk_lt hm)]
set_option maxHeartbeats 1000000 in
theorem walk (a0 : Int) (a1 : Int) (w0 : (Lit.int .u64 a0).wf = true) (w1 : (Lit.int .u8 a1).wf = true) (w : World) :
    Calls Try.prog 5 #[.int .u64 a0, .int .u8 a1] w fun e w' => e = .returned (.bool true) ∧ Grown w w' := by
  obtain ⟨X, rfl, hX⟩ := wf_u64 w0
  obtain ⟨I, rfl, hI⟩ := wf_u8 w1
  clear w0 w1
  obtain ⟨m, hm, hm'⟩ : ∃ a : Nat, (I : Int) % 65 = a ∧ a ≤ 64 := ⟨I % 65, by omega, by omega⟩
  go_enter Try.func5, Try.ntmps5
  go_wp2_with (first
      | (go_at_call 8; refine (awake_any _).mono ?_; rintro e w' ⟨rfl, rfl⟩)
      | ((with_reducible refine (count_any _ _ (by assumption) (by assumption) _).mono ?_); rintro e w' ⟨rfl, rfl⟩))
  go_loop [6, 7, 8] (fun t x k => ∃ j Y c : Nat, j ≤ 64 ∧ t = .int .i64 c ∧ x = .int .u64 Y ∧ k = .int .i64 j ∧ Fill X m j Y c) (fun _ _ k => 64 - (intOf k).toNat)
  case atStart => exact ⟨0, X, _, Nat.zero_le _, rfl, rfl, rfl, hX, rfl, Nat.zero_le _, rfl⟩
  case round =>
    obtain ⟨j, Y, c, hj, rfl, rfl, rfl, hF⟩ := hrel
    have hY : Y < 18446744073709551616 := hF.1
    have hc : c ≤ m := by rw [← hF.2.1]; exact cnt_le Y m
    by_cases hlt : j < 64
    · cases hf : fb Y m with
      | true =>
        have hfi : fi Y m < 64 := by have := (f_yes hf).1; omega
        have hS := fill_step hm' hF hf
        have fst1 : ∀ w, Calls Try.prog 9 #[.int .u64 Y, .int .i64 m] w fun e w' => e = .returned (.tuple #[.int .i64 (fi Y m), .bool true]) ∧ w = w' := fun w => hf ▸ first_any Y m hY hm' w
        clear hf hF
        go_wp2_with (first
          | ((with_reducible refine (fst1 _).mono ?_); rintro e w' ⟨rfl, rfl⟩)
          | ((with_reducible refine (set_any _ _ (by assumption) (by assumption) _).mono ?_); rintro e w' ⟨rfl, rfl⟩))
        go_round
        case rel => exact ⟨j + 1, _, c + 1, by omega, by go_num, rfl, by go_num, hS⟩
        case measure => simp [intOf]; omega
      | false =>
        obtain ⟨e1, e2, O, e3, e4⟩ := fill_end hX hm' hF (.inr hf)
        have fst1 : ∀ w, Calls Try.prog 9 #[.int .u64 Y, .int .i64 m] w fun e w' => e = .returned (.tuple #[.int .i64 (fi Y m), .bool false]) ∧ w = w' := fun w => hf ▸ first_any Y m hY hm' w
        have E := (beq_iff_eq (a := (c : Int)) (b := (m : Int))).2 (by omega)
        clear hf hF e1 hc
        go_wp2_with (first
          | ((with_reducible refine (fst1 _).mono ?_); rintro e w' ⟨rfl, rfl⟩)
          | ((with_reducible refine (mask_any _ (by assumption) _).mono ?_); rintro e w' ⟨rfl, rfl⟩))
        go_ret
        exact ⟨rfl, Grown.refl _⟩
    · obtain ⟨e1, e2, O, e3, e4⟩ := fill_end hX hm' hF (.inl (by omega))
      have E := (beq_iff_eq (a := (c : Int)) (b := (m : Int))).2 (by omega)
      clear hF e1 hc
      go_wp2_with (
          ((with_reducible refine (mask_any _ (by assumption) _).mono ?_); rintro e w' ⟨rfl, rfl⟩))
      go_ret
      exact ⟨rfl, Grown.refl _⟩
end Go.Proofs.Ytgcgohmchelcmaa.bitsFill
