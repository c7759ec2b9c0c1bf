/-
  What Find of package hint and the document's Find answer of a word and two places up to 64: the same.
-/
import Derived.Test.YtlfdekeahplidaaCellRefs
namespace Go.Proofs.Ytlfdekeahplidaa
open Go.RowKit
/-- The word with the bits below f set. -/
def fl_ (X f : Nat) : Nat := X ||| msk f
theorem fl_bit (X f k : Nat) : (fl_ X f).testBit k = (X.testBit k || decide (k < f)) := by
  unfold fl_ msk; rw [Nat.testBit_or, mask_bit]
theorem fl_lt {X f : Nat} (hX : X < 18446744073709551616) (hf : f ≤ 64) : fl_ X f < 18446744073709551616 := by
  have h : (18446744073709551616 : Nat) = 2 ^ 64 := by decide
  rw [h] at hX ⊢
  exact Nat.or_lt_two_pow hX (by have := msk_lt hf; rw [h] at this; exact this)
theorem find_any (X f t : Nat) (hX : X < 18446744073709551616) (hf : f ≤ 64) (ht : t ≤ 64) (w : World) :
    Calls Try.prog 12 #[.int .u64 X, .int .i64 f, .int .i64 t] w fun e w' => e = .returned (.tuple #[.int .i64 (fi (fl_ X f) t : Nat), .bool (fb (fl_ X f) t)]) ∧ w = w' := by
  by_cases h : t ≤ f
  · have e := fi_not (X := fl_ X f) (n := t) (fun k hk => by rw [fl_bit]; simp; omega)
    rw [e.1, e.2]
    clear e
    go_enter Try.func12, Try.ntmps12
    go_wp2
    go_ret2
    exact ⟨rfl, rfl⟩
  · have hm := msk_lt hf
    have e : Hid (Go.bits .or .u64 (X : Int) (msk f : Nat) = (fl_ X f : Nat)) := Lib.hid (u64_or_nat X (msk f) hX hm)
    have T := fun w => Lib.hid (first_any (fl_ X f) t (fl_lt hX hf) ht w)
    go_enter Try.func12, Try.ntmps12
    go_wp2_with (first
      | (go_at_call 34; refine (mask_any _ hf _).mono ?_; rintro e w' ⟨rfl, rfl⟩)
      | (rw [e.out]; (with_reducible refine ((T _).out).mono ?_); rintro e w' ⟨rfl, rfl⟩)
      | ((with_reducible refine ((T _).out).mono ?_); rintro e w' ⟨rfl, rfl⟩))
    go_ret2
    exact ⟨rfl, rfl⟩
theorem rfind_any (X f t : Nat) (hX : X < 18446744073709551616) (hf : f ≤ 64) (ht : t ≤ 64) (w : World) :
    Calls Try.prog 13 #[.int .u64 X, .int .i64 f, .int .i64 t] w fun e w' => e = .returned (.tuple #[.int .i64 (fi (fl_ X f) t : Nat), .bool (fb (fl_ X f) t)]) ∧ w = w' := by
  go_enter Try.func13, Try.ntmps13
  go_wp2
  go_loop [8] (fun i => ∃ j : Nat, f ≤ j ∧ j ≤ 64 ∧ i = .int .i64 j ∧ Hid (∀ k, k < j → (fl_ X f).testBit k = true)) (fun i => t - (intOf i).toNat)
  case atStart => exact ⟨f, Nat.le_refl _, hf, rfl, Lib.hid (fun k hk => by rw [fl_bit]; simp; omega)⟩
  case round =>
    obtain ⟨j, hj0, hj, rfl, ha⟩ := hrel
    by_cases hlt : j < t
    · cases hb : X.testBit j with
      | true =>
        have hasj : ∀ w, Calls Try.prog 24 #[.int .u64 X, .int .i64 j] w fun e w' => e = .returned (.bool true) ∧ w = w' := fun w => hb ▸ rhas_any X j hX (by omega) w
        have HB := Lib.hid hb; clear hb
        go_wp2_with (go_at_call 24; refine (hasj _).mono ?_; rintro e w' ⟨rfl, rfl⟩)
        go_round
        case rel => exact ⟨j + 1, by omega, by omega, by go_num, Lib.hid (fun k hk => by
          by_cases e : k = j
          · rw [fl_bit, e, HB.out]; rfl
          · exact ha.out k (by omega))⟩
        case measure => simp [intOf]; omega
      | false =>
        have hasj : ∀ w, Calls Try.prog 24 #[.int .u64 X, .int .i64 j] w fun e w' => e = .returned (.bool false) ∧ w = w' := fun w => hb ▸ rhas_any X j hX (by omega) w
        have HB := Lib.hid hb; clear hb
        go_wp2_with (go_at_call 24; refine (hasj _).mono ?_; rintro e w' ⟨rfl, rfl⟩)
        go_ret2
        have f := fi_of hlt (by rw [fl_bit, HB.out]; simp; omega) ha.out
        exact ⟨ret_ib (by rw [f.1]) f.2.symm, rfl⟩
    · go_wp2
      go_ret2
      have f := fi_not (X := fl_ X f) (n := t) (fun k hk => ha.out k (by omega))
      exact ⟨ret_ib (by rw [f.1]; rfl) f.2.symm, rfl⟩
end Go.Proofs.Ytlfdekeahplidaa
