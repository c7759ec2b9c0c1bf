/-
  What Find of package hint and the document's Find answer of a word and two places up to 64: the same.
-/
import Derived.Test.YtlaejiephpmniaaHintFur
namespace Go.Proofs.Ytlaejiephpmniaa
open Go.RowKit
/-- The word with the bits below f set. -/
def fl_ (X f : Nat) : Nat := X ||| msk f
theorem fl_bit (X f k : Nat) : (fl_ X f).testBit k = (X.testBit k || decide (k < f)) := by
  unfold fl_ msk; rw [Nat.testBit_or, mask_bit]
theorem fl_lt {X f : Nat} (hX : X < 18446744073709551616) (hf : f ≤ 64) : fl_ X f < 18446744073709551616 := by
  have h : (18446744073709551616 : Nat) = 2 ^ 64 := by decide
  rw [h] at hX ⊢
  exact Nat.or_lt_two_pow hX (by have := msk_lt hf; rw [h] at this; exact this)
theorem hfind_any (X f t : Nat) (hX : X < 18446744073709551616) (hf : f ≤ 64) (ht : t ≤ 64) (w : World) :
    Calls Try.prog 45 #[.int .u64 X, .int .i64 f, .int .i64 t] w fun e w' => e = .returned (.tuple #[.int .i64 (fi (fl_ X f) t : Nat), .bool (fb (fl_ X f) t)]) ∧ w = w' := by
  by_cases h : t ≤ f
  · have e := fi_not (X := fl_ X f) (n := t) (fun k hk => by rw [fl_bit]; simp; omega)
    rw [e.1, e.2]
    clear e
    go_enter Try.func45, Try.ntmps45
    go_wp2
    go_ret2
    exact ⟨rfl, rfl⟩
  · have hm := msk_lt hf
    have e : Hid (Go.bits .or .u64 (X : Int) (msk f : Nat) = (fl_ X f : Nat)) := Lib.hid (u64_or_nat X (msk f) hX hm)
    have T := fun w => Lib.hid (first_any (fl_ X f) t (fl_lt hX hf) ht w)
    go_enter Try.func45, Try.ntmps45
    go_wp2_with (first
      | (go_at_call 58; refine (mask_any _ hf _).mono ?_; rintro e w' ⟨rfl, rfl⟩)
      | (rw [e.out]; (with_reducible refine ((T _).out).mono ?_); rintro e w' ⟨rfl, rfl⟩)
      | ((with_reducible refine ((T _).out).mono ?_); rintro e w' ⟨rfl, rfl⟩))
    go_ret2
    exact ⟨rfl, rfl⟩
end Go.Proofs.Ytlaejiephpmniaa

