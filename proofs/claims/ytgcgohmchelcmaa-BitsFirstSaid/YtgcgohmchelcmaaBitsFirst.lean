/-
  The walk of the statement BitsFirst: for every word and number the law answers true; no conditions.
-/
import Derived.Test.YtgcgohmchelcmaaBitAwake
namespace Go.Proofs.Ytgcgohmchelcmaa.bitsFirst
open Go.RowKit
set_option maxHeartbeats 1000000 in
theorem walk (a0 : Int) (a1 : Int) (w0 : (Lit.int .u64 a0).wf = true) (w1 : (Lit.int .u8 a1).wf = true) (w : World) :
    Calls Try.prog 4 #[.int .u64 a0, .int .u8 a1] w fun e w' => e = .returned (.bool true) ∧ Grown w w' := by
  obtain ⟨X, rfl, hX⟩ := wf_u64 w0
  obtain ⟨I, rfl, hI⟩ := wf_u8 w1
  clear w0 w1
  obtain ⟨m, hm, hm'⟩ : ∃ a : Nat, (I : Int) % 65 = a ∧ a ≤ 64 := ⟨I % 65, by omega, by omega⟩
  cases hf : fb X m with
  | false =>
    have c1 : cnt X m = m := cnt_all m (f_no hf).2
    go_enter Try.func4, Try.ntmps4
    go_wp2_with (first
      | (go_at_call 8; refine (awake_any _).mono ?_; rintro e w' ⟨rfl, rfl⟩)
      | ((with_reducible refine (first_any _ _ (by assumption) (by assumption) _).mono ?_); rintro e w' ⟨rfl, rfl⟩)
      | ((with_reducible refine (count_any _ _ (by assumption) (by assumption) _).mono ?_); rintro e w' ⟨rfl, rfl⟩))
    go_ret
    exact ⟨rfl, Grown.refl _⟩
  | true =>
    obtain ⟨y1, y2, y3⟩ := f_yes hf
    have fst1 : ∀ w, Calls Try.prog 9 #[.int .u64 X, .int .i64 m] w fun e w' => e = .returned (.tuple #[.int .i64 (fi X m), .bool true]) ∧ w = w' := fun w => hf ▸ first_any X m hX hm' w
    generalize fi X m = i at y1 y2 y3 fst1
    have hi : i < 64 := by omega
    have l1 := setb_lt hX hi
    have c1 := cnt_setb X i m y1 y2
    have c2 := cnt_lt m i y1 y2
    have c3 := clrb_setb hX hi y2
    have c4 : (setb X i).testBit i = true := by rw [setb_bit]; simp
    have c5 := fi_le (setb X i) m
    have H3 := Lib.hid y3
    clear y3
    have more : fb (setb X i) m = true → i < fi (setb X i) m := fun h => by
      have g := f_yes h
      by_cases e : fi (setb X i) m < i
      · have := g.2.1; rw [setb_bit, H3.out _ e] at this; simp at this
      · by_cases e2 : fi (setb X i) m = i
        · have := g.2.1; rw [e2, c4] at this; simp at this
        · omega
    have H1 := Lib.hid c1
    have H2 := Lib.hid y2
    have HC := Lib.hid c3
    have H4 := Lib.hid c4
    have HM := Lib.hid more
    have HF := Lib.hid hf
    clear c1 y2 c3 c4 more hf
    go_enter Try.func4, Try.ntmps4
    go_wp2_with (first
      | (go_at_call 8; refine (awake_any _).mono ?_; rintro e w' ⟨rfl, rfl⟩)
      | ((with_reducible refine (fst1 _).mono ?_); rintro e w' ⟨rfl, rfl⟩)
      | ((with_reducible refine (set_any _ _ (by assumption) (by assumption) _).mono ?_); rintro e w' ⟨rfl, rfl⟩))
    go_loop [9] (fun t => ∃ k : Nat, k ≤ i ∧ t = .int .i64 k) (fun t => i - (intOf t).toNat)
    case atStart => exact ⟨0, Nat.zero_le _, rfl⟩
    case round =>
      obtain ⟨k, hk, rfl⟩ := hrel
      by_cases hlt : k < i
      · have hasj : ∀ w, Calls Try.prog 11 #[.int .u64 X, .int .i64 k] w fun e w' => e = .returned (.bool true) ∧ w = w' := fun w => H3.out k hlt ▸ has_any X k hX (by omega) w
        go_wp2_with (((with_reducible refine (hasj _).mono ?_); rintro e w' ⟨rfl, rfl⟩))
        go_round
        case rel => exact ⟨k + 1, by omega, by go_num⟩
        case measure => simp [intOf]; omega
      · have c1 := H1.out
        have y2 := H2.out
        have c3 := HC.out
        have c4 := H4.out
        have c5' := cnt_le X m
        clear fst1
        cases hg : fb (setb X i) m with
        | false =>
          go_wp2_with (first
            | ((with_reducible refine (first_any _ _ (by assumption) (by assumption) _).mono ?_); rintro e w' ⟨rfl, rfl⟩)
            | ((with_reducible refine (has_any _ _ (by assumption) (by assumption) _).mono ?_); rintro e w' ⟨rfl, rfl⟩)
            | ((with_reducible refine (clear_any _ _ (by assumption) (by assumption) _).mono ?_); rintro e w' ⟨rfl, rfl⟩)
            | ((with_reducible refine (count_any _ _ (by assumption) (by assumption) _).mono ?_); rintro e w' ⟨rfl, rfl⟩))
          go_ret
          exact ⟨rfl, Grown.refl _⟩
        | true =>
          have hm1 := HM.out hg
          go_wp2_with (first
            | ((with_reducible refine (first_any _ _ (by assumption) (by assumption) _).mono ?_); rintro e w' ⟨rfl, rfl⟩)
            | ((with_reducible refine (has_any _ _ (by assumption) (by assumption) _).mono ?_); rintro e w' ⟨rfl, rfl⟩)
            | ((with_reducible refine (clear_any _ _ (by assumption) (by assumption) _).mono ?_); rintro e w' ⟨rfl, rfl⟩)
            | ((with_reducible refine (count_any _ _ (by assumption) (by assumption) _).mono ?_); rintro e w' ⟨rfl, rfl⟩))
          go_ret
          exact ⟨rfl, Grown.refl _⟩
end Go.Proofs.Ytgcgohmchelcmaa.bitsFirst
