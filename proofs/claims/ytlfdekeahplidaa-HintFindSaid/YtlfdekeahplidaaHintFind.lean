/-
  The walk of the law HintFind: for every word and places it answers true.
-/
import Derived.Test.YtlfdekeahplidaaHintAwake
namespace Go.Proofs.Ytlfdekeahplidaa.hintFind
open Go.RowKit
set_option linter.unusedVariables false
theorem bit_of {X f k : Nat} (h : (fl_ X f).testBit k = true) (hk : f ≤ k) : X.testBit k = true := by
  rw [fl_bit] at h; simpa [show ¬ k < f by omega] using h
set_option maxHeartbeats 2000000 in
theorem none_ {X f t F T : Nat} {w : World} (hF : (F : Int) % 65 = (f : Nat)) (hT : (T : Int) % 65 = (t : Nat)) (hF2 : F < 256) (hT2 : T < 256) (hX : X < 18446744073709551616) (hf : f ≤ 64) (ht : t ≤ 64) (h : fb (fl_ X f) t = false) :
    Calls Try.prog 7 #[.int .u64 X, .int .u8 F, .int .u8 T] w (RetBo true w) := by
  have C0 := fun w => Lib.hid (find_any X f t hX hf ht w)
  have hs := f_no h
  rw [h, hs.1] at C0
  have HB := Lib.hid hs.2
  clear hs h
  go_enter Try.func7, Try.ntmps7
  go_wp2_with (first | (go_at_call 9; refine (awake_any _).mono ?_; rintro e w1 ⟨rfl, K⟩) | ((with_reducible refine ((C0 _).out).mono ?_); rintro e w' ⟨rfl, rfl⟩))
  go_loop [11] (fun i => ∃ j : Nat, f ≤ j ∧ j ≤ 64 ∧ i = .int .i64 j) (fun i => t - (intOf i).toNat)
  case atStart => exact ⟨f, Nat.le_refl _, hf, rfl⟩
  case round =>
    obtain ⟨j, hj0, hj, rfl⟩ := hrel
    by_cases hlt : j < t
    · have hb := bit_of (HB.out j hlt) hj0
      have hasj : ∀ w, Calls Try.prog 24 #[.int .u64 X, .int .i64 j] w fun e w' => e = .returned (.bool true) ∧ w = w' := fun w => hb ▸ rhas_any X j hX (by omega) w
      clear hb
      go_wp2_with (go_at_call 24; refine (hasj _).mono ?_; rintro e w' ⟨rfl, rfl⟩)
      go_round
      case rel => exact ⟨j + 1, by omega, by omega, by go_num⟩
      case measure => simp [intOf]; omega
    · go_wp2
      go_ret
      exact ⟨rfl, K⟩
set_option maxHeartbeats 2000000 in
theorem some_ {X f t F T : Nat} {w : World} (hF : (F : Int) % 65 = (f : Nat)) (hT : (T : Int) % 65 = (t : Nat)) (hF2 : F < 256) (hT2 : T < 256) (hX : X < 18446744073709551616) (hf : f ≤ 64) (ht : t ≤ 64) (h : fb (fl_ X f) t = true) :
    Calls Try.prog 7 #[.int .u64 X, .int .u8 F, .int .u8 T] w (RetBo true w) := by
  have C0 := fun w => Lib.hid (find_any X f t hX hf ht w)
  obtain ⟨s1, s2, s3⟩ := f_yes h
  rw [h] at C0
  generalize fi (fl_ X f) t = b at C0 s1 s2 s3
  have s4 : f ≤ b := by
    rw [fl_bit] at s2
    simp at s2
    omega
  have s5 : X.testBit b = false := by
    rw [fl_bit] at s2
    simp at s2
    exact s2.1
  have hX2 := setb_lt hX (show b < 64 by omega)
  have C1 := fun w => Lib.hid (rset_any X b hX (by omega) w)
  have C2 := fun w => Lib.hid (find_any (setb X b) f t hX2 hf ht w)
  have C3 := fun w => Lib.hid (s5 ▸ rhas_any X b hX (by omega) w)
  obtain ⟨c, m, C2, HM⟩ : ∃ (c : Nat) (m : Bool), (∀ w, Hid (Calls Try.prog 12 #[.int .u64 (setb X b : Nat), .int .i64 f, .int .i64 t] w fun e w' => e = .returned (.tuple #[.int .i64 (c : Nat), .bool m]) ∧ w = w')) ∧ (m = true → b < c) := by
    refine ⟨_, _, C2, fun hm => ?_⟩
    obtain ⟨q1, q2, q3⟩ := f_yes hm
    generalize fi (fl_ (setb X b) f) t = c at *
    rw [fl_bit, setb_bit] at q2
    simp at q2
    by_cases hc : c < b
    · have := bit_of (s3 c hc) (by omega)
      rw [q2.1.1] at this; cases this
    · omega
  have HB := Lib.hid s3
  clear s2 s3 s5 h hX2
  generalize setb X b = Y at C1 C2
  have tail : ∀ (hm : m = true → b < c), (m = false ∨ (m = true ∧ decide (b < c) = true)) := fun hm => by
    cases m with
    | false => exact .inl rfl
    | true => exact .inr ⟨rfl, by have := hm rfl; simpa using this⟩
  have HT := tail HM
  clear tail HM
  go_enter Try.func7, Try.ntmps7
  go_wp2_with (first | (go_at_call 9; refine (awake_any _).mono ?_; rintro e w1 ⟨rfl, K⟩) | ((with_reducible refine ((C0 _).out).mono ?_); rintro e w' ⟨rfl, rfl⟩))
  go_loop [12] (fun i => ∃ j : Nat, f ≤ j ∧ j ≤ 64 ∧ i = .int .i64 j) (fun i => b - (intOf i).toNat)
  case atStart => exact ⟨f, Nat.le_refl _, hf, rfl⟩
  case round =>
    obtain ⟨j, hj0, hj, rfl⟩ := hrel
    by_cases hlt : j < b
    · have hb := bit_of (HB.out j hlt) hj0
      have hasj : ∀ w, Calls Try.prog 24 #[.int .u64 X, .int .i64 j] w fun e w' => e = .returned (.bool true) ∧ w = w' := fun w => hb ▸ rhas_any X j hX (by omega) w
      clear hb
      go_wp2_with (go_at_call 24; refine (hasj _).mono ?_; rintro e w' ⟨rfl, rfl⟩)
      go_round
      case rel => exact ⟨j + 1, by omega, by omega, by go_num⟩
      case measure => simp [intOf]; omega
    · have e1 : decide ((f : Int) ≤ (b : Int)) = true := by simp; omega
      have e2 : decide ((b : Int) < (t : Int)) = true := by simp; omega
      rcases HT with rfl | ⟨rfl, e3⟩
      all_goals
        go_wp2_with (first | ((with_reducible refine ((C1 _).out).mono ?_); rintro e w' ⟨rfl, rfl⟩) | ((with_reducible refine ((C2 _).out).mono ?_); rintro e w' ⟨rfl, rfl⟩) | ((with_reducible refine ((C3 _).out).mono ?_); rintro e w' ⟨rfl, rfl⟩))
        go_ret
        exact ⟨rfl, K⟩
theorem walk (a0 : Int) (a1 : Int) (a2 : Int) (w : World) (w0 : (Lit.int .u64 a0).wf = true) (w1 : (Lit.int .u8 a1).wf = true) (w2 : (Lit.int .u8 a2).wf = true) :
    Calls Try.prog 7 #[.int .u64 a0, .int .u8 a1, .int .u8 a2] w fun e w' => e = .returned (.bool true) ∧ Below w.heap.size w w' := by
  obtain ⟨X, rfl, hX⟩ := wf_u64 w0
  obtain ⟨F, rfl, hF⟩ := wf_u8 w1
  obtain ⟨T, rfl, hT⟩ := wf_u8 w2
  cases h : fb (fl_ X (F % 65)) (T % 65) with
  | false => exact none_ (f := F % 65) (t := T % 65) (by omega) (by omega) hF hT hX (by omega) (by omega) h
  | true => exact some_ (f := F % 65) (t := T % 65) (by omega) (by omega) hF hT hX (by omega) (by omega) h
end Go.Proofs.Ytlfdekeahplidaa.hintFind
