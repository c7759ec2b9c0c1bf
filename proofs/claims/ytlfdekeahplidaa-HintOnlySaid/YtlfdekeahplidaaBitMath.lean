/-
  Plain facts on the bits of a natural number: setting, clearing, counting, the first bit that isn't set, a mask; no condition on the program, none of it is named here.
-/
import Derived.Test.YtlfdekeahplidaaBlockMath
namespace Go.Proofs.Ytlfdekeahplidaa

def cnt (X : Nat) : Nat → Nat
  | 0 => 0
  | n + 1 => cnt X n + (X.testBit n).toNat
def pw (i : Nat) : Nat := 2 ^ i
def setb (X i : Nat) : Nat := X ||| 2 ^ i
def clrb (X i : Nat) : Nat := X &&& (18446744073709551615 - 2 ^ i)
def frst (X : Nat) : Nat → Option Nat
  | 0 => none
  | n + 1 => match frst X n with
    | some i => some i
    | none => if X.testBit n then none else some n
def fi (X n : Nat) : Nat := (frst X n).getD 0
def fb (X n : Nat) : Bool := (frst X n).isSome

theorem cnt_le (X n : Nat) : cnt X n ≤ n := by
  induction n with
  | zero => simp [cnt]
  | succ n ih => have := Bool.toNat_le (X.testBit n); simp only [cnt]; omega

theorem cnt_congr {X Y : Nat} (n : Nat) (h : ∀ k, k < n → X.testBit k = Y.testBit k) : cnt X n = cnt Y n := by
  induction n with
  | zero => rfl
  | succ n ih => simp only [cnt]; rw [ih (fun k hk => h k (by omega)), h n (by omega)]

theorem cnt_all {X : Nat} (n : Nat) (h : ∀ k, k < n → X.testBit k = true) : cnt X n = n := by
  induction n with
  | zero => rfl
  | succ n ih => simp only [cnt]; rw [ih (fun k hk => h k (by omega)), h n (by omega)]; rfl

theorem cnt_none {X : Nat} (n : Nat) (h : ∀ k, k < n → X.testBit k = false) : cnt X n = 0 := by
  induction n with
  | zero => rfl
  | succ n ih => simp only [cnt]; rw [ih (fun k hk => h k (by omega)), h n (by omega)]; rfl

theorem cnt_lt {X : Nat} (n i : Nat) (hi : i < n) (h : X.testBit i = false) : cnt X n < n := by
  induction n with
  | zero => omega
  | succ n ih =>
    simp only [cnt]
    by_cases e : i = n
    · subst e; rw [h]; have := cnt_le X i; simp; omega
    · have := ih (by omega); have := Bool.toNat_le (X.testBit n); omega

theorem frst_spec (X n : Nat) : match frst X n with
    | some i => i < n ∧ X.testBit i = false ∧ ∀ k, k < i → X.testBit k = true
    | none => ∀ k, k < n → X.testBit k = true := by
  induction n with
  | zero => simp [frst]
  | succ n ih =>
    simp only [frst]
    cases hf : frst X n with
    | some i => rw [hf] at ih; simp only at ih ⊢; exact ⟨by omega, ih.2⟩
    | none =>
      rw [hf] at ih; simp only at ih ⊢
      by_cases hb : X.testBit n = true
      · simp only [hb, if_true]
        intro k hk
        by_cases e : k = n
        · rw [e]; exact hb
        · exact ih k (by omega)
      · simp only [hb]
        exact ⟨by omega, by simpa using hb, ih⟩

theorem frst_some {X n i : Nat} (hi : i < n) (hb : X.testBit i = false) (ha : ∀ k, k < i → X.testBit k = true) : frst X n = some i := by
  have h := frst_spec X n
  cases hf : frst X n with
  | none => rw [hf] at h; simp only at h; rw [h i hi] at hb; simp at hb
  | some j =>
    rw [hf] at h; simp only at h
    obtain ⟨h1, h2, h3⟩ := h
    by_cases e : i < j
    · rw [h3 i e] at hb; simp at hb
    · by_cases e2 : j < i
      · rw [ha j e2] at h2; simp at h2
      · have : j = i := by omega
        rw [this]

theorem frst_none {X n : Nat} (ha : ∀ k, k < n → X.testBit k = true) : frst X n = none := by
  have h := frst_spec X n
  cases hf : frst X n with
  | none => rfl
  | some j => rw [hf] at h; simp only at h; rw [ha j h.1] at h; simp at h

theorem f_yes {X n : Nat} (h : fb X n = true) : fi X n < n ∧ X.testBit (fi X n) = false ∧ ∀ k, k < fi X n → X.testBit k = true := by
  have s := frst_spec X n
  unfold fi fb at *
  cases hf : frst X n with
  | none => rw [hf] at h; simp at h
  | some j => rw [hf] at s; simp only at s; simpa using s

theorem f_no {X n : Nat} (h : fb X n = false) : fi X n = 0 ∧ ∀ k, k < n → X.testBit k = true := by
  have s := frst_spec X n
  unfold fi fb at *
  cases hf : frst X n with
  | some j => rw [hf] at h; simp at h
  | none => rw [hf] at s; simp only at s; exact ⟨rfl, s⟩

theorem fi_of {X n i : Nat} (hi : i < n) (hb : X.testBit i = false) (ha : ∀ k, k < i → X.testBit k = true) : fi X n = i ∧ fb X n = true := by
  unfold fi fb; rw [frst_some hi hb ha]; exact ⟨rfl, rfl⟩
theorem fi_not {X n : Nat} (ha : ∀ k, k < n → X.testBit k = true) : fi X n = 0 ∧ fb X n = false := by
  unfold fi fb; rw [frst_none ha]; exact ⟨rfl, rfl⟩
theorem fi_le (X n : Nat) : fi X n ≤ n := by
  cases h : fb X n with
  | true => have := (f_yes h).1; omega
  | false => rw [(f_no h).1]; omega

theorem setb_bit (X i k : Nat) : (setb X i).testBit k = (X.testBit k || decide (i = k)) := by
  unfold setb; rw [Nat.testBit_or, Nat.testBit_two_pow]

theorem pow_lt64 {i : Nat} (h : i < 64) : 2 ^ i < 18446744073709551616 := by
  have : 2 ^ i < 2 ^ 64 := Nat.pow_lt_pow_right (by decide) h
  simpa using this
theorem pow_le64 {i : Nat} (h : i ≤ 64) : 2 ^ i ≤ 18446744073709551616 := by
  have : 2 ^ i ≤ 2 ^ 64 := Nat.pow_le_pow_right (by decide) h
  simpa using this

theorem setb_lt {X i : Nat} (hX : X < 18446744073709551616) (h : i < 64) : setb X i < 18446744073709551616 := by
  unfold setb
  have := Nat.or_lt_two_pow (n := 64) (x := X) (y := 2 ^ i) (by simpa using hX) (by simpa using pow_lt64 h)
  simpa using this
theorem clrb_lt {X i : Nat} (hX : X < 18446744073709551616) : clrb X i < 18446744073709551616 := by
  unfold clrb
  exact Nat.lt_of_le_of_lt Nat.and_le_left hX

theorem bit_high {X k : Nat} (hX : X < 18446744073709551616) (h : 64 ≤ k) : X.testBit k = false := by
  apply Nat.testBit_lt_two_pow
  exact Nat.lt_of_lt_of_le (by simpa using hX) (Nat.pow_le_pow_right (by decide) h)

theorem ones_bit (k : Nat) : (18446744073709551615 : Nat).testBit k = decide (k < 64) := by
  have : (18446744073709551615 : Nat) = 2 ^ 64 - 1 := by decide
  rw [this, Nat.testBit_two_pow_sub_one]

theorem not_bit {Y k : Nat} (hY : Y < 18446744073709551616) : (18446744073709551615 - Y).testBit k = (decide (k < 64) && !Y.testBit k) := by
  have e : 18446744073709551615 - Y = 2 ^ 64 - (Y + 1) := by omega
  rw [e, Nat.testBit_two_pow_sub_succ (by simpa using hY)]

theorem clrb_bit {X i : Nat} (hX : X < 18446744073709551616) (h : i < 64) (k : Nat) : (clrb X i).testBit k = (X.testBit k && !decide (i = k)) := by
  unfold clrb
  rw [Nat.testBit_and, not_bit (pow_lt64 h), Nat.testBit_two_pow]
  by_cases hk : k < 64
  · simp [hk]
  · rw [bit_high hX (by omega)]; simp

theorem cnt_setb (X i n : Nat) (hi : i < n) (hb : X.testBit i = false) : cnt (setb X i) n = cnt X n + 1 := by
  induction n with
  | zero => omega
  | succ n ih =>
    simp only [cnt]
    rw [setb_bit]
    by_cases e : i = n
    · subst e
      rw [hb, cnt_congr (X := setb X i) (Y := X) i (fun k hk => by rw [setb_bit]; have : ¬ i = k := by omega
                                                                   simp [this])]
      simp
    · rw [ih (by omega)]; simp [e]; omega

theorem mask_bit (n k : Nat) : (2 ^ n - 1).testBit k = decide (k < n) := Nat.testBit_two_pow_sub_one n k

theorem setb_mask (n : Nat) : setb (2 ^ n - 1) n = 2 ^ (n + 1) - 1 := by
  apply Nat.eq_of_testBit_eq
  intro k
  rw [setb_bit, mask_bit, mask_bit]
  by_cases h : k < n
  · have : k < n + 1 := by omega
    simp [h, this]
  · by_cases e : n = k
    · subst e; simp
    · have : ¬ k < n + 1 := by omega
      simp [h, e, this]

theorem bit_div (X i : Nat) : X.testBit i = decide (X / 2 ^ i % 2 = 1) := Nat.testBit_eq_decide_div_mod_eq

theorem and_pow (X i : Nat) : X &&& 2 ^ i = (X.testBit i).toNat * 2 ^ i := by
  apply Nat.eq_of_testBit_eq
  intro k
  rw [Nat.testBit_and, Nat.testBit_two_pow]
  cases h : X.testBit i
  · simp
    intro h1 h2; subst h2; rw [h] at h1; simp at h1
  · simp [Nat.testBit_two_pow]
    intro h2; subst h2; exact h

theorem and_pow_zero (X i : Nat) : ((X &&& 2 ^ i) != 0) = X.testBit i := by
  rw [and_pow]
  have : 0 < 2 ^ i := Nat.two_pow_pos i
  cases h : X.testBit i
  · simp
  · simp

theorem setb_add {X i : Nat} (hX : X < 18446744073709551616) (hi : i < 64) (h : X.testBit i = false) : setb X i = X + 2 ^ i := by
  unfold setb
  have hp := pow_lt64 hi
  have hd : X &&& 2 ^ i = 0 := by rw [and_pow, h]; simp
  have e := BitVec.add_eq_or_of_and_eq_zero (BitVec.ofNat 66 X) (BitVec.ofNat 66 (2 ^ i)) (by
    apply BitVec.eq_of_toNat_eq
    rw [BitVec.toNat_and, BitVec.toNat_ofNat, BitVec.toNat_ofNat, Nat.mod_eq_of_lt (by omega), Nat.mod_eq_of_lt (by omega), hd]; rfl)
  have e2 := congrArg BitVec.toNat e
  rw [BitVec.toNat_or, BitVec.toNat_add, BitVec.toNat_ofNat, BitVec.toNat_ofNat, Nat.mod_eq_of_lt (a := X) (by omega), Nat.mod_eq_of_lt (a := 2 ^ i) (by omega), Nat.mod_eq_of_lt (by omega)] at e2
  exact e2.symm
theorem setb_same {X i : Nat} (h : X.testBit i = true) : setb X i = X := by
  apply Nat.eq_of_testBit_eq
  intro k
  rw [setb_bit]
  by_cases e : i = k
  · subst e; simp [h]
  · simp [e]
theorem clrb_same {X i : Nat} (hX : X < 18446744073709551616) (hi : i < 64) (h : X.testBit i = false) : clrb X i = X := by
  apply Nat.eq_of_testBit_eq
  intro k
  rw [clrb_bit hX hi]
  by_cases e : i = k
  · subst e; simp [h]
  · simp [e]
theorem clrb_setb {X i : Nat} (hX : X < 18446744073709551616) (hi : i < 64) (h : X.testBit i = false) : clrb (setb X i) i = X := by
  apply Nat.eq_of_testBit_eq
  intro k
  rw [clrb_bit (setb_lt hX hi) hi, setb_bit]
  by_cases e : i = k
  · subst e; simp [h]
  · simp [e]
theorem setb_clrb {X i : Nat} (hX : X < 18446744073709551616) (hi : i < 64) (h : X.testBit i = true) : setb (clrb X i) i = X := by
  apply Nat.eq_of_testBit_eq
  intro k
  rw [setb_bit, clrb_bit hX hi]
  by_cases e : i = k
  · subst e; simp [h]
  · simp [e]
theorem clrb_sub {X i : Nat} (hX : X < 18446744073709551616) (hi : i < 64) (h : X.testBit i = true) : clrb X i + 2 ^ i = X := by
  rw [← setb_add (clrb_lt hX) hi (by rw [clrb_bit hX hi]; simp), setb_clrb hX hi h]
theorem cnt_two {X A B : Nat} (n : Nat) (h : ∀ k, k < n → X.testBit k = (A.testBit k || B.testBit k) ∧ (A.testBit k && B.testBit k) = false) : cnt X n = cnt A n + cnt B n := by
  induction n with
  | zero => rfl
  | succ n ih =>
    have ih' := ih (fun k hk => h k (by omega))
    have hn := h n (by omega)
    simp only [cnt]
    rw [ih', hn.1]
    cases hA : A.testBit n <;> cases hB : B.testBit n <;> rw [hA, hB] at hn <;> simp at hn ⊢ <;> omega
theorem low_bit (X m k : Nat) : (X &&& (2 ^ m - 1)).testBit k = (X.testBit k && decide (k < m)) := by
  rw [Nat.testBit_and, mask_bit]
theorem high_bit (X m k : Nat) : (X - (X &&& (2 ^ m - 1))).testBit k = (X.testBit k && decide (m ≤ k)) := by
  rw [Nat.and_two_pow_sub_one_eq_mod]
  have e : X - X % 2 ^ m = 2 ^ m * (X / 2 ^ m) := by have := Nat.div_add_mod X (2 ^ m); omega
  rw [e, Nat.testBit_two_pow_mul, Nat.testBit_div_two_pow]
  by_cases h : m ≤ k
  · have e2 : k - m + m = k := by omega
    simp [h, e2]
  · simp [h]
theorem cnt_low (X m : Nat) (hm : m ≤ 64) : cnt X m = cnt (X &&& (2 ^ m - 1)) 64 := by
  have gen : ∀ d, cnt X m = cnt (X &&& (2 ^ m - 1)) (m + d) := by
    intro d
    induction d with
    | zero => exact cnt_congr m (fun k hk => by rw [low_bit]; simp [hk])
    | succ d ih =>
      have nl : ¬ m + d < m := by omega
      have : (X &&& (2 ^ m - 1)).testBit (m + d) = false := by rw [low_bit]; simp [nl]
      show _ = cnt _ (m + d) + ((X &&& (2 ^ m - 1)).testBit (m + d)).toNat
      rw [← ih, this]; rfl
  have := gen (64 - m)
  rwa [show m + (64 - m) = 64 by omega] at this
theorem cnt_parts (X m n : Nat) : cnt X n = cnt (X &&& (2 ^ m - 1)) n + cnt (X - (X &&& (2 ^ m - 1))) n := by
  apply cnt_two
  intro k _
  rw [low_bit, high_bit]
  by_cases h : k < m
  · have h2 : ¬ m ≤ k := by omega
    simp [h, h2]
  · have h2 : m ≤ k := by omega
    simp [h, h2]
theorem cnt_not {X : Nat} (hX : X < 18446744073709551616) : cnt X 64 + cnt (18446744073709551615 - X) 64 = 64 := by
  have h := cnt_two (X := 18446744073709551615) (A := X) (B := 18446744073709551615 - X) 64 (fun k hk => by
    rw [not_bit hX, ones_bit]; simp [hk])
  rw [← h]
  exact cnt_all 64 (fun k hk => by rw [ones_bit]; simp [hk])
end Go.Proofs.Ytlfdekeahplidaa

