/-
  Rising lists: as many numbers below m are in one as it has; without one of its numbers it rises still, and that number is not in it. No program in it.
-/
import Derived.Test.YtlfdekeahplidaaBlockOpen
namespace Go.Proofs.Ytlfdekeahplidaa
/-- How many of the numbers below i are in the list. -/
def cn (xs : List Int) : Nat → Nat
  | 0 => 0
  | i + 1 => cn xs i + (if hasB xs (i : Int) then 1 else 0)
theorem cn_le (xs : List Int) (i : Nat) : cn xs i ≤ i := by
  induction i with
  | zero => exact Nat.le_refl _
  | succ i ih => unfold cn; split <;> omega
theorem cn_yes {xs : List Int} {i : Nat} (h : hasB xs (i : Int) = true) : cn xs (i + 1) = cn xs i + 1 := by rw [cn, if_pos h]
theorem cn_no {xs : List Int} {i : Nat} (h : hasB xs (i : Int) = false) : cn xs (i + 1) = cn xs i := by rw [cn, h]; rfl
theorem cn_nil (i : Nat) : cn [] i = 0 := by
  induction i with
  | zero => rfl
  | succ i ih => unfold cn; rw [ih]; rfl
theorem hasB_cons (x : Int) (r : List Int) (y : Int) : hasB (x :: r) y = (decide (y = x) || hasB r y) := by
  unfold hasB
  rw [Bool.eq_iff_iff]
  simp
theorem cn_cons (x : Int) (r : List Int) (hx : hasB r x = false) (h0 : 0 ≤ x) (i : Nat) : cn (x :: r) i = cn r i + (if x < (i : Int) then 1 else 0) := by
  induction i with
  | zero => unfold cn; rw [if_neg (by omega)]
  | succ i ih =>
    unfold cn
    rw [ih, hasB_cons]
    by_cases e : (i : Int) = x
    · rw [e, hx]
      simp
      omega
    · have e' : decide ((i : Int) = x) = false := by simpa using e
      rw [e', Bool.false_or]
      have c1 : (x < (i : Int)) ↔ (x < ((i + 1 : Nat) : Int)) := by omega
      simp only [c1]
      omega
theorem risB_cons {m l x : Int} {r : List Int} (h : risB m l (x :: r) = true) : l ≤ x ∧ x < m ∧ risB m (x + 1) r = true := by
  unfold risB at h
  split at h
  · cases h
  · exact ⟨by omega, by omega, h⟩
theorem risB_mk {m l x : Int} {r : List Int} (h1 : l ≤ x) (h2 : x < m) (h : risB m (x + 1) r = true) : risB m l (x :: r) = true := by
  unfold risB
  rw [if_neg (by omega)]
  exact h
theorem risB_mono {m l l' : Int} {xs : List Int} (h : risB m l xs = true) (hl : l' ≤ l) : risB m l' xs = true := by
  cases xs with
  | nil => rfl
  | cons x r =>
    obtain ⟨h1, h2, h3⟩ := risB_cons h
    exact risB_mk (by omega) h2 h3
theorem risB_mem {m l : Int} {xs : List Int} (h : risB m l xs = true) {y : Int} (hy : y ∈ xs) : l ≤ y ∧ y < m := by
  induction xs generalizing l with
  | nil => cases hy
  | cons x r ih =>
    obtain ⟨h1, h2, h3⟩ := risB_cons h
    rcases List.mem_cons.1 hy with rfl | hy
    · exact ⟨h1, h2⟩
    · have := ih h3 hy
      exact ⟨by omega, this.2⟩
theorem cn_len {m l : Int} {xs : List Int} (h : risB m l xs = true) (hl : 0 ≤ l) {M : Nat} (hM : m = M) : cn xs M = xs.length := by
  induction xs generalizing l with
  | nil => exact cn_nil M
  | cons x r ih =>
    obtain ⟨h1, h2, h3⟩ := risB_cons h
    have hx : hasB r x = false := by
      rw [hasB, decide_eq_false_iff_not]
      intro hx
      have := risB_mem h3 hx
      omega
    rw [cn_cons x r hx (by omega), ih h3 (by omega), if_pos (by omega), List.length_cons]
/-- The list without its k-th number. -/
def wo_ (xs : List Int) (k : Nat) : List Int := xs.take k ++ xs.drop (k + 1)
theorem wo_len {xs : List Int} {k : Nat} (h : k < xs.length) : (wo_ xs k).length = xs.length - 1 := by
  unfold wo_
  rw [List.length_append, List.length_take, List.length_drop]
  omega
theorem risB_wo {m l : Int} {xs : List Int} (h : risB m l xs = true) (k : Nat) : risB m l (wo_ xs k) = true := by
  induction xs generalizing l k with
  | nil => unfold wo_; simp; rfl
  | cons x r ih =>
    obtain ⟨h1, h2, h3⟩ := risB_cons h
    cases k with
    | zero => exact risB_mono (xs := r) h3 (by omega)
    | succ k => exact risB_mk h1 h2 (ih h3 k)
theorem has_wo {m l : Int} {xs : List Int} (h : risB m l xs = true) {k : Nat} (hk : k < xs.length) : hasB (wo_ xs k) (gi xs k) = false := by
  rw [hasB, decide_eq_false_iff_not]
  induction xs generalizing l k with
  | nil => simp at hk
  | cons x r ih =>
    obtain ⟨h1, h2, h3⟩ := risB_cons h
    cases k with
    | zero =>
      intro hm
      have : gi (x :: r) 0 ∈ r := hm
      have := risB_mem h3 this
      have e : gi (x :: r) 0 = x := rfl
      omega
    | succ k =>
      intro hm
      have hk' : k < r.length := by simpa using hk
      have e : gi (x :: r) (k + 1) = gi r k := rfl
      rw [e] at hm
      have hg := risB_mem h3 (gi_mem hk')
      have hm' : gi r k ∈ x :: wo_ r k := hm
      rcases List.mem_cons.1 hm' with g | g
      · omega
      · exact ih h3 hk' g
theorem has_at {xs : List Int} {k : Nat} (hk : k < xs.length) : hasB xs (gi xs k) = true := decide_eq_true (gi_mem hk)
end Go.Proofs.Ytlfdekeahplidaa

