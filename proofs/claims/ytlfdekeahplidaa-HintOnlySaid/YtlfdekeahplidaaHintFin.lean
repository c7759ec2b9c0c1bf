/-
  What marking a leaf with nobody else comes to, as lists of words. No program in it.
-/
import Derived.Test.YtlfdekeahplidaaHintRun
namespace Go.Proofs.Ytlfdekeahplidaa
open Go.RowKit
set_option linter.unusedVariables false
theorem mkd_bit {x b : Nat} (f : Bool) (hx : x < 18446744073709551616) (hb : b < 64) : (mkd x b f).testBit b = f := by
  unfold mkd
  cases f with
  | true => rw [if_pos rfl, setb_bit]; simp
  | false => rw [if_neg (by simp), clrb_bit hx hb]; simp
theorem mkd_same {x b : Nat} {f : Bool} (hx : x < 18446744073709551616) (hb : b < 64) (h : x.testBit b = f) : mkd x b f = x := by
  unfold mkd
  cases f with
  | true => rw [if_pos rfl, setb_same h]
  | false => rw [if_neg (by simp), clrb_same hx hb h]
theorem clrb_mkd {x b : Nat} (f : Bool) (hx : x < 18446744073709551616) (hb : b < 64) : clrb (mkd x b f) b = clrb x b := by
  apply Nat.eq_of_testBit_eq
  intro k
  rw [clrb_bit (mkd_lt f hx hb) hb, clrb_bit hx hb]
  unfold mkd
  cases f with
  | true => rw [if_pos rfl, setb_bit]; by_cases e : b = k <;> simp [e]
  | false => rw [if_neg (by simp), clrb_bit hx hb]; by_cases e : b = k <;> simp [e]
theorem mkd_ones {b : Nat} (hb : b < 64) : mkd 18446744073709551615 b true = 18446744073709551615 := by
  unfold mkd; rw [if_pos rfl, setb_same (by rw [ones_bit]; simp [hb])]
theorem ones_not {x b : Nat} (hb : b < 64) (h : x.testBit b = false) : x ≠ 18446744073709551615 := by
  intro e; rw [e, ones_bit] at h; simp [hb] at h
section
variable {a M lf : Nat} {f : Bool} {ys : List Nat}
/-- The cells, marked in the top alone; in the root, too. -/
def y1 (M lf : Nat) (f : Bool) (ys : List Nat) : List Nat := ys.set (lv M + lf / 64) (mkd (gt ys (lv M + lf / 64)) (lf % 64) f)
def y2 (M lf : Nat) (f : Bool) (ys : List Nat) : List Nat := (y1 M lf f ys).set (lv M + tv M) (mkd (gt ys (lv M + tv M)) (lf / 64) f)
/-- Is the root to be marked? -/
def Up (M lf : Nat) (f : Bool) (ys : List Nat) : Prop := f = false ∨ mkd (gt ys (lv M + lf / 64)) (lf % 64) f = 18446744073709551615
def Fin_ (M lf : Nat) (f : Bool) (ys y : List Nat) : Prop :=
  (y = y1 M lf f ys ∧ (¬ Up M lf f ys ∨ (Up M lf f ys ∧ (gt ys (lv M + tv M)).testBit (lf / 64) = f))) ∨ (y = y2 M lf f ys ∧ Up M lf f ys)
def Inv (M lf : Nat) (f : Bool) (ys : List Nat) (j : Nat) (y : List Nat) (s : Sc) : Prop :=
  (j = 0 ∧ y = ys ∧ s = mk_ 4 lf 0 f 0) ∨
  (j = 1 ∧ y = ys ∧ s = mk_ 5 lf (gt ys (lv M + lf / 64)) f 0) ∨
  (j ≤ 2 ∧ y = y1 M lf f ys ∧ s = mk_ 4 lf (mkd (gt ys (lv M + lf / 64)) (lf % 64) f) f 1 ∧ Up M lf f ys) ∨
  (j ≤ 3 ∧ y = y1 M lf f ys ∧ s = mk_ 5 lf (gt ys (lv M + tv M)) f 1 ∧ Up M lf f ys) ∨
  (j ≤ 4 ∧ s = mk_ 0 lf 0 false 0 ∧ Fin_ M lf f ys y)
theorem not_up (h : ¬ Up M lf f ys) : f = true ∧ mkd (gt ys (lv M + lf / 64)) (lf % 64) f ≠ 18446744073709551615 := by
  unfold Up at h
  refine ⟨?_, fun e => h (.inr e)⟩
  cases f with
  | true => rfl
  | false => exact absurd (.inl rfl) h
theorem top_lt (hM : M ≤ 65536) (hlv : lf < lv M) : lf / 64 < tv M ∧ lf / 64 < 64 := by
  have h1 := lv_le hM
  have h3 : lv M ≤ 64 * tv M := by unfold tv tq; omega
  omega
theorem gt_y1r (hl : ys.length = lv M + tv M + 1) (ht : lf / 64 < tv M) : gt (y1 M lf f ys) (lv M + tv M) = gt ys (lv M + tv M) := by
  unfold y1; rw [gt_set (by omega), if_neg (by omega)]
theorem gt_y1t (hl : ys.length = lv M + tv M + 1) (ht : lf / 64 < tv M) : gt (y1 M lf f ys) (lv M + lf / 64) = mkd (gt ys (lv M + lf / 64)) (lf % 64) f := by
  unfold y1; rw [gt_set (by omega), if_pos rfl]
theorem y1_same (hl : ys.length = lv M + tv M + 1) (ht : lf / 64 < tv M) (hf : ∀ x ∈ ys, x < 18446744073709551616) (h : (gt ys (lv M + lf / 64)).testBit (lf % 64) = f) : y1 M lf f ys = ys := by
  unfold y1
  rw [mkd_same (gt_lt hf _) (by omega) h]
  apply ext_gt (by simp)
  intro j hj
  rw [gt_set (by omega)]
  split
  · next e => rw [e]
  · rfl
theorem inv_next (hM : M ≤ 65536) (hlv : lf < lv M) (hl : ys.length = lv M + tv M + 1) (hf : ∀ x ∈ ys, x < 18446744073709551616) {j : Nat} {y : List Nat} {s : Sc} (h : Inv M lf f ys j y s) (hp : s.phase ≠ 0) :
    j ≤ 3 ∧ ∃ ph wd at_, s = mk_ ph lf wd f at_ ∧ wd < 18446744073709551616 ∧ (at_ = 0 ∨ at_ = 1) ∧ (ph = 4 ∨ ph = 5) ∧ Inv M lf f ys (j + 1) (stC M y s) (stO a M 0 [] y s) := by
  obtain ⟨ht, hq⟩ := top_lt hM hlv
  have hx := gt_lt hf (lv M + lf / 64)
  have hz := gt_lt hf (lv M + tv M)
  rcases h with ⟨rfl, rfl, rfl⟩ | ⟨rfl, rfl, rfl⟩ | ⟨hj, rfl, rfl, hu⟩ | ⟨hj, rfl, rfl, hu⟩ | ⟨_, rfl, _⟩
  · refine ⟨by omega, _, _, _, rfl, by omega, .inl rfl, .inl rfl, ?_⟩
    rw [c4, o4_0]
    by_cases hb : (gt y (lv M + lf / 64)).testBit (lf % 64) = f
    · have e := y1_same hl ht hf hb
      have em := mkd_same hx (show lf % 64 < 64 by omega) hb
      rw [lk_yes hb]
      by_cases hu : Up M lf f y
      · rw [dn_root (by unfold Up at hu; rw [em] at hu; exact hu)]
        exact .inr (.inr (.inl ⟨by omega, e.symm, by rw [em], hu⟩))
      · rw [dn_go (.inr (by have := not_up hu; rw [em] at this; exact this))]
        exact .inr (.inr (.inr (.inr ⟨by omega, rfl, .inl ⟨e.symm, .inl hu⟩⟩)))
    · rw [lk_no hb]
      exact .inr (.inl ⟨rfl, rfl, rfl⟩)
  · refine ⟨by omega, _, _, _, rfl, hx, .inl rfl, .inr rfl, ?_⟩
    rw [c5_0y rfl, o5_0]
    by_cases hu : Up M lf f y
    · rw [dn_root hu]
      exact .inr (.inr (.inl ⟨by omega, rfl, rfl, hu⟩))
    · rw [dn_go (.inr (not_up hu))]
      exact .inr (.inr (.inr (.inr ⟨by omega, rfl, .inl ⟨rfl, .inl hu⟩⟩)))
  · refine ⟨by omega, _, _, _, rfl, mkd_lt f hx (by omega), .inr rfl, .inl rfl, ?_⟩
    rw [c4, o4_1, gt_y1r hl ht]
    by_cases hb : (gt ys (lv M + tv M)).testBit (lf / 64) = f
    · rw [lk_yes hb, dn_go (.inl (by omega))]
      exact .inr (.inr (.inr (.inr ⟨by omega, rfl, .inl ⟨rfl, .inr ⟨hu, hb⟩⟩⟩)))
    · rw [lk_no hb]
      exact .inr (.inr (.inr (.inl ⟨by omega, rfl, rfl, hu⟩)))
  · refine ⟨by omega, _, _, _, rfl, hz, .inr rfl, .inr rfl, ?_⟩
    rw [c5_1y (gt_y1r hl ht), o5_1, dn_go (.inl (by omega))]
    exact .inr (.inr (.inr (.inr ⟨by omega, rfl, .inr ⟨rfl, hu⟩⟩)))
  · exact absurd rfl hp
theorem inv_end {j : Nat} {y : List Nat} {s : Sc} (h : Inv M lf f ys j y s) (hp : s.phase = 0 ∨ j = 4) : s = mk_ 0 lf 0 false 0 ∧ Fin_ M lf f ys y := by
  rcases h with ⟨rfl, rfl, rfl⟩ | ⟨rfl, rfl, rfl⟩ | ⟨hj, rfl, rfl, hu⟩ | ⟨hj, rfl, rfl, hu⟩ | ⟨_, rfl, h⟩
  · rcases hp with hp | hp
    · exact absurd hp (by show ¬ (4 : Int) = 0; omega)
    · omega
  · rcases hp with hp | hp
    · exact absurd hp (by show ¬ (5 : Int) = 0; omega)
    · omega
  · rcases hp with hp | hp
    · exact absurd hp (by show ¬ (4 : Int) = 0; omega)
    · omega
  · rcases hp with hp | hp
    · exact absurd hp (by show ¬ (5 : Int) = 0; omega)
    · omega
  · exact ⟨rfl, h⟩
theorem inv_le {j : Nat} {y : List Nat} {s : Sc} (h : Inv M lf f ys j y s) : j ≤ 4 := by
  rcases h with ⟨rfl, _⟩ | ⟨rfl, _⟩ | ⟨hj, _⟩ | ⟨hj, _⟩ | ⟨hj, _⟩ <;> omega
/-- What is told of the cells in the end. -/
theorem fin_facts (hM : M ≤ 65536) (hlv : lf < lv M) (hl : ys.length = lv M + tv M + 1) (hf : ∀ x ∈ ys, x < 18446744073709551616) {y : List Nat} (h : Fin_ M lf f ys y) :
    (gt y (lv M + lf / 64)).testBit (lf % 64) = f ∧ clrb (gt y (lv M + lf / 64)) (lf % 64) = clrb (gt ys (lv M + lf / 64)) (lf % 64) ∧ clrb (gt y (lv M + tv M)) (lf / 64) = clrb (gt ys (lv M + tv M)) (lf / 64) ∧
    (∀ k, k ≠ lv M + lf / 64 → k ≠ lv M + tv M → gt y k = gt ys k) ∧
    ((gt ys (lv M + tv M)).testBit (lf / 64) = decide (gt ys (lv M + lf / 64) = 18446744073709551615) → (gt y (lv M + tv M)).testBit (lf / 64) = decide (gt y (lv M + lf / 64) = 18446744073709551615)) := by
  obtain ⟨ht, hq⟩ := top_lt hM hlv
  have hx := gt_lt hf (lv M + lf / 64)
  have hz := gt_lt hf (lv M + tv M)
  have hb : lf % 64 < 64 := by omega
  have up : Up M lf f ys → f = decide (mkd (gt ys (lv M + lf / 64)) (lf % 64) f = 18446744073709551615) := by
    intro hu
    cases f with
    | false => have := ones_not hb (mkd_bit false hx hb); simp [this]
    | true =>
      rcases hu with hu | hu
      · cases hu
      · simp [hu]
  rcases h with ⟨rfl, h⟩ | ⟨rfl, hu⟩
  · rw [gt_y1t hl ht, gt_y1r hl ht]
    refine ⟨mkd_bit f hx hb, clrb_mkd f hx hb, rfl, ?_, ?_⟩
    · intro k h1 _
      unfold y1; rw [gt_set (by omega), if_neg (fun e => h1 e.symm)]
    · intro hr
      rcases h with hu | ⟨hu, hzq⟩
      · obtain ⟨e1, e2⟩ := not_up hu
        subst e1
        have hne : gt ys (lv M + lf / 64) ≠ 18446744073709551615 := fun e => e2 (by rw [e]; exact mkd_ones hb)
        rw [hr]; simp [hne, e2]
      · rw [hzq]; exact up hu
  · have e1 : gt (y2 M lf f ys) (lv M + lf / 64) = mkd (gt ys (lv M + lf / 64)) (lf % 64) f := by
      unfold y2; rw [gt_set (by unfold y1; simp; omega), if_neg (by omega), gt_y1t hl ht]
    have e2 : gt (y2 M lf f ys) (lv M + tv M) = mkd (gt ys (lv M + tv M)) (lf / 64) f := by
      unfold y2; rw [gt_set (by unfold y1; simp; omega), if_pos rfl]
    rw [e1, e2]
    refine ⟨mkd_bit f hx hb, clrb_mkd f hx hb, clrb_mkd f hz hq, ?_, ?_⟩
    · intro k h1 h2
      unfold y2 y1; rw [gt_set (by simp; omega), if_neg (fun e => h2 e.symm), gt_set (by omega), if_neg (fun e => h1 e.symm)]
    · intro _
      rw [mkd_bit f hz hq]; exact up hu
end
end Go.Proofs.Ytlfdekeahplidaa
