/-
  Seeking, as functions of numbers: the tops of a shard's leaves, the next one, the leaf that is found, a step. No program in it.
-/
import Derived.Test.YtlaejiephpmniaaOpElse
namespace Go.Proofs.Ytlaejiephpmniaa
set_option linter.unusedVariables false
/-- k numbers from t on. -/
def ups (t k : Nat) : List Nat := (List.range k).map (t + ·)
theorem ups_zero (t : Nat) : ups t 0 = [] := rfl
theorem ups_succ (t k : Nat) : ups t (k + 1) = ups t k ++ [t + k] := by simp [ups, List.range_succ]
theorem ups_len (t k : Nat) : (ups t k).length = k := by simp [ups]
theorem ups_mem {t k x : Nat} : x ∈ ups t k ↔ t ≤ x ∧ x < t + k := by
  simp only [ups, List.mem_map, List.mem_range]
  constructor
  · rintro ⟨i, hi, rfl⟩; omega
  · intro h; exact ⟨x - t, by omega, by omega⟩
/-- How many tops the leaves from a to b - 1 are summed in. -/
def cnt_ (a b : Nat) : Nat := if a < b then (b - 1) / 64 + 1 - a / 64 else 0
theorem cnt0_ {a b : Nat} (h : b ≤ a) : cnt_ a b = 0 := by unfold cnt_; rw [if_neg (by omega)]
theorem cnt_top {a b t : Nat} : (a / 64 ≤ t ∧ t < a / 64 + cnt_ a b) ↔ (a < b ∧ a / 64 ≤ t ∧ t ≤ (b - 1) / 64) := by
  unfold cnt_
  by_cases h : a < b
  · rw [if_pos h]; omega
  · rw [if_neg h]; omega
/-- The leaf at which k tops are behind. -/
def lfk (a b k : Nat) : Nat := max a (min b (64 * (a / 64 + k)))
theorem lfk_zero {a b : Nat} (h : a ≤ b) : lfk a b 0 = a := by unfold lfk; omega
theorem lfk_lt {a b k : Nat} (h : a ≤ b) : lfk a b k < b ↔ k < cnt_ a b := by
  unfold lfk cnt_
  by_cases hab : a < b
  · rw [if_pos hab]; omega
  · rw [if_neg hab]; omega
/-- The first leaf in the top t, its bit, the bit behind the last one. -/
def lft (a t : Nat) : Nat := max a (64 * t)
def bfr (a t : Nat) : Nat := max a (64 * t) - 64 * t
def bto (b t : Nat) : Nat := min b (64 * t + 64) - 64 * t
theorem lfk_at {a b k : Nat} (hk : k < cnt_ a b) : lfk a b k = lft a (a / 64 + k) ∧ lfk a b k / 64 = a / 64 + k ∧ lfk a b k % 64 = bfr a (a / 64 + k) ∧ lfk a b k + min (b - lfk a b k) (64 - lfk a b k % 64) = lfk a b (k + 1) ∧ lfk a b k % 64 + min (b - lfk a b k) (64 - lfk a b k % 64) = bto b (a / 64 + k) ∧ lfk a b k < b := by
  have hab : a < b := by
    rcases Nat.lt_or_ge a b with h | h
    · exact h
    · rw [cnt0_ h] at hk; omega
  have e : cnt_ a b = (b - 1) / 64 + 1 - a / 64 := by unfold cnt_; rw [if_pos hab]
  rw [e] at hk
  have h1 : 64 * (a / 64 + k) < b := by omega
  have h0 : lfk a b k = max a (64 * (a / 64 + k)) := by unfold lfk; omega
  have h2 : a / 64 * 64 + a % 64 = a := by omega
  rw [h0]
  unfold lft bfr bto lfk
  rcases Nat.eq_zero_or_pos k with rfl | hk0
  · have : max a (64 * (a / 64 + 0)) = a := by omega
    rw [this]
    refine ⟨rfl, by omega, by omega, by omega, by omega, by omega⟩
  · have : max a (64 * (a / 64 + k)) = 64 * (a / 64 + k) := by omega
    rw [this]
    refine ⟨rfl, by omega, by omega, by omega, by omega, by omega⟩
theorem bfr_le (a b t : Nat) (h : a / 64 ≤ t ∧ t < a / 64 + cnt_ a b) : bfr a t < 64 ∧ bto b t ≤ 64 := by
  have := cnt_top.1 h
  unfold bfr bto; omega
/-- Is t a top of these leaves? -/
def inT (a b t : Nat) : Bool := decide (a / 64 ≤ t ∧ t < a / 64 + cnt_ a b)
/-- The next top, from the one at on, whose bit in x isn't set. -/
def hit (at_ x t : Nat) : Bool := decide (at_ ≤ t) && !x.testBit t
def nxt (a b at_ x : Nat) : Option Nat := (ups (a / 64) (cnt_ a b)).find? (hit at_ x)
/-- The first leaf, of those in the top t, whose bit in x isn't set. -/
def fre (a b x t : Nat) : Option Nat := if inT a b t = true then (if fb (fl_ x (bfr a t)) (bto b t) = true then some (64 * t + fi (fl_ x (bfr a t)) (bto b t)) else none) else none
def atS (s : Sc) (t : Nat) : Sc := ⟨s.kind, s.addr, s.err, s.aad, s.used, s.phase, s.shard, s.sought, s.leaf, s.bit, s.word, s.full, ((t + 1 : Nat) : Int), s.tries, s.item, s.stamp⟩
def wdS (s : Sc) (x : Nat) : Sc := ⟨s.kind, s.addr, s.err, s.aad, s.used, s.phase, s.shard, s.sought, s.leaf, s.bit, x, s.full, s.at_, s.tries, s.item, s.stamp⟩
def foundS (s : Sc) (i : Nat) : Sc := ⟨s.kind, s.addr, s.err, s.aad, s.used, 2, s.shard, s.sought, (i : Int), s.bit, 0, s.full, 0, s.tries, s.item, s.stamp⟩
def onS (sh : Int) (a b : Nat) (s : Sc) : Sc := match nxt a b s.at_.toNat s.word with | some t => atS s t | none => elsS sh s
def onH (sh : Int) (a b : Nat) (s : Sc) (h : Hd) : Hd := match nxt a b s.at_.toNat s.word with | some t => h | none => elsH sh s h
def onL (sh : Int) (a b : Nat) (s : Sc) (l : Ls) : Ls := match nxt a b s.at_.toNat s.word with | some t => l | none => elsL sh s l
theorem onLists {sh : Int} {a b : Nat} {s : Sc} {lo : Nat} {w : World} {h : Hd} {l : Ls} (H : Lists lo w h l) : Lists lo w (onH sh a b s h) (onL sh a b s l) := by
  unfold onH onL
  cases nxt a b s.at_.toNat s.word with
  | some t => exact H
  | none => exact elsLists H
/-- A step of seeking: a, b the leaves of the shard that is sought. -/
def skS (sh : Int) (M : Nat) (ys : List Nat) (a b : Nat) (s : Sc) : Sc :=
  if s.at_ = 0 then onS sh a b (wdS s (gt ys (lv M + tv M))) else match fre a b (gt ys (lv M + (s.at_.toNat - 1))) (s.at_.toNat - 1) with | some i => foundS s i | none => onS sh a b s
def skL (sh : Int) (M : Nat) (ys : List Nat) (a b : Nat) (s : Sc) (l : Ls) : Ls :=
  if s.at_ = 0 then onL sh a b (wdS s (gt ys (lv M + tv M))) l else match fre a b (gt ys (lv M + (s.at_.toNat - 1))) (s.at_.toNat - 1) with | some i => l | none => onL sh a b s l
end Go.Proofs.Ytlaejiephpmniaa

