/-
  What each function of package place, and each of the document's own places, answers, for numbers of addresses up to 65536 and leaves up to 2048: the world is as it was.
-/
import Derived.Test.YthnmneinimlpcaaBitCalls
import Derived.WalkKit
import Derived.ProofKit
import Derived.OpenShut
import Derived.Lib.Hide
namespace Go.Proofs.Ythnmneinimlpcaa
open Go.RowKit
theorem ret_ii {a b c d : Int} (h : a = c) (g : b = d) : Ending.returned (.tuple #[.int .i64 a, .int .i64 b]) = .returned (.tuple #[.int .i64 c, .int .i64 d]) := by rw [h, g]
/-- How many leaves n addresses have. -/
def lv (n : Nat) : Nat := (n + 31) / 32
/-- How many tops so many leaves have. -/
def tq (l : Nat) : Nat := (l + 63) / 64
/-- How many tops n addresses have. -/
def tv (n : Nat) : Nat := tq (lv n)
/-- A leaf's width. -/
def wd (n l : Nat) : Nat := min (n - 32 * l) 32
theorem lv_le {n : Nat} (h : n ≤ 65536) : lv n ≤ 2048 := by unfold lv; omega
theorem tv_le {n : Nat} (h : n ≤ 65536) : tv n ≤ 32 := by have := lv_le h; unfold tv tq; omega
theorem parts_32 (n : Nat) (hn : n ≤ 65536) (w : World) :
    Calls Try.prog 60 #[.int .i64 n, .int .i64 32] w fun e w' => e = .returned (.int .i64 (lv n)) ∧ w = w' := by
  obtain ⟨q, hq, hq'⟩ : ∃ q : Nat, (n : Int) / 32 = q ∧ q = n / 32 := ⟨n / 32, by omega, rfl⟩
  obtain ⟨r, hr, hr'⟩ : ∃ r : Nat, (n : Int) % 32 = r ∧ r = n % 32 := ⟨n % 32, by omega, rfl⟩
  have hl : lv n = if r = 0 then q else q + 1 := by unfold lv; split <;> omega
  have hq2 : q ≤ 2048 := by omega
  have HQ := Lib.hid hq'; have HR := Lib.hid hr'; have HL := Lib.hid hl
  clear hq' hr' hl
  by_cases h0 : r = 0
  · subst h0
    go_enter Try.func60, Try.ntmps60
    go_wp2
    go_ret
    exact ⟨ret_int (by rw [HL.out]; simp), rfl⟩
  · have h1 : 0 < r := by omega
    go_enter Try.func60, Try.ntmps60
    go_wp2
    go_ret
    exact ⟨ret_int (by rw [HL.out, if_neg h0]; go_num), rfl⟩
theorem parts_64 (n : Nat) (hn : n ≤ 65536) (w : World) :
    Calls Try.prog 60 #[.int .i64 n, .int .i64 64] w fun e w' => e = .returned (.int .i64 (tq n)) ∧ w = w' := by
  obtain ⟨q, hq, hq'⟩ : ∃ q : Nat, (n : Int) / 64 = q ∧ q = n / 64 := ⟨n / 64, by omega, rfl⟩
  obtain ⟨r, hr, hr'⟩ : ∃ r : Nat, (n : Int) % 64 = r ∧ r = n % 64 := ⟨n % 64, by omega, rfl⟩
  have hl : tq n = if r = 0 then q else q + 1 := by unfold tq; split <;> omega
  have hq2 : q ≤ 2048 := by omega
  have HQ := Lib.hid hq'; have HR := Lib.hid hr'; have HL := Lib.hid hl
  clear hq' hr' hl
  by_cases h0 : r = 0
  · subst h0
    go_enter Try.func60, Try.ntmps60
    go_wp2
    go_ret
    exact ⟨ret_int (by rw [HL.out]; simp), rfl⟩
  · have h1 : 0 < r := by omega
    go_enter Try.func60, Try.ntmps60
    go_wp2
    go_ret
    exact ⟨ret_int (by rw [HL.out, if_neg h0]; go_num), rfl⟩
theorem leaves_any (n : Nat) (hn : n ≤ 65536) (w : World) :
    Calls Try.prog 42 #[.int .i64 n] w fun e w' => e = .returned (.int .i64 (lv n)) ∧ w = w' := by
  go_enter Try.func42, Try.ntmps42
  go_wp2_with (go_at_call 60; refine (parts_32 _ hn _).mono ?_; rintro e w' ⟨rfl, rfl⟩)
  go_ret
  exact ⟨rfl, rfl⟩
theorem leaf_any (o : Nat) (ho : o ≤ 65536) (w : World) :
    Calls Try.prog 63 #[.int .i64 o] w fun e w' => e = .returned (.tuple #[.int .i64 ((o / 32 : Nat)), .int .i64 ((o % 32 : Nat))]) ∧ w = w' := by
  go_enter Try.func63, Try.ntmps63
  go_wp2
  go_ret2
  exact ⟨ret_ii (by go_num) (by go_num), rfl⟩
theorem poff_any (l b : Nat) (hl : l ≤ 65536) (hb : b ≤ 65536) (w : World) :
    Calls Try.prog 45 #[.int .i64 l, .int .i64 b] w fun e w' => e = .returned (.int .i64 ((32 * l + b : Nat))) ∧ w = w' := by
  go_enter Try.func45, Try.ntmps45
  go_wp2
  go_ret
  exact ⟨ret_int (by go_num), rfl⟩
theorem width_any (n l : Nat) (hn : n ≤ 65536) (hl : l ≤ 65536) (w : World) :
    Calls Try.prog 61 #[.int .i64 n, .int .i64 l] w fun e w' => e = .returned (.int .i64 (wd n l)) ∧ w = w' := by
  have O : ∀ w, Hid (Calls Try.prog 45 #[.int .i64 l, .int .i64 0] w fun e w' => e = .returned (.int .i64 ((32 * l : Nat))) ∧ w = w') := fun w => poff_any l 0 hl (by omega) w
  obtain ⟨o, ho⟩ : ∃ o : Nat, o = 32 * l := ⟨_, rfl⟩
  rw [← ho] at O
  have ho2 : o ≤ 4000000 := by omega
  have HO := Lib.hid ho
  clear ho
  go_enter Try.func61, Try.ntmps61
  go_wp2_with (go_at_call 45; refine ((O _).out).mono ?_; rintro e w' ⟨rfl, rfl⟩)
  all_goals
    go_ret
    exact ⟨ret_int (by unfold wd; rw [← HO.out]; omega), rfl⟩
end Go.Proofs.Ythnmneinimlpcaa

