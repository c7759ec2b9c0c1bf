/-
  What each function of package place, and each of the document's own places, answers, for numbers of addresses up to 65536 and leaves up to 2048: the world is as it was.
-/
import Derived.Test.YtlfdekeahplidaaBitCalls
import Derived.WalkKit
import Derived.ProofKit
import Derived.OpenShut
import Derived.Lib.Hide
namespace Go.Proofs.Ytlfdekeahplidaa
open Go.RowKit
theorem ret_ii {a b c d : Int} (h : a = c) (g : b = d) : Ending.returned (.tuple #[.int .i64 a, .int .i64 b]) = .returned (.tuple #[.int .i64 c, .int .i64 d]) := by rw [h, g]
/-- How many leaves n addresses have. -/
def lv (n : Nat) : Nat := (n + 31) / 32
/-- How many tops so many leaves have. -/
def tq (l : Nat) : Nat := (l + 63) / 64
/-- How many tops n addresses have. -/
def tv (n : Nat) : Nat := tq (lv n)
/-- A leaf's width. -/
def wd (n l : Nat) : Nat := min (n - 32 * l) 32
theorem lv_le {n : Nat} (h : n ≤ 65536) : lv n ≤ 2048 := by unfold lv; omega
theorem tv_le {n : Nat} (h : n ≤ 65536) : tv n ≤ 32 := by have := lv_le h; unfold tv tq; omega
theorem parts_32 (n : Nat) (hn : n ≤ 65536) (w : World) :
    Calls Try.prog 72 #[.int .i64 n, .int .i64 32] w fun e w' => e = .returned (.int .i64 (lv n)) ∧ w = w' := by
  obtain ⟨q, hq, hq'⟩ : ∃ q : Nat, (n : Int) / 32 = q ∧ q = n / 32 := ⟨n / 32, by omega, rfl⟩
  obtain ⟨r, hr, hr'⟩ : ∃ r : Nat, (n : Int) % 32 = r ∧ r = n % 32 := ⟨n % 32, by omega, rfl⟩
  have hl : lv n = if r = 0 then q else q + 1 := by unfold lv; split <;> omega
  have hq2 : q ≤ 2048 := by omega
  have HQ := Lib.hid hq'; have HR := Lib.hid hr'; have HL := Lib.hid hl
  clear hq' hr' hl
  by_cases h0 : r = 0
  · subst h0
    go_enter Try.func72, Try.ntmps72
    go_wp2
    go_ret
    exact ⟨ret_int (by rw [HL.out]; simp), rfl⟩
  · have h1 : 0 < r := by omega
    go_enter Try.func72, Try.ntmps72
    go_wp2
    go_ret
    exact ⟨ret_int (by rw [HL.out, if_neg h0]; go_num), rfl⟩
theorem parts_64 (n : Nat) (hn : n ≤ 65536) (w : World) :
    Calls Try.prog 72 #[.int .i64 n, .int .i64 64] w fun e w' => e = .returned (.int .i64 (tq n)) ∧ w = w' := by
  obtain ⟨q, hq, hq'⟩ : ∃ q : Nat, (n : Int) / 64 = q ∧ q = n / 64 := ⟨n / 64, by omega, rfl⟩
  obtain ⟨r, hr, hr'⟩ : ∃ r : Nat, (n : Int) % 64 = r ∧ r = n % 64 := ⟨n % 64, by omega, rfl⟩
  have hl : tq n = if r = 0 then q else q + 1 := by unfold tq; split <;> omega
  have hq2 : q ≤ 2048 := by omega
  have HQ := Lib.hid hq'; have HR := Lib.hid hr'; have HL := Lib.hid hl
  clear hq' hr' hl
  by_cases h0 : r = 0
  · subst h0
    go_enter Try.func72, Try.ntmps72
    go_wp2
    go_ret
    exact ⟨ret_int (by rw [HL.out]; simp), rfl⟩
  · have h1 : 0 < r := by omega
    go_enter Try.func72, Try.ntmps72
    go_wp2
    go_ret
    exact ⟨ret_int (by rw [HL.out, if_neg h0]; go_num), rfl⟩
theorem leaves_any (n : Nat) (hn : n ≤ 65536) (w : World) :
    Calls Try.prog 70 #[.int .i64 n] w fun e w' => e = .returned (.int .i64 (lv n)) ∧ w = w' := by
  go_enter Try.func70, Try.ntmps70
  go_wp2_with (go_at_call 72; refine (parts_32 _ hn _).mono ?_; rintro e w' ⟨rfl, rfl⟩)
  go_ret
  exact ⟨rfl, rfl⟩
theorem tops_any (n : Nat) (hn : n ≤ 65536) (w : World) :
    Calls Try.prog 73 #[.int .i64 n] w fun e w' => e = .returned (.int .i64 (tv n)) ∧ w = w' := by
  have h1 := lv_le hn
  have h2 : lv n ≤ 65536 := by omega
  go_enter Try.func73, Try.ntmps73
  go_wp2_with (first
    | ((with_reducible refine (leaves_any _ hn _).mono ?_); rintro e w' ⟨rfl, rfl⟩)
    | ((with_reducible refine (parts_64 _ h2 _).mono ?_); rintro e w' ⟨rfl, rfl⟩))
  go_ret
  exact ⟨rfl, rfl⟩
theorem root_any (n : Nat) (hn : n ≤ 65536) (w : World) :
    Calls Try.prog 71 #[.int .i64 n] w fun e w' => e = .returned (.int .i64 ((lv n + tv n : Nat))) ∧ w = w' := by
  have h1 := lv_le hn
  have h2 := tv_le hn
  go_enter Try.func71, Try.ntmps71
  go_wp2_with (first
    | ((with_reducible refine (leaves_any _ hn _).mono ?_); rintro e w' ⟨rfl, rfl⟩)
    | ((with_reducible refine (tops_any _ hn _).mono ?_); rintro e w' ⟨rfl, rfl⟩))
  go_ret
  exact ⟨ret_int (by go_num), rfl⟩
theorem leaf_any (o : Nat) (ho : o ≤ 65536) (w : World) :
    Calls Try.prog 54 #[.int .i64 o] w fun e w' => e = .returned (.tuple #[.int .i64 ((o / 32 : Nat)), .int .i64 ((o % 32 : Nat))]) ∧ w = w' := by
  go_enter Try.func54, Try.ntmps54
  go_wp2
  go_ret2
  exact ⟨ret_ii (by go_num) (by go_num), rfl⟩
theorem summed_any (l : Nat) (hl : l ≤ 65536) (w : World) :
    Calls Try.prog 69 #[.int .i64 l] w fun e w' => e = .returned (.tuple #[.int .i64 ((l / 64 : Nat)), .int .i64 ((l % 64 : Nat))]) ∧ w = w' := by
  go_enter Try.func69, Try.ntmps69
  go_wp2
  go_ret2
  exact ⟨ret_ii (by go_num) (by go_num), rfl⟩
theorem top_any (n l : Nat) (hn : n ≤ 65536) (hl : l ≤ 65536) (w : World) :
    Calls Try.prog 60 #[.int .i64 n, .int .i64 l] w fun e w' => e = .returned (.tuple #[.int .i64 ((lv n + l / 64 : Nat)), .int .i64 ((l % 64 : Nat))]) ∧ w = w' := by
  have h1 := lv_le hn
  obtain ⟨q, hq⟩ : ∃ q : Nat, q = l / 64 := ⟨_, rfl⟩
  obtain ⟨r, hr⟩ : ∃ r : Nat, r = l % 64 := ⟨_, rfl⟩
  have hq2 : q ≤ 65536 := by omega
  have S : ∀ w, Hid (Calls Try.prog 69 #[.int .i64 l] w fun e w' => e = .returned (.tuple #[.int .i64 (q : Nat), .int .i64 (r : Nat)]) ∧ w = w') := fun w => by rw [hq, hr]; exact summed_any l hl w
  have HQ := Lib.hid hq; have HR := Lib.hid hr
  clear hq hr
  go_enter Try.func60, Try.ntmps60
  go_wp2_with (first
    | ((with_reducible refine (leaves_any _ hn _).mono ?_); rintro e w' ⟨rfl, rfl⟩)
    | ((with_reducible refine ((S _).out).mono ?_); rintro e w' ⟨rfl, rfl⟩))
  go_ret2
  exact ⟨ret_ii (by rw [← HQ.out]; go_num) (by rw [← HR.out]), rfl⟩
theorem rootof_any (n l : Nat) (hn : n ≤ 65536) (hl : l ≤ 65536) (w : World) :
    Calls Try.prog 62 #[.int .i64 n, .int .i64 l] w fun e w' => e = .returned (.tuple #[.int .i64 ((lv n + tv n : Nat)), .int .i64 ((l / 64 : Nat))]) ∧ w = w' := by
  have R := fun w => Lib.hid (root_any n hn w)
  have h1 := lv_le hn
  have h2 := tv_le hn
  obtain ⟨q, hq⟩ : ∃ q : Nat, q = l / 64 := ⟨_, rfl⟩
  obtain ⟨r, hr⟩ : ∃ r : Nat, r = l % 64 := ⟨_, rfl⟩
  have S : ∀ w, Hid (Calls Try.prog 69 #[.int .i64 l] w fun e w' => e = .returned (.tuple #[.int .i64 (q : Nat), .int .i64 (r : Nat)]) ∧ w = w') := fun w => by rw [hq, hr]; exact summed_any l hl w
  have HQ := Lib.hid hq
  clear hq hr
  go_enter Try.func62, Try.ntmps62
  go_wp2_with (first
    | ((with_reducible refine ((R _).out).mono ?_); rintro e w' ⟨rfl, rfl⟩)
    | ((with_reducible refine ((S _).out).mono ?_); rintro e w' ⟨rfl, rfl⟩))
  go_ret2
  exact ⟨ret_ii (by go_num) (by rw [← HQ.out]), rfl⟩
end Go.Proofs.Ytlfdekeahplidaa

