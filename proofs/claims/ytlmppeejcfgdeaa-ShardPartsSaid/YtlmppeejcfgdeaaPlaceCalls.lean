/-
  What each function of package place, and each of the document's own places, answers, for numbers of addresses up to 65536 and leaves up to 2048: the world is as it was.
-/
import Derived.Test.YtlmppeejcfgdeaaBlk
import Derived.WalkKit
import Derived.ProofKit
import Derived.OpenShut
import Derived.Lib.Hide
namespace Go.Proofs.Ytlmppeejcfgdeaa
open Go.RowKit
theorem ret_ii {a b c d : Int} (h : a = c) (g : b = d) : Ending.returned (.tuple #[.int .i64 a, .int .i64 b]) = .returned (.tuple #[.int .i64 c, .int .i64 d]) := by rw [h, g]
theorem wf_u16 {a : Int} (h : (Lit.int .u16 a).wf = true) : ∃ X : Nat, a = X ∧ X < 65536 := by
  have h' : 0 ≤ a ∧ a ≤ 65535 := by simpa [Lit.wf, IntKind.min, IntKind.max, IntKind.bits, IntKind.signed] using h
  exact ⟨a.toNat, by omega, by omega⟩
/-- How many leaves n addresses have. -/
def lv (n : Nat) : Nat := (n + 31) / 32
/-- How many tops so many leaves have. -/
def tq (l : Nat) : Nat := (l + 63) / 64
/-- How many tops n addresses have. -/
def tv (n : Nat) : Nat := tq (lv n)
/-- A leaf's width. -/
def wd (n l : Nat) : Nat := min (n - 32 * l) 32
theorem lv_le {n : Nat} (h : n ≤ 65536) : lv n ≤ 2048 := by unfold lv; omega
theorem tv_le {n : Nat} (h : n ≤ 65536) : tv n ≤ 32 := by have := lv_le h; unfold tv tq; omega
theorem parts_32 (n : Nat) (hn : n ≤ 65536) (w : World) :
    Calls Try.prog 15 #[.int .i64 n, .int .i64 32] w fun e w' => e = .returned (.int .i64 (lv n)) ∧ w = w' := by
  obtain ⟨q, hq, hq'⟩ : ∃ q : Nat, (n : Int) / 32 = q ∧ q = n / 32 := ⟨n / 32, by omega, rfl⟩
  obtain ⟨r, hr, hr'⟩ : ∃ r : Nat, (n : Int) % 32 = r ∧ r = n % 32 := ⟨n % 32, by omega, rfl⟩
  have hl : lv n = if r = 0 then q else q + 1 := by unfold lv; split <;> omega
  have hq2 : q ≤ 2048 := by omega
  have HQ := Lib.hid hq'; have HR := Lib.hid hr'; have HL := Lib.hid hl
  clear hq' hr' hl
  by_cases h0 : r = 0
  · subst h0
    go_enter Try.func15, Try.ntmps15
    go_wp2
    go_ret
    exact ⟨ret_int (by rw [HL.out]; simp), rfl⟩
  · have h1 : 0 < r := by omega
    go_enter Try.func15, Try.ntmps15
    go_wp2
    go_ret
    exact ⟨ret_int (by rw [HL.out, if_neg h0]; go_num), rfl⟩
theorem parts_64 (n : Nat) (hn : n ≤ 65536) (w : World) :
    Calls Try.prog 15 #[.int .i64 n, .int .i64 64] w fun e w' => e = .returned (.int .i64 (tq n)) ∧ w = w' := by
  obtain ⟨q, hq, hq'⟩ : ∃ q : Nat, (n : Int) / 64 = q ∧ q = n / 64 := ⟨n / 64, by omega, rfl⟩
  obtain ⟨r, hr, hr'⟩ : ∃ r : Nat, (n : Int) % 64 = r ∧ r = n % 64 := ⟨n % 64, by omega, rfl⟩
  have hl : tq n = if r = 0 then q else q + 1 := by unfold tq; split <;> omega
  have hq2 : q ≤ 2048 := by omega
  have HQ := Lib.hid hq'; have HR := Lib.hid hr'; have HL := Lib.hid hl
  clear hq' hr' hl
  by_cases h0 : r = 0
  · subst h0
    go_enter Try.func15, Try.ntmps15
    go_wp2
    go_ret
    exact ⟨ret_int (by rw [HL.out]; simp), rfl⟩
  · have h1 : 0 < r := by omega
    go_enter Try.func15, Try.ntmps15
    go_wp2
    go_ret
    exact ⟨ret_int (by rw [HL.out, if_neg h0]; go_num), rfl⟩
theorem leaves_any (n : Nat) (hn : n ≤ 65536) (w : World) :
    Calls Try.prog 13 #[.int .i64 n] w fun e w' => e = .returned (.int .i64 (lv n)) ∧ w = w' := by
  go_enter Try.func13, Try.ntmps13
  go_wp2_with (go_at_call 15; refine (parts_32 _ hn _).mono ?_; rintro e w' ⟨rfl, rfl⟩)
  go_ret
  exact ⟨rfl, rfl⟩
end Go.Proofs.Ytlmppeejcfgdeaa

