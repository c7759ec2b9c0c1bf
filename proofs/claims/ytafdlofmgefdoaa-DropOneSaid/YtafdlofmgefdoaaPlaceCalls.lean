/-
  What each function of package place, and each of the document's own places, answers, for numbers of addresses up to 65536 and leaves up to 2048: the world is as it was.
-/
import Derived.Test.YtafdlofmgefdoaaBitCalls
import Derived.WalkKit
import Derived.ProofKit
import Derived.OpenShut
import Derived.Lib.Hide
namespace Go.Proofs.Ytafdlofmgefdoaa
open Go.RowKit
theorem ret_ii {a b c d : Int} (h : a = c) (g : b = d) : Ending.returned (.tuple #[.int .i64 a, .int .i64 b]) = .returned (.tuple #[.int .i64 c, .int .i64 d]) := by rw [h, g]
/-- How many leaves n addresses have. -/
def lv (n : Nat) : Nat := (n + 31) / 32
/-- How many tops so many leaves have. -/
def tq (l : Nat) : Nat := (l + 63) / 64
/-- How many tops n addresses have. -/
def tv (n : Nat) : Nat := tq (lv n)
/-- A leaf's width. -/
def wd (n l : Nat) : Nat := min (n - 32 * l) 32
theorem lv_le {n : Nat} (h : n ≤ 65536) : lv n ≤ 2048 := by unfold lv; omega
theorem tv_le {n : Nat} (h : n ≤ 65536) : tv n ≤ 32 := by have := lv_le h; unfold tv tq; omega
theorem leaf_any (o : Nat) (ho : o ≤ 65536) (w : World) :
    Calls Try.prog 57 #[.int .i64 o] w fun e w' => e = .returned (.tuple #[.int .i64 ((o / 32 : Nat)), .int .i64 ((o % 32 : Nat))]) ∧ w = w' := by
  go_enter Try.func57, Try.ntmps57
  go_wp2
  go_ret2
  exact ⟨ret_ii (by go_num) (by go_num), rfl⟩
end Go.Proofs.Ytafdlofmgefdoaa

