/-
  What Store, Add, Swap and New of package cells answer, as lists: the world grows, and nothing that was there is otherwise. Conditions: at most 65536 cells; words below 2^64.
-/
import Derived.Test.YtafdlofmgefdoaaCellCalls
namespace Go.Proofs.Ytafdlofmgefdoaa
open Go.RowKit
def one (t : TypeId) (v : Nat) : Obj := .cells #[.int .u64 (v : Int)] t
theorem RetS.ret {n : Nat} {xs : List Nat} {w w1 w2 : World} {A : Option Addr} {c : Nat} (h : US w2 A n c xs) (K1 : Below w.heap.size w w1) (K2 : Below w1.heap.size w1 w2) : US w2 A n c xs ∧ Below w.heap.size w w2 :=
  ⟨h, K1.trans (K2.mono K1.size)⟩
set_option maxHeartbeats 400000 in
theorem swap_yes {w : World} {A : Option Addr} {n c a v : Nat} {xs : List Nat} (h : US w A n c xs) (ha : a < n) (hn : n ≤ 65536) (hv : v < U64) :
    Calls Try.prog 44 #[.slice A n c, .int .i64 (a : Nat), .int .u64 (gt xs a : Nat), .int .u64 (v : Nat)] w (RetSB n (xs.set a v) true w) := by
  have hb2 : Below w.heap.size w ((w.alloc (.cells #[.int .u64 (gt xs a : Nat)] 40)).alloc (.cells #[.int .u64 (v : Nat)] 40)) := (below_alloc w _).alloc (by simp) _
  have T := Lib.hid (turn_swap_yes (g := w.heap.size + 1) (k := w.heap.size) (h.below hb2) ha hn (by simp) (by simp) hv)
  go_enter Try.func44, Try.ntmps44
  go_wp2_with (go_at_call 51; refine (T.out).mono ?_; rintro e w' ⟨A1, c1, rfl, U1, K1⟩)
  go_ret2
  exact ⟨_, _, rfl, RetS.ret U1 hb2 K1⟩
set_option maxHeartbeats 400000 in
theorem swap_no {w : World} {A : Option Addr} {n c a v y : Nat} {xs : List Nat} (h : US w A n c xs) (ha : a < n) (hne : gt xs a ≠ y) :
    Calls Try.prog 44 #[.slice A n c, .int .i64 (a : Nat), .int .u64 (y : Nat), .int .u64 (v : Nat)] w (RetSB n xs false w) := by
  have hb2 : Below w.heap.size w ((w.alloc (.cells #[.int .u64 (y : Nat)] 40)).alloc (.cells #[.int .u64 (v : Nat)] 40)) := (below_alloc w _).alloc (by simp) _
  have T := Lib.hid (turn_swap_no (v := v) (g := w.heap.size + 1) (k := w.heap.size) (h.below hb2) ha (by simp) (by simp) hne)
  go_enter Try.func44, Try.ntmps44
  go_wp2_with (go_at_call 51; refine (T.out).mono ?_; rintro e w' ⟨rfl, m, hm⟩; have K1 := hm ▸ drewN_below _ m; clear hm)
  go_ret2
  have K2 := hb2.trans (K1.mono hb2.size)
  exact ⟨_, _, rfl, h.below K2, K2⟩
theorem swap_out {w : World} {A : Option Addr} {n c v y : Nat} {a : Int} {xs : List Nat} (h : US w A n c xs) (ha : a < 0 ∨ (n : Int) ≤ a) :
    Calls Try.prog 44 #[.slice A n c, .int .i64 a, .int .u64 (y : Nat), .int .u64 (v : Nat)] w (RetSB n xs false w) := by
  have hb2 : Below w.heap.size w ((w.alloc (.cells #[.int .u64 (y : Nat)] 40)).alloc (.cells #[.int .u64 (v : Nat)] 40)) := (below_alloc w _).alloc (by simp) _
  have T := fun f => Lib.hid (turn_no (w := (w.alloc (.cells #[.int .u64 (y : Nat)] 40)).alloc (.cells #[.int .u64 (v : Nat)] 40)) (A := A) (n := n) (c := c) (a := a) (f := f) ha)
  go_enter Try.func44, Try.ntmps44
  go_wp2_with (go_at_call 51; refine ((T _).out).mono ?_; rintro e w' ⟨rfl, rfl⟩)
  go_ret2
  exact ⟨_, _, rfl, h.below hb2, hb2⟩
def swB (xs : List Nat) (a : Int) (y : Nat) : Bool := decide (0 ≤ a ∧ a < (xs.length : Int) ∧ ldI xs a = y)
def swL (xs : List Nat) (a : Int) (y v : Nat) : List Nat := if swB xs a y = true then stI xs a v else xs
theorem swap_any {w : World} {A : Option Addr} {n c v y : Nat} {xs : List Nat} (h : US w A n c xs) (a : Int) (hn : n ≤ 65536) (hv : v < U64) :
    Calls Try.prog 44 #[.slice A n c, .int .i64 a, .int .u64 (y : Nat), .int .u64 (v : Nat)] w (RetSB n (swL xs a y v) (swB xs a y) w) := by
  have hl := h.len
  by_cases ha : a < 0 ∨ (n : Int) ≤ a
  · have e : swB xs a y = false := by unfold swB; simp; omega
    unfold swL; rw [e]; simp only [Bool.false_eq_true, if_false]; exact swap_out h ha
  · obtain ⟨k, rfl⟩ : ∃ k : Nat, a = k := ⟨a.toNat, by omega⟩
    by_cases he : gt xs k = y
    · have e : swB xs k y = true := by unfold swB; rw [ldI_nat]; simp; omega
      unfold swL; rw [e, stI_nat]; simp only [if_true]; subst he; exact swap_yes h (by omega) hn hv
    · have e : swB xs k y = false := by unfold swB; rw [ldI_nat]; simp; omega
      unfold swL; rw [e]; simp only [Bool.false_eq_true, if_false]; exact swap_no h (by omega) he
end Go.Proofs.Ytafdlofmgefdoaa

