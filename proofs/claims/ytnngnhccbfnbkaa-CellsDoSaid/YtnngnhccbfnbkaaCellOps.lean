/-
  What Store, Add, Swap and New of package cells answer, as lists: the world grows, and nothing that was there is otherwise. Conditions: at most 65536 cells; words below 2^64.
-/
import Derived.Test.YtnngnhccbfnbkaaCellCalls
namespace Go.Proofs.Ytnngnhccbfnbkaa
open Go.RowKit
def one (t : TypeId) (v : Nat) : Obj := .cells #[.int .u64 (v : Int)] t
theorem below_alloc (w : World) (o : Obj) : Below w.heap.size w (w.alloc o) := (Below.refl _ _).alloc (Nat.le_refl _) o
theorem RetS.ret {n : Nat} {xs : List Nat} {w w1 w2 : World} {A : Option Addr} {c : Nat} (h : US w2 A n c xs) (K1 : Below w.heap.size w w1) (K2 : Below w1.heap.size w1 w2) : US w2 A n c xs ∧ Below w.heap.size w w2 :=
  ⟨h, K1.trans (K2.mono K1.size)⟩
set_option maxHeartbeats 400000 in
theorem store_nat {w : World} {A : Option Addr} {n c a v : Nat} {xs : List Nat} (h : US w A n c xs) (ha : a < n) (hn : n ≤ 65536) (hv : v < U64) :
    Calls Try.prog 15 #[.slice A n c, .int .i64 (a : Nat), .int .u64 (v : Nat)] w (RetS n (xs.set a v) w) := by
  have T := Lib.hid (turn_store (g := w.heap.size) (h.below (below_alloc w (.cells #[.int .u64 (v : Int)] 23))) ha hn (by simp) hv)
  go_enter Try.func15, Try.ntmps15
  go_wp2_with (go_at_call 20; refine (T.out).mono ?_; rintro e w' ⟨A1, c1, rfl, U1, K1⟩)
  go_ret
  exact ⟨_, _, rfl, RetS.ret U1 (below_alloc w _) K1⟩
theorem store_out {w : World} {A : Option Addr} {n c v : Nat} {a : Int} {xs : List Nat} (h : US w A n c xs) (ha : a < 0 ∨ (n : Int) ≤ a) :
    Calls Try.prog 15 #[.slice A n c, .int .i64 a, .int .u64 (v : Nat)] w (RetS n xs w) := by
  have T := fun f => Lib.hid (turn_no (w := w.alloc (.cells #[.int .u64 (v : Int)] 23)) (A := A) (n := n) (c := c) (a := a) (f := f) ha)
  go_enter Try.func15, Try.ntmps15
  go_wp2_with (go_at_call 20; refine ((T _).out).mono ?_; rintro e w' ⟨rfl, rfl⟩)
  go_ret
  exact ⟨_, _, rfl, h.below (below_alloc w _), below_alloc w _⟩
set_option maxHeartbeats 400000 in
theorem add_nat {w : World} {A : Option Addr} {n c a v : Nat} {xs : List Nat} (h : US w A n c xs) (ha : a < n) (hn : n ≤ 65536) :
    Calls Try.prog 17 #[.slice A n c, .int .i64 (a : Nat), .int .u64 (v : Nat)] w (RetS n (xs.set a (add64 (gt xs a) v)) w) := by
  have T := Lib.hid (turn_add (v := v) (g := w.heap.size) (h.below (below_alloc w (.cells #[.int .u64 (v : Int)] 23))) ha hn (by simp))
  go_enter Try.func17, Try.ntmps17
  go_wp2_with (go_at_call 20; refine (T.out).mono ?_; rintro e w' ⟨A1, c1, rfl, U1, K1⟩)
  go_ret
  exact ⟨_, _, rfl, RetS.ret U1 (below_alloc w _) K1⟩
theorem add_out {w : World} {A : Option Addr} {n c v : Nat} {a : Int} {xs : List Nat} (h : US w A n c xs) (ha : a < 0 ∨ (n : Int) ≤ a) :
    Calls Try.prog 17 #[.slice A n c, .int .i64 a, .int .u64 (v : Nat)] w (RetS n xs w) := by
  have T := fun f => Lib.hid (turn_no (w := w.alloc (.cells #[.int .u64 (v : Int)] 23)) (A := A) (n := n) (c := c) (a := a) (f := f) ha)
  go_enter Try.func17, Try.ntmps17
  go_wp2_with (go_at_call 20; refine ((T _).out).mono ?_; rintro e w' ⟨rfl, rfl⟩)
  go_ret
  exact ⟨_, _, rfl, h.below (below_alloc w _), below_alloc w _⟩
theorem store_any {w : World} {A : Option Addr} {n c v : Nat} {xs : List Nat} (h : US w A n c xs) (a : Int) (hn : n ≤ 65536) (hv : v < U64) :
    Calls Try.prog 15 #[.slice A n c, .int .i64 a, .int .u64 (v : Nat)] w (RetS n (stI xs a v) w) := by
  by_cases ha : a < 0 ∨ (n : Int) ≤ a
  · rw [stI_out v (by have := h.len; omega)]; exact store_out h ha
  · obtain ⟨k, rfl⟩ : ∃ k : Nat, a = k := ⟨a.toNat, by omega⟩
    rw [stI_nat]; exact store_nat h (by omega) hn hv
theorem add_any {w : World} {A : Option Addr} {n c v : Nat} {xs : List Nat} (h : US w A n c xs) (a : Int) (hn : n ≤ 65536) :
    Calls Try.prog 17 #[.slice A n c, .int .i64 a, .int .u64 (v : Nat)] w (RetS n (stI xs a (add64 (ldI xs a) v)) w) := by
  by_cases ha : a < 0 ∨ (n : Int) ≤ a
  · rw [stI_out _ (by have := h.len; omega)]; exact add_out h ha
  · obtain ⟨k, rfl⟩ : ∃ k : Nat, a = k := ⟨a.toNat, by omega⟩
    rw [stI_nat, ldI_nat]; exact add_nat h (by omega) hn
set_option maxHeartbeats 400000 in
theorem swap_yes {w : World} {A : Option Addr} {n c a v : Nat} {xs : List Nat} (h : US w A n c xs) (ha : a < n) (hn : n ≤ 65536) (hv : v < U64) :
    Calls Try.prog 10 #[.slice A n c, .int .i64 (a : Nat), .int .u64 (gt xs a : Nat), .int .u64 (v : Nat)] w (RetSB n (xs.set a v) true w) := by
  have hb2 : Below w.heap.size w ((w.alloc (.cells #[.int .u64 (gt xs a : Nat)] 23)).alloc (.cells #[.int .u64 (v : Nat)] 23)) := (below_alloc w _).alloc (by simp) _
  have T := Lib.hid (turn_swap_yes (g := w.heap.size + 1) (k := w.heap.size) (h.below hb2) ha hn (by simp) (by simp) hv)
  go_enter Try.func10, Try.ntmps10
  go_wp2_with (go_at_call 20; refine (T.out).mono ?_; rintro e w' ⟨A1, c1, rfl, U1, K1⟩)
  go_ret2
  exact ⟨_, _, rfl, RetS.ret U1 hb2 K1⟩
set_option maxHeartbeats 400000 in
theorem swap_no {w : World} {A : Option Addr} {n c a v y : Nat} {xs : List Nat} (h : US w A n c xs) (ha : a < n) (hne : gt xs a ≠ y) :
    Calls Try.prog 10 #[.slice A n c, .int .i64 (a : Nat), .int .u64 (y : Nat), .int .u64 (v : Nat)] w (RetSB n xs false w) := by
  have hb2 : Below w.heap.size w ((w.alloc (.cells #[.int .u64 (y : Nat)] 23)).alloc (.cells #[.int .u64 (v : Nat)] 23)) := (below_alloc w _).alloc (by simp) _
  have T := Lib.hid (turn_swap_no (v := v) (g := w.heap.size + 1) (k := w.heap.size) (h.below hb2) ha (by simp) (by simp) hne)
  go_enter Try.func10, Try.ntmps10
  go_wp2_with (go_at_call 20; refine (T.out).mono ?_; rintro e w' ⟨rfl, m, hm⟩; have K1 := hm ▸ below_drewN _ m; clear hm)
  go_ret2
  have K2 := hb2.trans (K1.mono hb2.size)
  exact ⟨_, _, rfl, h.below K2, K2⟩
theorem swap_out {w : World} {A : Option Addr} {n c v y : Nat} {a : Int} {xs : List Nat} (h : US w A n c xs) (ha : a < 0 ∨ (n : Int) ≤ a) :
    Calls Try.prog 10 #[.slice A n c, .int .i64 a, .int .u64 (y : Nat), .int .u64 (v : Nat)] w (RetSB n xs false w) := by
  have hb2 : Below w.heap.size w ((w.alloc (.cells #[.int .u64 (y : Nat)] 23)).alloc (.cells #[.int .u64 (v : Nat)] 23)) := (below_alloc w _).alloc (by simp) _
  have T := fun f => Lib.hid (turn_no (w := (w.alloc (.cells #[.int .u64 (y : Nat)] 23)).alloc (.cells #[.int .u64 (v : Nat)] 23)) (A := A) (n := n) (c := c) (a := a) (f := f) ha)
  go_enter Try.func10, Try.ntmps10
  go_wp2_with (go_at_call 20; refine ((T _).out).mono ?_; rintro e w' ⟨rfl, rfl⟩)
  go_ret2
  exact ⟨_, _, rfl, h.below hb2, hb2⟩
def swB (xs : List Nat) (a : Int) (y : Nat) : Bool := decide (0 ≤ a ∧ a < (xs.length : Int) ∧ ldI xs a = y)
def swL (xs : List Nat) (a : Int) (y v : Nat) : List Nat := if swB xs a y = true then stI xs a v else xs
theorem swap_any {w : World} {A : Option Addr} {n c v y : Nat} {xs : List Nat} (h : US w A n c xs) (a : Int) (hn : n ≤ 65536) (hv : v < U64) :
    Calls Try.prog 10 #[.slice A n c, .int .i64 a, .int .u64 (y : Nat), .int .u64 (v : Nat)] w (RetSB n (swL xs a y v) (swB xs a y) w) := by
  have hl := h.len
  by_cases ha : a < 0 ∨ (n : Int) ≤ a
  · have e : swB xs a y = false := by unfold swB; simp; omega
    unfold swL; rw [e]; simp only [Bool.false_eq_true, if_false]; exact swap_out h ha
  · obtain ⟨k, rfl⟩ : ∃ k : Nat, a = k := ⟨a.toNat, by omega⟩
    by_cases he : gt xs k = y
    · have e : swB xs k y = true := by unfold swB; rw [ldI_nat]; simp; omega
      unfold swL; rw [e, stI_nat]; simp only [if_true]; subst he; exact swap_yes h (by omega) hn hv
    · have e : swB xs k y = false := by unfold swB; rw [ldI_nat]; simp; omega
      unfold swL; rw [e]; simp only [Bool.false_eq_true, if_false]; exact swap_no h (by omega) he
theorem new_any (n : Nat) (hn : n ≤ 65536) (w : World) : Calls Try.prog 18 #[.int .i64 (n : Nat)] w (RetS n (List.replicate n 0) w) := by
  obtain ⟨i0, hi, hz0, hz1, hz2⟩ := info_parts u64_info
  have hb8 : i0.bytes * n ≤ 281474976710656 := by rw [hz2]; omega
  go_enter Try.func18, Try.ntmps18
  go_wp2_with (at_make; refine wpList_make_full _ rfl (.tmp 9) (.tmp 9) _ rfl w.heap.size 23 i0 _ 1 Try.underlying22 hi hz0 hz1 .i64 .i64 _ _ n rfl rfl rfl rfl hb8 (by unfold maxLen; omega) (Nat.le_refl _) ?_; intro w1 hown1 hg1; have B1 := Blk.of_made hown1; clear hown1; have K1 : Below w.heap.size w w1 := (Below.refl _ _).grown hg1 (Nat.le_refl _) (by simp); clear hg1)
  go_ret
  exact ⟨_, _, rfl, B1.us (by intro x hx; rw [List.eq_of_mem_replicate hx]; decide) (by simp) hn, K1⟩
end Go.Proofs.Ytnngnhccbfnbkaa
