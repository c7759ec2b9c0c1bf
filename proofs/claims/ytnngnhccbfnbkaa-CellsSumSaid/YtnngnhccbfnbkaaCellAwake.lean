/-
  The anchor of the statements of cells answers true, in every world, and nothing that was there is otherwise; no conditions.
-/
import Derived.Test.YtnngnhccbfnbkaaCellRefs
namespace Go.Proofs.Ytnngnhccbfnbkaa
open Go.RowKit
theorem Below.then_ {w a b : World} (K : Below w.heap.size w a) (K' : Below a.heap.size a b) : Below w.heap.size w b := K.trans (K'.mono K.size)
set_option maxHeartbeats 1000000 in
theorem awake_any (w : World) : Calls Try.prog 9 #[] w fun e w' => e = .returned (.bool true) ∧ Below w.heap.size w w' := by
  have T0 : Calls Try.prog 18 #[.int .i64 2] w (RetS 2 [0, 0] w) := new_any 2 (by decide) w
  have e0 : ((2 : Int) != 2) = false := rfl
  have H0 := Lib.hid T0
  clear T0
  go_enter Try.func9, Try.ntmps9
  go_wp2_with fail
  refine (H0.out).mono ?_
  rintro e w1 ⟨A0, c0, rfl, U0, K0⟩
  clear H0
  have T1 := Lib.hid (show Calls Try.prog 15 #[.slice A0 2 c0, .int .i64 1, .int .u64 5] w1 (RetS 2 [0, 5] w1) from store_any U0 1 (by decide) (v := 5) (by decide))
  go_wp2_with fail
  refine (T1.out).mono ?_
  rintro e w2 ⟨A1, c1, rfl, U1, K1⟩
  clear T1 U0
  have K1 := Below.then_ K0 K1
  clear K0
  have T2 := Lib.hid (show Calls Try.prog 10 #[.slice A1 2 c1, .int .i64 1, .int .u64 5, .int .u64 6] w2 (RetSB 2 [0, 6] true w2) from swap_any (y := 5) (v := 6) U1 1 (by decide) (by decide))
  go_wp2_with fail
  refine (T2.out).mono ?_
  rintro e w3 ⟨A2, c2, rfl, U2, K2⟩
  clear T2
  have U1 := U1.below K2
  have K2 := Below.then_ K1 K2
  clear K1
  have T3 := Lib.hid (show Calls Try.prog 10 #[.slice A2 2 c2, .int .i64 1, .int .u64 5, .int .u64 6] w3 (RetSB 2 [0, 6] false w3) from swap_any (y := 5) (v := 6) U2 1 (by decide) (by decide))
  go_wp2_with fail
  refine (T3.out).mono ?_
  rintro e w4 ⟨A3, c3, rfl, U3, K3⟩
  clear T3
  have U1 := U1.below K3
  have U2 := U2.below K3
  have K3 := Below.then_ K2 K3
  clear K2
  have T4 := Lib.hid (show Calls Try.prog 17 #[.slice A2 2 c2, .int .i64 0, .int .u64 18446744073709551615] w4 (RetS 2 [18446744073709551615, 6] w4) from add_any (v := 18446744073709551615) U2 0 (by decide))
  go_wp2_with fail
  refine (T4.out).mono ?_
  rintro e w5 ⟨A4, c4, rfl, U4, K4⟩
  clear T4
  have U1 := U1.below K4
  have U2 := U2.below K4
  have K4 := Below.then_ K3 K4
  clear K3
  have L1 := Lib.hid (show Calls Try.prog 12 #[.slice A1 2 c1, .int .i64 1] w5 fun e w' => e = .returned (.int .u64 5) ∧ w5 = w' from load_any U1 1)
  have L2 := Lib.hid (show Calls Try.prog 12 #[.slice A2 2 c2, .int .i64 1] w5 fun e w' => e = .returned (.int .u64 6) ∧ w5 = w' from load_any U2 1)
  have L3 := Lib.hid (show Calls Try.prog 12 #[.slice A4 2 c4, .int .i64 0] w5 fun e w' => e = .returned (.int .u64 18446744073709551615) ∧ w5 = w' from load_any U4 0)
  have L4 := Lib.hid (show Calls Try.prog 12 #[.slice A4 2 c4, .int .i64 2] w5 fun e w' => e = .returned (.int .u64 0) ∧ w5 = w' from load_any U4 2)
  have T5 := Lib.hid (show Calls Try.prog 15 #[.slice A4 2 c4, .int .i64 (-1), .int .u64 9] w5 (RetS 2 [18446744073709551615, 6] w5) from store_any (v := 9) U4 (-1) (by decide) (by decide))
  go_wp2_with fail
  refine (L1.out).mono ?_
  rintro e _ ⟨rfl, rfl⟩
  go_wp2_with fail
  refine (L2.out).mono ?_
  rintro e _ ⟨rfl, rfl⟩
  go_wp2_with fail
  refine (L3.out).mono ?_
  rintro e _ ⟨rfl, rfl⟩
  go_wp2_with fail
  refine (L4.out).mono ?_
  rintro e _ ⟨rfl, rfl⟩
  go_wp2_with fail
  refine (T5.out).mono ?_
  rintro e w6 ⟨A5, c5, rfl, U5, K5⟩
  clear T5 L1 L2 L3 L4 U1 U2 U3
  have U4 := U4.below K5
  have K5 := Below.then_ K4 K5
  clear K4
  have T6 := Lib.hid (same_any U5 U4 (by decide))
  go_wp2_with fail
  refine (T6.out).mono ?_
  rintro e w7 ⟨rfl, K6⟩
  clear T6 U5
  have U4 := U4.below K6
  have K6 := Below.then_ K5 K6
  clear K5
  have T7 := Lib.hid (show Calls Try.prog 17 #[.slice A4 2 c4, .int .i64 0, .int .u64 2] w7 (RetS 2 [1, 6] w7) from add_any (v := 2) U4 0 (by decide))
  go_wp2_with fail
  refine (T7.out).mono ?_
  rintro e w8 ⟨A7, c7, rfl, U7, K7⟩
  clear T7 U4
  have K7 := Below.then_ K6 K7
  clear K6
  have T8 := Lib.hid (show Calls Try.prog 12 #[.slice A7 2 c7, .int .i64 0] w8 fun e w' => e = .returned (.int .u64 1) ∧ w8 = w' from load_any U7 0)
  go_wp2_with fail
  refine (T8.out).mono ?_
  rintro e _ ⟨rfl, rfl⟩
  go_wp2
  go_ret
  exact ⟨rfl, K7⟩
section
variable {w : World} {A : Option Addr} {n c : Nat} {xs : List Nat}
theorem load_is (h : US w A n c xs) (a : Int) {x : Nat} (e : ldI xs a = x) :
    Calls Try.prog 12 #[.slice A n c, .int .i64 a] w fun e w' => e = .returned (.int .u64 (x : Nat)) ∧ w = w' := by subst e; exact load_any h a
theorem store_is (h : US w A n c xs) (a : Int) (hn : n ≤ 65536) {v : Nat} (hv : v < U64) {ys : List Nat} (e : stI xs a v = ys) :
    Calls Try.prog 15 #[.slice A n c, .int .i64 a, .int .u64 (v : Nat)] w (RetS n ys w) := by subst e; exact store_any h a hn hv
theorem add_is (h : US w A n c xs) (a : Int) (hn : n ≤ 65536) {v : Nat} {ys : List Nat} (e : stI xs a (add64 (ldI xs a) v) = ys) :
    Calls Try.prog 17 #[.slice A n c, .int .i64 a, .int .u64 (v : Nat)] w (RetS n ys w) := by subst e; exact add_any h a hn
theorem swap_is (h : US w A n c xs) (a : Int) (hn : n ≤ 65536) {y v : Nat} (hv : v < U64) {ys : List Nat} {b : Bool} (e : swB xs a y = b) (e' : swL xs a y v = ys) :
    Calls Try.prog 10 #[.slice A n c, .int .i64 a, .int .u64 (y : Nat), .int .u64 (v : Nat)] w (RetSB n ys b w) := by subst e; subst e'; exact swap_any h a hn hv
theorem swB_yes {a : Nat} {y : Nat} (ha : a < xs.length) (e : gt xs a = y) : swB xs a y = true := by unfold swB; rw [ldI_nat]; simp; omega
theorem swB_no {a : Nat} {y : Nat} (e : gt xs a ≠ y) : swB xs a y = false := by unfold swB; rw [ldI_nat]; simp; omega
theorem swB_out {a : Int} {y : Nat} (h : a < 0 ∨ (xs.length : Int) ≤ a) : swB xs a y = false := by unfold swB; simp; omega
theorem swL_yes {a : Int} {y v : Nat} (e : swB xs a y = true) : swL xs a y v = stI xs a v := by unfold swL; rw [e]; simp
theorem swL_no {a : Int} {y v : Nat} (e : swB xs a y = false) : swL xs a y v = xs := by unfold swL; rw [e]; simp
theorem same_is (h : US w A n c xs) {A' : Option Addr} {c' : Nat} {ys : List Nat} (h' : US w A' n c' ys) (hn : n ≤ 65536) (e : xs = ys) :
    Calls Try.prog 14 #[.slice A n c, .slice A' n c'] w fun e w' => e = .returned (.bool true) ∧ Below w.heap.size w w' := by subst e; exact same_any h h' hn
end
end Go.Proofs.Ytnngnhccbfnbkaa
