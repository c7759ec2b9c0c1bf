/-
  The walk of the statement CellsDo: for every list of words, place and two words the law answers true, and nothing that was there is otherwise; no conditions.
-/
import Derived.Test.YtnngnhccbfnbkaaCellAwake
namespace Go.Proofs.Ytnngnhccbfnbkaa.cellsDo
open Go.RowKit
set_option maxHeartbeats 1000000 in
theorem walk (a0 : Option Addr) (len0 cap0 : Nat) (z0 : List Int) (a1 : Int) (a2 : Int) (a3 : Int) (w : World) (w0 : IsRow .u64 w a0 len0 cap0 z0) (_w1 : (Lit.int .i64 a1).wf = true) (w2 : (Lit.int .u64 a2).wf = true) (w3 : (Lit.int .u64 a3).wf = true) :
    Calls Try.prog 3 #[.slice a0 len0 cap0, .int .i64 a1, .int .u64 a2, .int .u64 a3] w fun e w' => e = .returned (.bool true) ∧ Below w.heap.size w w' := by
  obtain ⟨xs, U⟩ := US.of_row w0
  obtain ⟨y, rfl, hy⟩ := wf_u64 w2
  obtain ⟨v, rfl, hv⟩ := wf_u64 w3
  clear w0 _w1 w2 w3
  by_cases hbig : len0 ≤ 2000
  · have hd : decide ((2000 : Int) < (len0 : Int)) = false := by simp; omega
    have hn : len0 ≤ 65536 := by omega
    go_enter Try.func3, Try.ntmps3
    go_wp2_with fail
    refine (awake_any _).mono ?_
    rintro e w1 ⟨rfl, K1⟩
    have U := U.below K1
    have T1 := Lib.hid (swap_any (y := y) (v := v) U a1 hn hv)
    go_wp2_with fail
    refine (T1.out).mono ?_
    rintro e w2 ⟨A2, c2, rfl, U2, K2⟩
    clear T1
    have U := U.below K2
    have K2 := Below.then_ K1 K2
    clear K1
    have T2 := Lib.hid (rswap_any (y := y) (v := v) U a1 hn hv)
    go_wp2_with fail
    refine (T2.out).mono ?_
    rintro e w3 ⟨A3, c3, rfl, U3, K3⟩
    clear T2
    have U := U.below K3
    have U2 := U2.below K3
    have K3 := Below.then_ K2 K3
    clear K2
    have L1 := Lib.hid (load_any U a1)
    have L2 := Lib.hid (rload_any U a1 hn)
    go_wp2_with fail
    refine (L1.out).mono ?_
    rintro e _ ⟨rfl, rfl⟩
    go_wp2_with fail
    refine (L2.out).mono ?_
    rintro e _ ⟨rfl, rfl⟩
    clear L1 L2
    have T4 := Lib.hid (store_any (v := v) U a1 hn hv)
    go_wp2_with fail
    refine (T4.out).mono ?_
    rintro e w4 ⟨A4, c4, rfl, U4, K4⟩
    clear T4
    have U := U.below K4
    have U2 := U2.below K4
    have U3 := U3.below K4
    have K4 := Below.then_ K3 K4
    clear K3
    have T5 := Lib.hid (rset_any (v := v) U a1 hn hv)
    go_wp2_with fail
    refine (T5.out).mono ?_
    rintro e w5 ⟨A5, c5, rfl, U5, K5⟩
    clear T5
    have U := U.below K5
    have U2 := U2.below K5
    have U3 := U3.below K5
    have U4 := U4.below K5
    have K5 := Below.then_ K4 K5
    clear K4
    have T6 := Lib.hid (same_any U4 U5 hn)
    go_wp2_with fail
    refine (T6.out).mono ?_
    rintro e w6 ⟨rfl, K6⟩
    clear T6 U4 U5
    have U := U.below K6
    have U2 := U2.below K6
    have U3 := U3.below K6
    have K6 := Below.then_ K5 K6
    clear K5
    have T7 := Lib.hid (add_any (v := v) U a1 hn)
    go_wp2_with fail
    refine (T7.out).mono ?_
    rintro e w7 ⟨A7, c7, rfl, U7, K7⟩
    clear T7
    have U := U.below K7
    have U2 := U2.below K7
    have U3 := U3.below K7
    have K7 := Below.then_ K6 K7
    clear K6
    have L1 := Lib.hid (rload_any U a1 hn)
    have hw := wrap_add64 (ldI xs a1) v
    go_wp2_with fail
    refine (L1.out).mono ?_
    rintro e _ ⟨rfl, rfl⟩
    clear L1
    have T8 := Lib.hid (rset_any (v := add64 (ldI xs a1) v) U a1 hn (add64_lt _ _))
    go_wp2_with fail
    refine (T8.out).mono ?_
    rintro e w8 ⟨A8, c8, rfl, U8, K8⟩
    clear T8 hw
    have U7 := U7.below K8
    have U2 := U2.below K8
    have U3 := U3.below K8
    have K8 := Below.then_ K7 K8
    clear K7
    have T9 := Lib.hid (same_any U7 U8 hn)
    go_wp2_with fail
    refine (T9.out).mono ?_
    rintro e w9 ⟨rfl, K9⟩
    clear T9 U7 U8
    have U2 := U2.below K9
    have U3 := U3.below K9
    have K9 := Below.then_ K8 K9
    clear K8
    have T10 := Lib.hid (same_any U2 U3 hn)
    go_wp2_with fail
    refine (T10.out).mono ?_
    rintro e w10 ⟨rfl, K10⟩
    have K10 := Below.then_ K9 K10
    go_wp2
    go_ret
    exact ⟨rfl, K10⟩
  · have hd : decide ((2000 : Int) < (len0 : Int)) = true := by simp; omega
    go_enter Try.func3, Try.ntmps3
    go_wp2_with fail
    refine (awake_any _).mono ?_
    rintro e w1 ⟨rfl, K1⟩
    go_wp2_with fail
    refine (awake_any _).mono ?_
    rintro e w2 ⟨rfl, K2⟩
    go_wp2
    go_ret
    exact ⟨rfl, Below.then_ K1 K2⟩
end Go.Proofs.Ytnngnhccbfnbkaa.cellsDo
