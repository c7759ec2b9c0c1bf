/-
  The walk of the statement CellsApart: for every list of words, two numbers below 2^16 and two words the law answers true, and nothing that was there is otherwise; no conditions.
-/
import Derived.Test.YtnngnhccbfnbkaaCellAwake
namespace Go.Proofs.Ytnngnhccbfnbkaa.cellsApart
open Go.RowKit
theorem turned {xs : List Nat} {i k u v : Nat} (hk : k < xs.length) (h : i ≠ k) :
    (xs.set i (add64 (gt xs i) u)).set k v = (xs.set k v).set i (add64 (gt (xs.set k v) i) u) := by
  rw [gt_set hk, if_neg (by omega), List.set_comm _ _ h]
set_option maxHeartbeats 4000000 in
theorem walk (a0 : Option Addr) (len0 cap0 : Nat) (z0 : List Int) (a1 : Int) (a2 : Int) (a3 : Int) (a4 : Int) (w : World) (w0 : IsRow .u64 w a0 len0 cap0 z0) (w1 : (Lit.int .u16 a1).wf = true) (w2 : (Lit.int .u16 a2).wf = true) (w3 : (Lit.int .u64 a3).wf = true) (w4 : (Lit.int .u64 a4).wf = true) :
    Calls Try.prog 8 #[.slice a0 len0 cap0, .int .u16 a1, .int .u16 a2, .int .u64 a3, .int .u64 a4] w fun e w' => e = .returned (.bool true) ∧ Below w.heap.size w w' := by
  obtain ⟨xs, U⟩ := US.of_row w0
  obtain ⟨I, rfl, hI⟩ := wf_u16 w1
  obtain ⟨J, rfl, hJ⟩ := wf_u16 w2
  obtain ⟨u, rfl, hu⟩ := wf_u64 w3
  obtain ⟨v, rfl, hv⟩ := wf_u64 w4
  clear w0 w1 w2 w3 w4
  by_cases hbig : 1000 < len0
  · have hd : decide ((1000 : Int) < (len0 : Int)) = true := by simp; omega
    have K := Below.refl w.heap.size w
    go_enter Try.func8, Try.ntmps8
    have T := Lib.hid (awake_any w)
    go_wp2_with fail
    refine (T.out).mono ?_
    rintro e w1 ⟨rfl, K'⟩
    clear T
    replace K := Below.then_ K K'
    clear K'
    have T := Lib.hid (awake_any w1)
    go_wp2_with fail
    refine (T.out).mono ?_
    rintro e w2 ⟨rfl, K'⟩
    clear T
    replace K := Below.then_ K K'
    clear K'
    go_wp2
    go_ret
    exact ⟨rfl, K⟩
  by_cases hz : len0 = 0
  · subst hz
    clear hbig
    have K := Below.refl w.heap.size w
    go_enter Try.func8, Try.ntmps8
    have T := Lib.hid (awake_any w)
    go_wp2_with fail
    refine (T.out).mono ?_
    rintro e w1 ⟨rfl, K'⟩
    clear T
    replace K := Below.then_ K K'
    clear K'
    have T := Lib.hid (awake_any w1)
    go_wp2_with fail
    refine (T.out).mono ?_
    rintro e w2 ⟨rfl, K'⟩
    clear T
    replace K := Below.then_ K K'
    clear K'
    go_wp2
    go_ret
    exact ⟨rfl, K⟩
  have hd : decide ((1000 : Int) < (len0 : Int)) = false := by simp; omega
  have hd0 : ((len0 : Int) == 0) = false := by simp; omega
  have hpos : 0 < len0 := by omega
  have hn : len0 ≤ 65536 := by omega
  have hl := Lib.hid U.len
  obtain ⟨i, hi, hi'⟩ : ∃ i : Nat, (I : Int) % (len0 : Int) = i ∧ i < len0 := ⟨I % len0, by omega, Nat.mod_lt _ hpos⟩
  obtain ⟨k, hk, hk'⟩ : ∃ k : Nat, (J : Int) % (len0 : Int) = k ∧ k < len0 := ⟨J % len0, by omega, Nat.mod_lt _ hpos⟩
  clear hz hbig
  have HI := Lib.hid (show i < xs.length by rw [hl.out]; exact hi')
  have HK := Lib.hid (show k < xs.length by rw [hl.out]; exact hk')
  have hw := wrap_add64 v u
  by_cases hik : i = k
  · have e1 : ((i : Int) != (k : Int)) = false := by simp; omega
    have e2 : ((i : Int) == (k : Int)) = true := by simp; omega
    have HIK := Lib.hid hik
    clear hik
    have K := Below.refl w.heap.size w
    go_enter Try.func8, Try.ntmps8
    have T := Lib.hid (awake_any w)
    go_wp2_with fail
    refine (T.out).mono ?_
    rintro e w1 ⟨rfl, K'⟩
    clear T
    replace U := U.below K'
    replace K := Below.then_ K K'
    clear K'
    have T := Lib.hid (add_is U (i : Int) hn (v := u) (ys := xs.set i (add64 (gt xs i) u)) (by rw [ldI_nat, stI_nat]))
    go_wp2_with fail
    refine (T.out).mono ?_
    rintro e w2 ⟨A1, c1, rfl, U1, K'⟩
    clear T
    replace U := U.below K'
    replace K := Below.then_ K K'
    clear K'
    have T := Lib.hid (store_is U1 (k : Int) hn hv (ys := (xs.set i (add64 (gt xs i) u)).set k v) (stI_nat _ _ _))
    go_wp2_with fail
    refine (T.out).mono ?_
    rintro e w3 ⟨A2, c2, rfl, U2, K'⟩
    clear T
    replace U := U.below K'
    replace K := Below.then_ K K'
    clear K' U1
    have T := Lib.hid (store_is U (k : Int) hn hv (ys := xs.set k v) (stI_nat _ _ _))
    go_wp2_with fail
    refine (T.out).mono ?_
    rintro e w4 ⟨A3, c3, rfl, U3, K'⟩
    clear T
    replace U := U.below K'
    replace U2 := U2.below K'
    replace K := Below.then_ K K'
    clear K'
    have T := Lib.hid (add_is U3 (i : Int) hn (v := u) (ys := (xs.set k v).set i (add64 (gt (xs.set k v) i) u)) (by rw [ldI_nat, stI_nat]))
    go_wp2_with fail
    refine (T.out).mono ?_
    rintro e w5 ⟨A4, c4, rfl, U4, K'⟩
    clear T
    replace U := U.below K'
    replace U2 := U2.below K'
    replace K := Below.then_ K K'
    clear K' U3
    have T := Lib.hid (load_is U2 (k : Int) (x := v) (by rw [ldI_nat, gt_set (by rw [List.length_set]; exact HK.out), if_pos rfl]))
    go_wp2_with fail
    refine (T.out).mono ?_
    rintro e _ ⟨rfl, rfl⟩
    clear T
    have T := Lib.hid (load_is U4 (k : Int) (x := add64 v u) (by rw [ldI_nat, gt_set (by rw [List.length_set]; exact HI.out), if_pos HIK.out, gt_set HK.out, if_pos HIK.out.symm]))
    go_wp2_with fail
    refine (T.out).mono ?_
    rintro e _ ⟨rfl, rfl⟩
    clear T
    have T := Lib.hid (swap_is U (len0 : Int) (y := 0) (v := u) (b := false) (ys := xs) hn hu (swB_out (by rw [hl.out]; omega)) (swL_no (swB_out (by rw [hl.out]; omega))))
    go_wp2_with fail
    refine (T.out).mono ?_
    rintro e w8 ⟨A5, c5, rfl, U5, K'⟩
    clear T
    replace U := U.below K'
    replace U2 := U2.below K'
    replace U4 := U4.below K'
    replace K := Below.then_ K K'
    clear K'
    have T := Lib.hid (swap_is U (-1 - (k : Int)) (y := 0) (v := u) (b := false) (ys := xs) hn hu (swB_out (by omega)) (swL_no (swB_out (by omega))))
    go_wp2_with fail
    refine (T.out).mono ?_
    rintro e w9 ⟨A6, c6, rfl, U6, K'⟩
    clear T
    replace U := U.below K'
    replace U2 := U2.below K'
    replace U4 := U4.below K'
    replace U5 := U5.below K'
    replace K := Below.then_ K K'
    clear K'
    have T := Lib.hid (same_any U5 U hn)
    go_wp2_with fail
    refine (T.out).mono ?_
    rintro e w10 ⟨rfl, K'⟩
    clear T
    replace U := U.below K'
    replace U2 := U2.below K'
    replace U4 := U4.below K'
    replace U6 := U6.below K'
    replace K := Below.then_ K K'
    clear K' U5
    have T := Lib.hid (same_any U6 U hn)
    go_wp2_with fail
    refine (T.out).mono ?_
    rintro e w11 ⟨rfl, K'⟩
    clear T
    replace U := U.below K'
    replace U2 := U2.below K'
    replace U4 := U4.below K'
    replace K := Below.then_ K K'
    clear K' U6
    have T := Lib.hid (add_is U ((len0 : Int) + (k : Int)) hn (v := u) (ys := xs) (stI_out _ (by rw [hl.out]; omega)))
    go_wp2_with fail
    refine (T.out).mono ?_
    rintro e w12 ⟨A7, c7, rfl, U7, K'⟩
    clear T
    replace U := U.below K'
    replace U2 := U2.below K'
    replace U4 := U4.below K'
    replace K := Below.then_ K K'
    clear K'
    have T := Lib.hid (same_any U7 U hn)
    go_wp2_with fail
    refine (T.out).mono ?_
    rintro e w13 ⟨rfl, K'⟩
    clear T
    replace U := U.below K'
    replace U2 := U2.below K'
    replace U4 := U4.below K'
    replace K := Below.then_ K K'
    clear K' U7
    have T := Lib.hid (load_is U (len0 : Int) (x := 0) (ldI_out (by rw [hl.out]; omega)))
    go_wp2_with fail
    refine (T.out).mono ?_
    rintro e _ ⟨rfl, rfl⟩
    clear T
    have T := Lib.hid (load_is U (-1) (x := 0) (ldI_out (by omega)))
    go_wp2_with fail
    refine (T.out).mono ?_
    rintro e _ ⟨rfl, rfl⟩
    clear T
    go_wp2
    go_ret
    exact ⟨rfl, K⟩
  · have e1 : ((i : Int) != (k : Int)) = true := by simp; omega
    have e2 : ((i : Int) == (k : Int)) = false := by simp; omega
    have HIK := Lib.hid hik
    clear hik
    have K := Below.refl w.heap.size w
    go_enter Try.func8, Try.ntmps8
    have T := Lib.hid (awake_any w)
    go_wp2_with fail
    refine (T.out).mono ?_
    rintro e w1 ⟨rfl, K'⟩
    clear T
    replace U := U.below K'
    replace K := Below.then_ K K'
    clear K'
    have T := Lib.hid (add_is U (i : Int) hn (v := u) (ys := xs.set i (add64 (gt xs i) u)) (by rw [ldI_nat, stI_nat]))
    go_wp2_with fail
    refine (T.out).mono ?_
    rintro e w2 ⟨A1, c1, rfl, U1, K'⟩
    clear T
    replace U := U.below K'
    replace K := Below.then_ K K'
    clear K'
    have T := Lib.hid (store_is U1 (k : Int) hn hv (ys := (xs.set i (add64 (gt xs i) u)).set k v) (stI_nat _ _ _))
    go_wp2_with fail
    refine (T.out).mono ?_
    rintro e w3 ⟨A2, c2, rfl, U2, K'⟩
    clear T
    replace U := U.below K'
    replace K := Below.then_ K K'
    clear K' U1
    have T := Lib.hid (store_is U (k : Int) hn hv (ys := xs.set k v) (stI_nat _ _ _))
    go_wp2_with fail
    refine (T.out).mono ?_
    rintro e w4 ⟨A3, c3, rfl, U3, K'⟩
    clear T
    replace U := U.below K'
    replace U2 := U2.below K'
    replace K := Below.then_ K K'
    clear K'
    have T := Lib.hid (add_is U3 (i : Int) hn (v := u) (ys := (xs.set k v).set i (add64 (gt (xs.set k v) i) u)) (by rw [ldI_nat, stI_nat]))
    go_wp2_with fail
    refine (T.out).mono ?_
    rintro e w5 ⟨A4, c4, rfl, U4, K'⟩
    clear T
    replace U := U.below K'
    replace U2 := U2.below K'
    replace K := Below.then_ K K'
    clear K' U3
    have T := Lib.hid (same_is U2 U4 hn (turned HK.out HIK.out))
    go_wp2_with fail
    refine (T.out).mono ?_
    rintro e w6 ⟨rfl, K'⟩
    clear T
    replace U := U.below K'
    replace U2 := U2.below K'
    replace U4 := U4.below K'
    replace K := Below.then_ K K'
    clear K'
    have T := Lib.hid (swap_is U (len0 : Int) (y := 0) (v := u) (b := false) (ys := xs) hn hu (swB_out (by rw [hl.out]; omega)) (swL_no (swB_out (by rw [hl.out]; omega))))
    go_wp2_with fail
    refine (T.out).mono ?_
    rintro e w7 ⟨A5, c5, rfl, U5, K'⟩
    clear T
    replace U := U.below K'
    replace U2 := U2.below K'
    replace U4 := U4.below K'
    replace K := Below.then_ K K'
    clear K'
    have T := Lib.hid (swap_is U (-1 - (k : Int)) (y := 0) (v := u) (b := false) (ys := xs) hn hu (swB_out (by omega)) (swL_no (swB_out (by omega))))
    go_wp2_with fail
    refine (T.out).mono ?_
    rintro e w8 ⟨A6, c6, rfl, U6, K'⟩
    clear T
    replace U := U.below K'
    replace U2 := U2.below K'
    replace U4 := U4.below K'
    replace U5 := U5.below K'
    replace K := Below.then_ K K'
    clear K'
    have T := Lib.hid (same_any U5 U hn)
    go_wp2_with fail
    refine (T.out).mono ?_
    rintro e w9 ⟨rfl, K'⟩
    clear T
    replace U := U.below K'
    replace U2 := U2.below K'
    replace U4 := U4.below K'
    replace U6 := U6.below K'
    replace K := Below.then_ K K'
    clear K' U5
    have T := Lib.hid (same_any U6 U hn)
    go_wp2_with fail
    refine (T.out).mono ?_
    rintro e w10 ⟨rfl, K'⟩
    clear T
    replace U := U.below K'
    replace U2 := U2.below K'
    replace U4 := U4.below K'
    replace K := Below.then_ K K'
    clear K' U6
    have T := Lib.hid (add_is U ((len0 : Int) + (k : Int)) hn (v := u) (ys := xs) (stI_out _ (by rw [hl.out]; omega)))
    go_wp2_with fail
    refine (T.out).mono ?_
    rintro e w11 ⟨A7, c7, rfl, U7, K'⟩
    clear T
    replace U := U.below K'
    replace U2 := U2.below K'
    replace U4 := U4.below K'
    replace K := Below.then_ K K'
    clear K'
    have T := Lib.hid (same_any U7 U hn)
    go_wp2_with fail
    refine (T.out).mono ?_
    rintro e w12 ⟨rfl, K'⟩
    clear T
    replace U := U.below K'
    replace U2 := U2.below K'
    replace U4 := U4.below K'
    replace K := Below.then_ K K'
    clear K' U7
    have T := Lib.hid (load_is U (len0 : Int) (x := 0) (ldI_out (by rw [hl.out]; omega)))
    go_wp2_with fail
    refine (T.out).mono ?_
    rintro e _ ⟨rfl, rfl⟩
    clear T
    have T := Lib.hid (load_is U (-1) (x := 0) (ldI_out (by omega)))
    go_wp2_with fail
    refine (T.out).mono ?_
    rintro e _ ⟨rfl, rfl⟩
    clear T
    go_wp2
    go_ret
    exact ⟨rfl, K⟩
end Go.Proofs.Ytnngnhccbfnbkaa.cellsApart
