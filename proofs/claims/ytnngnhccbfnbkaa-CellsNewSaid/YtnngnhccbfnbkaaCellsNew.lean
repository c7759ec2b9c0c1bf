/-
  The walk of the statement CellsNew: for every two numbers below 2^16 the law answers true, and nothing that was there is otherwise; no conditions.
-/
import Derived.Test.YtnngnhccbfnbkaaCellAwake
namespace Go.Proofs.Ytnngnhccbfnbkaa.cellsNew
open Go.RowKit
theorem one_yes (w : World) : Calls Try.prog 19 #[.bool true] w fun e w' => e = .returned (.int .i64 1) ∧ w = w' := by
  go_enter Try.func19, Try.ntmps19
  go_wp2
  go_ret
  exact ⟨rfl, rfl⟩
theorem one_no (w : World) : Calls Try.prog 19 #[.bool false] w fun e w' => e = .returned (.int .i64 0) ∧ w = w' := by
  go_enter Try.func19, Try.ntmps19
  go_wp2
  go_ret
  exact ⟨rfl, rfl⟩
theorem ld_rep (n j : Nat) : ldI (List.replicate n 0) (j : Int) = 0 := by
  rw [ldI_nat]
  by_cases h : j < n
  · exact List.eq_of_mem_replicate (gt_mem (by simpa using h))
  · exact gt_out (by simpa using h)
theorem ld_st {n j : Nat} (h : j < n) : ldI (stI (List.replicate n 0) (j : Int) 7) (j : Int) = 7 := by
  rw [ldI_nat, stI_nat, gt_set (by simpa using h), if_pos rfl]
theorem ld_no {n j : Nat} (h : ¬ j < n) : ldI (stI (List.replicate n 0) (j : Int) 7) (j : Int) = 0 := by
  rw [stI_out 7 (by right; simp; omega)]; exact ld_rep n j
theorem walk (a0 : Int) (a1 : Int) (w : World) (w0 : (Lit.int .u16 a0).wf = true) (w1 : (Lit.int .u16 a1).wf = true) :
    Calls Try.prog 4 #[.int .u16 a0, .int .u16 a1] w fun e w' => e = .returned (.bool true) ∧ Below w.heap.size w w' := by
  obtain ⟨n, rfl, hn⟩ := wf_u16 w0
  obtain ⟨j, rfl, hj⟩ := wf_u16 w1
  clear w0 w1
  by_cases h : j < n
  · have hd : decide (j < n) = true := by simp; omega
    have K := Below.refl w.heap.size w
    go_enter Try.func4, Try.ntmps4
    have T := Lib.hid (awake_any w)
    go_wp2_with fail
    refine (T.out).mono ?_
    rintro e w1 ⟨rfl, K'⟩
    clear T
    replace K := Below.then_ K K'
    clear K'
    have T := Lib.hid (new_any n (by omega) w1)
    go_wp2_with fail
    refine (T.out).mono ?_
    rintro e w2 ⟨A, c, rfl, U, K'⟩
    clear T
    replace K := Below.then_ K K'
    clear K'
    have T := Lib.hid (show Calls Try.prog 12 #[.slice A n c, .int .i64 (j : Nat)] w2 fun e w' => e = .returned (.int .u64 0) ∧ w2 = w' from load_is U (j : Int) (ld_rep n j))
    go_wp2_with fail
    refine (T.out).mono ?_
    rintro e _ ⟨rfl, rfl⟩
    clear T
    have T := Lib.hid (show Calls Try.prog 15 #[.slice A n c, .int .i64 (j : Nat), .int .u64 7] w2 (RetS n (stI (List.replicate n 0) (j : Int) 7) w2) from store_any (v := 7) U (j : Int) (by omega) (by decide))
    go_wp2_with fail
    refine (T.out).mono ?_
    rintro e w4 ⟨A2, c2, rfl, U2, K'⟩
    clear T
    replace U := U.below K'
    replace K := Below.then_ K K'
    clear K'
    have T := Lib.hid (show Calls Try.prog 12 #[.slice A2 n c2, .int .i64 (j : Nat)] w4 fun e w' => e = .returned (.int .u64 7) ∧ w4 = w' from load_is U2 (j : Int) (ld_st h))
    go_wp2_with fail
    refine (T.out).mono ?_
    rintro e _ ⟨rfl, rfl⟩
    clear T
    have T := Lib.hid (one_yes w4)
    go_wp2_with fail
    refine (T.out).mono ?_
    rintro e _ ⟨rfl, rfl⟩
    clear T
    go_wp2
    go_ret
    exact ⟨rfl, K⟩
  · have hd : decide (j < n) = false := by simp; omega
    have K := Below.refl w.heap.size w
    go_enter Try.func4, Try.ntmps4
    have T := Lib.hid (awake_any w)
    go_wp2_with fail
    refine (T.out).mono ?_
    rintro e w1 ⟨rfl, K'⟩
    clear T
    replace K := Below.then_ K K'
    clear K'
    have T := Lib.hid (new_any n (by omega) w1)
    go_wp2_with fail
    refine (T.out).mono ?_
    rintro e w2 ⟨A, c, rfl, U, K'⟩
    clear T
    replace K := Below.then_ K K'
    clear K'
    have T := Lib.hid (show Calls Try.prog 12 #[.slice A n c, .int .i64 (j : Nat)] w2 fun e w' => e = .returned (.int .u64 0) ∧ w2 = w' from load_is U (j : Int) (ld_rep n j))
    go_wp2_with fail
    refine (T.out).mono ?_
    rintro e _ ⟨rfl, rfl⟩
    clear T
    have T := Lib.hid (show Calls Try.prog 15 #[.slice A n c, .int .i64 (j : Nat), .int .u64 7] w2 (RetS n (stI (List.replicate n 0) (j : Int) 7) w2) from store_any (v := 7) U (j : Int) (by omega) (by decide))
    go_wp2_with fail
    refine (T.out).mono ?_
    rintro e w4 ⟨A2, c2, rfl, U2, K'⟩
    clear T
    replace U := U.below K'
    replace K := Below.then_ K K'
    clear K'
    have T := Lib.hid (show Calls Try.prog 12 #[.slice A2 n c2, .int .i64 (j : Nat)] w4 fun e w' => e = .returned (.int .u64 0) ∧ w4 = w' from load_is U2 (j : Int) (ld_no h))
    go_wp2_with fail
    refine (T.out).mono ?_
    rintro e _ ⟨rfl, rfl⟩
    clear T
    have T := Lib.hid (one_no w4)
    go_wp2_with fail
    refine (T.out).mono ?_
    rintro e _ ⟨rfl, rfl⟩
    clear T
    go_wp2
    go_ret
    exact ⟨rfl, K⟩
end Go.Proofs.Ytnngnhccbfnbkaa.cellsNew
