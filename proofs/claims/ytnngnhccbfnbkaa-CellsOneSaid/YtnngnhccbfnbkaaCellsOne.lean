/-
  The walk of the statement CellsOne: for every list of words, two numbers below 2^16 and two words the law answers true, and nothing that was there is otherwise; no conditions.
-/
import Derived.Test.YtnngnhccbfnbkaaCellAwake
namespace Go.Proofs.Ytnngnhccbfnbkaa.cellsOne
open Go.RowKit
theorem set_back {xs : List Nat} {i v : Nat} (h : i < xs.length) : (xs.set i v).set i (gt xs i) = xs := by
  rw [List.set_set]
  apply ext_gt (by simp)
  intro j hj
  rw [gt_set h]
  split
  · rename_i e; rw [e]
  · rfl
set_option maxHeartbeats 4000000 in
theorem walk (a0 : Option Addr) (len0 cap0 : Nat) (z0 : List Int) (a1 : Int) (a2 : Int) (a3 : Int) (a4 : Int) (w : World) (w0 : IsRow .u64 w a0 len0 cap0 z0) (w1 : (Lit.int .u16 a1).wf = true) (w2 : (Lit.int .u16 a2).wf = true) (w3 : (Lit.int .u64 a3).wf = true) (w4 : (Lit.int .u64 a4).wf = true) :
    Calls Try.prog 5 #[.slice a0 len0 cap0, .int .u16 a1, .int .u16 a2, .int .u64 a3, .int .u64 a4] w fun e w' => e = .returned (.bool true) ∧ Below w.heap.size w w' := by
  obtain ⟨xs, U⟩ := US.of_row w0
  obtain ⟨I, rfl, hI⟩ := wf_u16 w1
  obtain ⟨J, rfl, hJ⟩ := wf_u16 w2
  obtain ⟨v, rfl, hv⟩ := wf_u64 w3
  obtain ⟨u, rfl, hu⟩ := wf_u64 w4
  clear w0 w1 w2 w3 w4
  by_cases hbig : 2000 < len0
  · have hd : decide ((2000 : Int) < (len0 : Int)) = true := by simp; omega
    have K := Below.refl w.heap.size w
    go_enter Try.func5, Try.ntmps5
    have T := Lib.hid (awake_any w)
    go_wp2_with fail
    refine (T.out).mono ?_
    rintro e w1 ⟨rfl, K'⟩
    clear T
    replace K := Below.then_ K K'
    clear K'
    have T := Lib.hid (awake_any w1)
    go_wp2_with fail
    refine (T.out).mono ?_
    rintro e w2 ⟨rfl, K'⟩
    clear T
    replace K := Below.then_ K K'
    clear K'
    go_wp2
    go_ret
    exact ⟨rfl, K⟩
  by_cases hz : len0 = 0
  · subst hz
    clear hbig
    have K := Below.refl w.heap.size w
    go_enter Try.func5, Try.ntmps5
    have T := Lib.hid (awake_any w)
    go_wp2_with fail
    refine (T.out).mono ?_
    rintro e w1 ⟨rfl, K'⟩
    clear T
    replace K := Below.then_ K K'
    clear K'
    have T := Lib.hid (awake_any w1)
    go_wp2_with fail
    refine (T.out).mono ?_
    rintro e w2 ⟨rfl, K'⟩
    clear T
    replace K := Below.then_ K K'
    clear K'
    go_wp2
    go_ret
    exact ⟨rfl, K⟩
  have hd : decide ((2000 : Int) < (len0 : Int)) = false := by simp; omega
  have hd0 : ((len0 : Int) == 0) = false := by simp; omega
  have hpos : 0 < len0 := by omega
  have hn : len0 ≤ 65536 := by omega
  have hl := Lib.hid U.len
  obtain ⟨i, hi, hi'⟩ : ∃ i : Nat, (I : Int) % (len0 : Int) = i ∧ i < len0 := ⟨I % len0, by omega, Nat.mod_lt _ hpos⟩
  obtain ⟨k, hk, hk'⟩ : ∃ k : Nat, (J : Int) % (len0 : Int) = k ∧ k < len0 := ⟨J % len0, by omega, Nat.mod_lt _ hpos⟩
  clear hz hbig
  have hg : gt (xs.set i v) i = v := by rw [gt_set (by rw [hl.out]; exact hi'), if_pos rfl]
  have HC := Lib.hid (swB_yes (xs := xs.set i v) (a := i) (y := v) (by rw [List.length_set, hl.out]; exact hi') hg)
  have HG := Lib.hid hg
  clear hg
  by_cases hwv : gt xs i = v
  · have e2 : ((v : Int) == (gt xs i : Int)) = true := by simp; omega
    have HA := Lib.hid (swB_yes (xs := xs.set i v) (a := i) (y := gt xs i) (by rw [List.length_set, hl.out]; exact hi') (by rw [HG.out, hwv]))
    clear hwv HG
    by_cases hik : i = k
    · have e1 : ((i : Int) != (k : Int)) = false := by simp; omega
      have HIK := Lib.hid hik
      clear hik
      have K := Below.refl w.heap.size w
      go_enter Try.func5, Try.ntmps5
      have T := Lib.hid (awake_any w)
      go_wp2_with fail
      refine (T.out).mono ?_
      rintro e w1 ⟨rfl, K'⟩
      clear T
      replace U := U.below K'
      replace K := Below.then_ K K'
      clear K'
      have T := Lib.hid (store_nat U hi' hn hv)
      go_wp2_with fail
      refine (T.out).mono ?_
      rintro e w2 ⟨AS, cS, rfl, US, K'⟩
      clear T
      replace U := U.below K'
      replace K := Below.then_ K K'
      clear K'
      have T := Lib.hid (load_is US (i : Int) (x := v) (by rw [ldI_nat, gt_set (by rw [hl.out]; exact hi'), if_pos rfl]))
      go_wp2_with fail
      refine (T.out).mono ?_
      rintro e _ ⟨rfl, rfl⟩
      clear T
      have T := Lib.hid (load_is U (i : Int) (x := gt xs i) (ldI_nat xs i))
      go_wp2_with fail
      refine (T.out).mono ?_
      rintro e _ ⟨rfl, rfl⟩
      clear T
      have T := Lib.hid (swap_is U (i : Int) (y := gt xs i) (ys := xs.set i v) (b := true) hn hv (swB_yes (by rw [hl.out]; exact hi') rfl) (by rw [swL_yes (swB_yes (by rw [hl.out]; exact hi') rfl), stI_nat]))
      go_wp2_with fail
      refine (T.out).mono ?_
      rintro e w5 ⟨AA, cA, rfl, UA, K'⟩
      clear T
      replace U := U.below K'
      replace US := US.below K'
      replace K := Below.then_ K K'
      clear K'
      have T := Lib.hid (swap_is UA (i : Int) (y := gt xs i) (b := true) (ys := (xs.set i v).set i u) hn hu (HA.out) (by rw [swL_yes HA.out, stI_nat]))
      go_wp2_with fail
      refine (T.out).mono ?_
      rintro e w6 ⟨AB, cB, rfl, UB, K'⟩
      clear T
      replace U := U.below K'
      replace US := US.below K'
      replace UA := UA.below K'
      replace K := Below.then_ K K'
      clear K'
      have T := Lib.hid (same_any UA US hn)
      go_wp2_with fail
      refine (T.out).mono ?_
      rintro e w7 ⟨rfl, K'⟩
      clear T
      replace U := U.below K'
      replace US := US.below K'
      replace UA := UA.below K'
      replace UB := UB.below K'
      replace K := Below.then_ K K'
      clear K'
      have T := Lib.hid (swap_is UA (i : Int) (y := v) (v := gt xs i) (b := true) (ys := xs) hn (gt_lt U.fit i) HC.out (by rw [swL_yes HC.out, stI_nat]; exact set_back (by rw [hl.out]; exact hi')))
      go_wp2_with fail
      refine (T.out).mono ?_
      rintro e w8 ⟨AC, cC, rfl, UC, K'⟩
      clear T
      replace U := U.below K'
      replace US := US.below K'
      replace UA := UA.below K'
      replace UB := UB.below K'
      replace K := Below.then_ K K'
      clear K'
      have T := Lib.hid (same_any UC U hn)
      go_wp2_with fail
      refine (T.out).mono ?_
      rintro e w9 ⟨rfl, K'⟩
      clear T
      replace U := U.below K'
      replace US := US.below K'
      replace UA := UA.below K'
      replace UB := UB.below K'
      replace UC := UC.below K'
      replace K := Below.then_ K K'
      clear K'
      go_wp2
      go_ret
      exact ⟨rfl, K⟩
    · have e1 : ((i : Int) != (k : Int)) = true := by simp; omega
      have HIK := Lib.hid hik
      clear hik
      have K := Below.refl w.heap.size w
      go_enter Try.func5, Try.ntmps5
      have T := Lib.hid (awake_any w)
      go_wp2_with fail
      refine (T.out).mono ?_
      rintro e w1 ⟨rfl, K'⟩
      clear T
      replace U := U.below K'
      replace K := Below.then_ K K'
      clear K'
      have T := Lib.hid (store_nat U hi' hn hv)
      go_wp2_with fail
      refine (T.out).mono ?_
      rintro e w2 ⟨AS, cS, rfl, US, K'⟩
      clear T
      replace U := U.below K'
      replace K := Below.then_ K K'
      clear K'
      have T := Lib.hid (load_is US (i : Int) (x := v) (by rw [ldI_nat, gt_set (by rw [hl.out]; exact hi'), if_pos rfl]))
      go_wp2_with fail
      refine (T.out).mono ?_
      rintro e _ ⟨rfl, rfl⟩
      clear T
      have T := Lib.hid (load_is US (k : Int) (x := gt xs k) (by rw [ldI_nat, gt_set (by rw [hl.out]; exact hi'), if_neg HIK.out]))
      go_wp2_with fail
      refine (T.out).mono ?_
      rintro e _ ⟨rfl, rfl⟩
      clear T
      have T := Lib.hid (load_is U (k : Int) (x := gt xs k) (ldI_nat xs k))
      go_wp2_with fail
      refine (T.out).mono ?_
      rintro e _ ⟨rfl, rfl⟩
      clear T
      have T := Lib.hid (load_is U (i : Int) (x := gt xs i) (ldI_nat xs i))
      go_wp2_with fail
      refine (T.out).mono ?_
      rintro e _ ⟨rfl, rfl⟩
      clear T
      have T := Lib.hid (swap_is U (i : Int) (y := gt xs i) (ys := xs.set i v) (b := true) hn hv (swB_yes (by rw [hl.out]; exact hi') rfl) (by rw [swL_yes (swB_yes (by rw [hl.out]; exact hi') rfl), stI_nat]))
      go_wp2_with fail
      refine (T.out).mono ?_
      rintro e w7 ⟨AA, cA, rfl, UA, K'⟩
      clear T
      replace U := U.below K'
      replace US := US.below K'
      replace K := Below.then_ K K'
      clear K'
      have T := Lib.hid (swap_is UA (i : Int) (y := gt xs i) (b := true) (ys := (xs.set i v).set i u) hn hu (HA.out) (by rw [swL_yes HA.out, stI_nat]))
      go_wp2_with fail
      refine (T.out).mono ?_
      rintro e w8 ⟨AB, cB, rfl, UB, K'⟩
      clear T
      replace U := U.below K'
      replace US := US.below K'
      replace UA := UA.below K'
      replace K := Below.then_ K K'
      clear K'
      have T := Lib.hid (same_any UA US hn)
      go_wp2_with fail
      refine (T.out).mono ?_
      rintro e w9 ⟨rfl, K'⟩
      clear T
      replace U := U.below K'
      replace US := US.below K'
      replace UA := UA.below K'
      replace UB := UB.below K'
      replace K := Below.then_ K K'
      clear K'
      have T := Lib.hid (swap_is UA (i : Int) (y := v) (v := gt xs i) (b := true) (ys := xs) hn (gt_lt U.fit i) HC.out (by rw [swL_yes HC.out, stI_nat]; exact set_back (by rw [hl.out]; exact hi')))
      go_wp2_with fail
      refine (T.out).mono ?_
      rintro e w10 ⟨AC, cC, rfl, UC, K'⟩
      clear T
      replace U := U.below K'
      replace US := US.below K'
      replace UA := UA.below K'
      replace UB := UB.below K'
      replace K := Below.then_ K K'
      clear K'
      have T := Lib.hid (same_any UC U hn)
      go_wp2_with fail
      refine (T.out).mono ?_
      rintro e w11 ⟨rfl, K'⟩
      clear T
      replace U := U.below K'
      replace US := US.below K'
      replace UA := UA.below K'
      replace UB := UB.below K'
      replace UC := UC.below K'
      replace K := Below.then_ K K'
      clear K'
      go_wp2
      go_ret
      exact ⟨rfl, K⟩
  · have e2 : ((v : Int) == (gt xs i : Int)) = false := by simp; omega
    have HA := Lib.hid (swB_no (xs := xs.set i v) (a := i) (y := gt xs i) (by rw [HG.out]; omega))
    clear hwv HG
    by_cases hik : i = k
    · have e1 : ((i : Int) != (k : Int)) = false := by simp; omega
      have HIK := Lib.hid hik
      clear hik
      have K := Below.refl w.heap.size w
      go_enter Try.func5, Try.ntmps5
      have T := Lib.hid (awake_any w)
      go_wp2_with fail
      refine (T.out).mono ?_
      rintro e w1 ⟨rfl, K'⟩
      clear T
      replace U := U.below K'
      replace K := Below.then_ K K'
      clear K'
      have T := Lib.hid (store_nat U hi' hn hv)
      go_wp2_with fail
      refine (T.out).mono ?_
      rintro e w2 ⟨AS, cS, rfl, US, K'⟩
      clear T
      replace U := U.below K'
      replace K := Below.then_ K K'
      clear K'
      have T := Lib.hid (load_is US (i : Int) (x := v) (by rw [ldI_nat, gt_set (by rw [hl.out]; exact hi'), if_pos rfl]))
      go_wp2_with fail
      refine (T.out).mono ?_
      rintro e _ ⟨rfl, rfl⟩
      clear T
      have T := Lib.hid (load_is U (i : Int) (x := gt xs i) (ldI_nat xs i))
      go_wp2_with fail
      refine (T.out).mono ?_
      rintro e _ ⟨rfl, rfl⟩
      clear T
      have T := Lib.hid (swap_is U (i : Int) (y := gt xs i) (ys := xs.set i v) (b := true) hn hv (swB_yes (by rw [hl.out]; exact hi') rfl) (by rw [swL_yes (swB_yes (by rw [hl.out]; exact hi') rfl), stI_nat]))
      go_wp2_with fail
      refine (T.out).mono ?_
      rintro e w5 ⟨AA, cA, rfl, UA, K'⟩
      clear T
      replace U := U.below K'
      replace US := US.below K'
      replace K := Below.then_ K K'
      clear K'
      have T := Lib.hid (swap_is UA (i : Int) (y := gt xs i) (b := false) (ys := xs.set i v) hn hu (HA.out) (by rw [swL_no HA.out]))
      go_wp2_with fail
      refine (T.out).mono ?_
      rintro e w6 ⟨AB, cB, rfl, UB, K'⟩
      clear T
      replace U := U.below K'
      replace US := US.below K'
      replace UA := UA.below K'
      replace K := Below.then_ K K'
      clear K'
      have T := Lib.hid (same_any UA US hn)
      go_wp2_with fail
      refine (T.out).mono ?_
      rintro e w7 ⟨rfl, K'⟩
      clear T
      replace U := U.below K'
      replace US := US.below K'
      replace UA := UA.below K'
      replace UB := UB.below K'
      replace K := Below.then_ K K'
      clear K'
      have T := Lib.hid (swap_is UA (i : Int) (y := v) (v := gt xs i) (b := true) (ys := xs) hn (gt_lt U.fit i) HC.out (by rw [swL_yes HC.out, stI_nat]; exact set_back (by rw [hl.out]; exact hi')))
      go_wp2_with fail
      refine (T.out).mono ?_
      rintro e w8 ⟨AC, cC, rfl, UC, K'⟩
      clear T
      replace U := U.below K'
      replace US := US.below K'
      replace UA := UA.below K'
      replace UB := UB.below K'
      replace K := Below.then_ K K'
      clear K'
      have T := Lib.hid (same_any UC U hn)
      go_wp2_with fail
      refine (T.out).mono ?_
      rintro e w9 ⟨rfl, K'⟩
      clear T
      replace U := U.below K'
      replace US := US.below K'
      replace UA := UA.below K'
      replace UB := UB.below K'
      replace UC := UC.below K'
      replace K := Below.then_ K K'
      clear K'
      have T := Lib.hid (same_any UB UA hn)
      go_wp2_with fail
      refine (T.out).mono ?_
      rintro e w10 ⟨rfl, K'⟩
      clear T
      replace U := U.below K'
      replace US := US.below K'
      replace UA := UA.below K'
      replace UB := UB.below K'
      replace UC := UC.below K'
      replace K := Below.then_ K K'
      clear K'
      go_wp2
      go_ret
      exact ⟨rfl, K⟩
    · have e1 : ((i : Int) != (k : Int)) = true := by simp; omega
      have HIK := Lib.hid hik
      clear hik
      have K := Below.refl w.heap.size w
      go_enter Try.func5, Try.ntmps5
      have T := Lib.hid (awake_any w)
      go_wp2_with fail
      refine (T.out).mono ?_
      rintro e w1 ⟨rfl, K'⟩
      clear T
      replace U := U.below K'
      replace K := Below.then_ K K'
      clear K'
      have T := Lib.hid (store_nat U hi' hn hv)
      go_wp2_with fail
      refine (T.out).mono ?_
      rintro e w2 ⟨AS, cS, rfl, US, K'⟩
      clear T
      replace U := U.below K'
      replace K := Below.then_ K K'
      clear K'
      have T := Lib.hid (load_is US (i : Int) (x := v) (by rw [ldI_nat, gt_set (by rw [hl.out]; exact hi'), if_pos rfl]))
      go_wp2_with fail
      refine (T.out).mono ?_
      rintro e _ ⟨rfl, rfl⟩
      clear T
      have T := Lib.hid (load_is US (k : Int) (x := gt xs k) (by rw [ldI_nat, gt_set (by rw [hl.out]; exact hi'), if_neg HIK.out]))
      go_wp2_with fail
      refine (T.out).mono ?_
      rintro e _ ⟨rfl, rfl⟩
      clear T
      have T := Lib.hid (load_is U (k : Int) (x := gt xs k) (ldI_nat xs k))
      go_wp2_with fail
      refine (T.out).mono ?_
      rintro e _ ⟨rfl, rfl⟩
      clear T
      have T := Lib.hid (load_is U (i : Int) (x := gt xs i) (ldI_nat xs i))
      go_wp2_with fail
      refine (T.out).mono ?_
      rintro e _ ⟨rfl, rfl⟩
      clear T
      have T := Lib.hid (swap_is U (i : Int) (y := gt xs i) (ys := xs.set i v) (b := true) hn hv (swB_yes (by rw [hl.out]; exact hi') rfl) (by rw [swL_yes (swB_yes (by rw [hl.out]; exact hi') rfl), stI_nat]))
      go_wp2_with fail
      refine (T.out).mono ?_
      rintro e w7 ⟨AA, cA, rfl, UA, K'⟩
      clear T
      replace U := U.below K'
      replace US := US.below K'
      replace K := Below.then_ K K'
      clear K'
      have T := Lib.hid (swap_is UA (i : Int) (y := gt xs i) (b := false) (ys := xs.set i v) hn hu (HA.out) (by rw [swL_no HA.out]))
      go_wp2_with fail
      refine (T.out).mono ?_
      rintro e w8 ⟨AB, cB, rfl, UB, K'⟩
      clear T
      replace U := U.below K'
      replace US := US.below K'
      replace UA := UA.below K'
      replace K := Below.then_ K K'
      clear K'
      have T := Lib.hid (same_any UA US hn)
      go_wp2_with fail
      refine (T.out).mono ?_
      rintro e w9 ⟨rfl, K'⟩
      clear T
      replace U := U.below K'
      replace US := US.below K'
      replace UA := UA.below K'
      replace UB := UB.below K'
      replace K := Below.then_ K K'
      clear K'
      have T := Lib.hid (swap_is UA (i : Int) (y := v) (v := gt xs i) (b := true) (ys := xs) hn (gt_lt U.fit i) HC.out (by rw [swL_yes HC.out, stI_nat]; exact set_back (by rw [hl.out]; exact hi')))
      go_wp2_with fail
      refine (T.out).mono ?_
      rintro e w10 ⟨AC, cC, rfl, UC, K'⟩
      clear T
      replace U := U.below K'
      replace US := US.below K'
      replace UA := UA.below K'
      replace UB := UB.below K'
      replace K := Below.then_ K K'
      clear K'
      have T := Lib.hid (same_any UC U hn)
      go_wp2_with fail
      refine (T.out).mono ?_
      rintro e w11 ⟨rfl, K'⟩
      clear T
      replace U := U.below K'
      replace US := US.below K'
      replace UA := UA.below K'
      replace UB := UB.below K'
      replace UC := UC.below K'
      replace K := Below.then_ K K'
      clear K'
      have T := Lib.hid (same_any UB UA hn)
      go_wp2_with fail
      refine (T.out).mono ?_
      rintro e w12 ⟨rfl, K'⟩
      clear T
      replace U := U.below K'
      replace US := US.below K'
      replace UA := UA.below K'
      replace UB := UB.below K'
      replace UC := UC.below K'
      replace K := Below.then_ K K'
      clear K'
      go_wp2
      go_ret
      exact ⟨rfl, K⟩
end Go.Proofs.Ytnngnhccbfnbkaa.cellsOne
