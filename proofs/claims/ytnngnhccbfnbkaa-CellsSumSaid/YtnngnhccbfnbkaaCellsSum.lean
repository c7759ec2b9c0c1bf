/-
  The walk of the statement CellsSum: for every two lists of words and two numbers the law answers true, and nothing that was there is otherwise; no conditions.
-/
import Derived.Test.YtnngnhccbfnbkaaCellAwake
namespace Go.Proofs.Ytnngnhccbfnbkaa.cellsSum
open Go.RowKit
def sm (f : Nat → Nat) : Nat → Nat
  | 0 => 0
  | k + 1 => add64 (sm f k) (f k)
def ps (f : Nat → Nat) : Nat → Nat
  | 0 => 0
  | k + 1 => ps f k + f k
theorem sm_ps (f : Nat → Nat) : ∀ k, sm f k = ps f k % U64
  | 0 => rfl
  | k + 1 => by
    show add64 (sm f k) (f k) = (ps f k + f k) % U64
    rw [sm_ps f k]; unfold add64; rw [Nat.mod_add_mod]
theorem ps_shift (g : Nat → Nat) : ∀ k, ps (fun j => g (j + 1)) k + g 0 = ps g k + g k
  | 0 => by simp [ps]
  | k + 1 => by
    have := ps_shift g k
    simp only [ps]; omega
def tn (f : Nat → Nat) (m t j : Nat) : Nat := f ((j + t) % m)
theorem ps_turn (f : Nat → Nat) (m : Nat) : ∀ t, ps (tn f m t) m = ps (tn f m 0) m
  | 0 => rfl
  | t + 1 => by
    rw [← ps_turn f m t]
    have h := ps_shift (tn f m t) m
    have e1 : (fun j => tn f m t (j + 1)) = tn f m (t + 1) := by
      funext j; unfold tn; rw [show j + 1 + t = j + (t + 1) by omega]
    have e2 : tn f m t m = tn f m t 0 := by unfold tn; rw [Nat.add_mod_left, Nat.zero_add]
    rw [e1, e2] at h; omega
theorem ps_same (f : Nat → Nat) (m : Nat) : ∀ k, k ≤ m → ps (tn f m 0) k = ps f k
  | 0, _ => rfl
  | k + 1, h => by
    have e : tn f m 0 k = f k := by unfold tn; rw [Nat.add_zero, Nat.mod_eq_of_lt (by omega)]
    simp only [ps]; rw [ps_same f m k (by omega), e]
theorem sm_turn (f : Nat → Nat) (m t : Nat) : sm (tn f m t) m = sm f m := by
  rw [sm_ps, sm_ps, ps_turn, ps_same f m m (Nat.le_refl _)]
theorem add64_assoc (x y z : Nat) : add64 (add64 x y) z = add64 x (add64 y z) := by
  unfold add64; rw [Nat.mod_add_mod, Nat.add_mod_mod, Nat.add_assoc]
theorem add64_zero {x : Nat} (h : x < U64) : add64 x 0 = x := by unfold add64; rw [Nat.add_zero, Nat.mod_eq_of_lt h]
def acc (xs : List Nat) (i : Nat) (s : Nat) : List Nat := xs.set i (add64 (gt xs i) s)
theorem acc_0 {xs : List Nat} {i : Nat} (hf : ∀ x ∈ xs, x < U64) (hi : i < xs.length) : acc xs i 0 = xs := by
  unfold acc; rw [add64_zero (gt_lt hf i)]
  apply ext_gt (by simp)
  intro j hj
  rw [gt_set hi]; split
  · rename_i e; rw [e]
  · rfl
theorem acc_step {xs : List Nat} {i s y : Nat} (hi : i < xs.length) : stI (acc xs i s) (i : Int) (add64 (ldI (acc xs i s) (i : Int)) y) = acc xs i (add64 s y) := by
  rw [ldI_nat, stI_nat]; unfold acc
  rw [gt_set hi, if_pos rfl, List.set_set, add64_assoc]
theorem acc_ld {xs : List Nat} {i s : Nat} (hi : i < xs.length) : ldI (acc xs i s) (i : Int) = add64 (gt xs i) s := by
  rw [ldI_nat]; unfold acc; rw [gt_set hi, if_pos rfl]
theorem add64_lt' (x y : Nat) : add64 x y < 18446744073709551616 := add64_lt x y
set_option maxHeartbeats 1000000 in
theorem walk (a0 : Option Addr) (len0 cap0 : Nat) (z0 : List Int) (a1 : Int) (a2 : Option Addr) (len2 cap2 : Nat) (z2 : List Int) (a3 : Int) (w : World) (w0 : IsRow .u64 w a0 len0 cap0 z0) (w1 : (Lit.int .u16 a1).wf = true) (w2 : IsRow .u64 w a2 len2 cap2 z2) (w3 : (Lit.int .u8 a3).wf = true) :
    Calls Try.prog 6 #[.slice a0 len0 cap0, .int .u16 a1, .slice a2 len2 cap2, .int .u8 a3] w fun e w' => e = .returned (.bool true) ∧ Below w.heap.size w w' := by
  obtain ⟨xs, U⟩ := US.of_row w0
  obtain ⟨ms, M⟩ := US.of_row w2
  obtain ⟨I, rfl, hI⟩ := wf_u16 w1
  obtain ⟨t, rfl, ht⟩ := wf_u8 w3
  clear w0 w1 w2 w3
  by_cases hbig : 500 < len0
  · have hd : decide ((500 : Int) < (len0 : Int)) = true := by simp; omega
    have K := Below.refl w.heap.size w
    go_enter Try.func6, Try.ntmps6
    have T := Lib.hid (awake_any w)
    go_wp2_with fail
    refine (T.out).mono ?_
    rintro e w1 ⟨rfl, K'⟩
    clear T
    replace K := Below.then_ K K'
    clear K'
    have T := Lib.hid (awake_any w1)
    go_wp2_with fail
    refine (T.out).mono ?_
    rintro e w2 ⟨rfl, K'⟩
    clear T
    replace K := Below.then_ K K'
    clear K'
    go_wp2
    go_ret
    exact ⟨rfl, K⟩
  have hd : decide ((500 : Int) < (len0 : Int)) = false := by simp; omega
  by_cases hz : len0 = 0
  · subst hz
    clear hbig
    have K := Below.refl w.heap.size w
    go_enter Try.func6, Try.ntmps6
    have T := Lib.hid (awake_any w)
    go_wp2_with fail
    refine (T.out).mono ?_
    rintro e w1 ⟨rfl, K'⟩
    clear T
    replace K := Below.then_ K K'
    clear K'
    have T := Lib.hid (awake_any w1)
    go_wp2_with fail
    refine (T.out).mono ?_
    rintro e w2 ⟨rfl, K'⟩
    clear T
    replace K := Below.then_ K K'
    clear K'
    go_wp2
    go_ret
    exact ⟨rfl, K⟩
  have hd0 : ((len0 : Int) == 0) = false := by simp; omega
  by_cases hmb : 50 < len2
  · have hd2 : decide ((50 : Int) < (len2 : Int)) = true := by simp; omega
    have K := Below.refl w.heap.size w
    go_enter Try.func6, Try.ntmps6
    have T := Lib.hid (awake_any w)
    go_wp2_with fail
    refine (T.out).mono ?_
    rintro e w1 ⟨rfl, K'⟩
    clear T
    replace K := Below.then_ K K'
    clear K'
    have T := Lib.hid (awake_any w1)
    go_wp2_with fail
    refine (T.out).mono ?_
    rintro e w2 ⟨rfl, K'⟩
    clear T
    replace K := Below.then_ K K'
    clear K'
    go_wp2
    go_ret
    exact ⟨rfl, K⟩
  have hd2 : decide ((50 : Int) < (len2 : Int)) = false := by simp; omega
  have hpos : 0 < len0 := by omega
  have hn : len0 ≤ 65536 := by omega
  have hm : len2 ≤ 50 := by omega
  have hl := Lib.hid U.len
  obtain ⟨i, hi, hi'⟩ : ∃ i : Nat, (I : Int) % (len0 : Int) = i ∧ i < len0 := ⟨I % len0, by omega, Nat.mod_lt _ hpos⟩
  clear hz hbig hmb
  have HI := Lib.hid (show i < xs.length by rw [hl.out]; exact hi')
  have K := Below.refl w.heap.size w
  go_enter Try.func6, Try.ntmps6
  have T := Lib.hid (awake_any w)
  go_wp2_with fail
  refine (T.out).mono ?_
  rintro e w1 ⟨rfl, K'⟩
  clear T
  replace U := U.below K'
  replace M := M.below K'
  replace K := Below.then_ K K'
  clear K'
  go_wp2_with fail
  simp only [hi]
  clear hi
  have HM := Lib.hid M
  have HU := Lib.hid U
  clear M U
  go_loopw [10, 11, 12, 13] (fun p q r s wr => ∃ (k : Nat) (A1 : Option Addr) (c1 : Nat) (A2 : Option Addr) (c2 : Nat), k ≤ len2 ∧ p = .slice A1 len0 c1 ∧ q = .slice A2 len0 c2 ∧ r = .int .u64 (sm (gt ms) k : Nat) ∧ s = .int .i64 k ∧
      Hid (US wr A1 len0 c1 (acc xs i (sm (gt ms) k))) ∧ Hid (US wr A2 len0 c2 (acc xs i (sm (tn (gt ms) len2 t) k))) ∧ Below w1.heap.size w1 wr) (fun _ _ _ s _ => len2 - (intOf s).toNat)
  case atStart => exact ⟨0, _, _, _, _, Nat.zero_le _, rfl, rfl, rfl, rfl, Lib.hid (by show US _ _ _ _ (acc xs i 0); rw [acc_0 HU.out.fit HI.out]; exact HU.out), Lib.hid (by show US _ _ _ _ (acc xs i 0); rw [acc_0 HU.out.fit HI.out]; exact HU.out), Below.refl _ _⟩
  case round =>
    obtain ⟨k, A1, c1, A2, c2, hk, rfl, rfl, rfl, rfl, UA, UB, Kr⟩ := hrel
    by_cases hlt : k < len2
    · obtain ⟨j, hj, hj', hjn⟩ : ∃ j : Nat, ((k : Int) + (t : Int)) % (len2 : Int) = j ∧ j < len2 ∧ Hid (j = (k + t) % len2) := ⟨(k + t) % len2, by simp, Nat.mod_lt _ (by omega), Lib.hid rfl⟩
      have M := HM.out.below Kr
      obtain ⟨mb, mo, rfl, hmb, hmc⟩ := M.cells (by omega)
      have HC := Lib.hid hmc
      have m1 := hmc k hlt
      have m2 := hmc j hj'
      clear hmc
      have T := Lib.hid (add_is UA.out (i : Int) hn (v := gt ms k) (acc_step HI.out))
      go_wp2_with fail
      refine (T.out).mono ?_
      rintro e wa ⟨A3, c3, rfl, U3, K3⟩
      clear T m1 m2
      have UB := UB.out.below K3
      have m1 := (K3.cell (p := ⟨mb, mo + k, none⟩) hmb).trans (HC.out k hlt)
      have m2 := (K3.cell (p := ⟨mb, mo + j, none⟩) hmb).trans (HC.out j hj')
      have T := Lib.hid (add_is UB (i : Int) hn (v := gt ms j) (acc_step HI.out))
      go_wp2_with fail
      refine (T.out).mono ?_
      rintro e wb ⟨A4, c4, rfl, U4, K4⟩
      clear T m2
      have m1 := (K4.cell (p := ⟨mb, mo + k, none⟩) (Nat.lt_of_lt_of_le hmb K3.size)).trans m1
      have U3 := Lib.hid (U3.below K4)
      have U4 := Lib.hid U4
      have hw := wrap_add64 (sm (gt ms) k) (gt ms k)
      clear UA UB M HC
      go_wp2
      clear hw m1
      go_roundw
      case rel => exact ⟨k + 1, _, _, _, _, by omega, rfl, rfl, rfl, by go_num, Lib.hid U3.out, Lib.hid (by show US _ _ _ _ (acc xs i (add64 (sm (tn (gt ms) len2 t) k) (gt ms ((k + t) % len2)))); rw [← hjn.out]; exact U4.out), Below.then_ (Below.then_ Kr K3) K4⟩
      case measure => simp [intOf]; omega
    · have e : k = len2 := by omega
      subst e
      have U := HU.out.below Kr
      have UA := UA.out
      have UB := UB.out
      replace K := Below.then_ K Kr
      have T := Lib.hid (same_is UA UB hn (by rw [sm_turn]))
      go_wp2_with fail
      refine (T.out).mono ?_
      rintro e w2 ⟨rfl, K'⟩
      clear T
      replace UA := UA.below K'
      replace U := U.below K'
      replace K := Below.then_ K K'
      have T := Lib.hid (load_is UA (i : Int) (acc_ld HI.out))
      go_wp2_with fail
      refine (T.out).mono ?_
      rintro e _ ⟨rfl, rfl⟩
      clear T
      have T := Lib.hid (load_is U (i : Int) (x := gt xs i) (ldI_nat xs i))
      go_wp2_with fail
      refine (T.out).mono ?_
      rintro e _ ⟨rfl, rfl⟩
      clear T
      have hw := wrap_add64 (gt xs i) (sm (gt ms) k)
      go_wp2
      go_ret
      exact ⟨rfl, K⟩
end Go.Proofs.Ytnngnhccbfnbkaa.cellsSum
