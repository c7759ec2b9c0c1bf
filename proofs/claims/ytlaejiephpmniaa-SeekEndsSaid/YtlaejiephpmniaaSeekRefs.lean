/-
  What the document's Rest, Range and Of of layer 12 answer. Conditions: numbers that fit, shards that there are.
-/
import Derived.Test.YtlaejiephpmniaaSeekAwake
namespace Go.Proofs.Ytlaejiephpmniaa
open Go.RowKit
set_option linter.unusedVariables false
theorem rest_any (x p : Nat) (h1 : 1 ≤ p) (h2 : p ≤ 64) (hx : x ≤ 4000000) (w : World) :
    Calls Try.prog 17 #[.int .i64 (x : Int), .int .i64 (p : Int)] w fun e w' => e = .returned (.int .i64 ((x % p : Nat))) ∧ w = w' := by
  have e1 := (Int.natCast_ediv x p).symm
  have k1 := Nat.div_le_self x p
  have k2 := Nat.div_mul_le_self x p
  have e2 : ((x / p : Nat) : Int) * (p : Int) = ((x / p * p : Nat) : Int) := (Int.natCast_mul _ _).symm
  have k3 : (x : Int) - ((x / p * p : Nat) : Int) = ((x % p : Nat) : Int) := by have := Nat.div_add_mod x p; rw [Nat.mul_comm] at this; omega
  have hp0 : ¬ ((p : Int) = 0) := by omega
  generalize x % p = r at *
  generalize hm : x / p * p = mm at *
  generalize x / p = q at *
  replace hm := Lib.hid hm
  have hr : r ≤ 4000000 := by omega
  go_enter Try.func17, Try.ntmps17
  go_wp2
  go_ret
  exact ⟨ret_int (by go_num), rfl⟩
set_option maxHeartbeats 2000000 in
theorem rrange_any (n p s : Nat) (hn : n ≤ 65536) (h1 : 1 ≤ p) (h2 : p ≤ 64) (hs : s < p) (w : World) :
    Calls Try.prog 22 #[.int .i64 (n : Int), .int .i64 (p : Int), .int .i64 (s : Int)] w (RetII (ct (lv n) p s) (ct (lv n) p (s + 1)) w) := by
  have T0 := fun w => Lib.hid (rleaves_any n hn w)
  have hL := lv_le hn
  generalize lv n = L at *
  have hA : s * L ≤ 64 * 2048 := Nat.mul_le_mul (by omega) hL
  have hB : (s + 1) * L ≤ 64 * 2048 := Nat.mul_le_mul (by omega) hL
  have e1 : (s : Int) * L = (s * L : Nat) := (Int.natCast_mul s L).symm
  have e2 : ((s : Int) + 1) * L = ((s + 1) * L : Nat) := (Int.natCast_mul (s + 1) L).symm
  have m1 := (Int.natCast_emod (s * L) p).symm
  have m2 := (Int.natCast_emod ((s + 1) * L) p).symm
  have d1 : (s * L - s * L % p) / p = s * L / p := by
    have := Nat.div_add_mod (s * L) p
    have e : s * L - s * L % p = p * (s * L / p) := by omega
    rw [e]; exact Nat.mul_div_cancel_left _ h1
  have d2 : ((s + 1) * L - (s + 1) * L % p) / p = (s + 1) * L / p := by
    have := Nat.div_add_mod ((s + 1) * L) p
    have e : (s + 1) * L - (s + 1) * L % p = p * ((s + 1) * L / p) := by omega
    rw [e]; exact Nat.mul_div_cancel_left _ h1
  have l1 := Nat.mod_le (s * L) p
  have l2 := Nat.mod_le ((s + 1) * L) p
  have f1 : ((s * L : Nat) : Int) - ((s * L % p : Nat) : Int) = ((s * L - s * L % p : Nat) : Int) := by omega
  have f2 : (((s + 1) * L : Nat) : Int) - (((s + 1) * L % p : Nat) : Int) = (((s + 1) * L - (s + 1) * L % p : Nat) : Int) := by omega
  have g1 := (Int.natCast_ediv (s * L - s * L % p) p).symm
  have g2 := (Int.natCast_ediv ((s + 1) * L - (s + 1) * L % p) p).symm
  have k1 := Nat.div_le_self (s * L) p
  have k2 := Nat.div_le_self ((s + 1) * L) p
  rw [d1] at g1
  rw [d2] at g2
  have hp0 : ¬ ((p : Int) = 0) := by omega
  unfold ct
  generalize s * L / p = q at *
  generalize (s + 1) * L / p = q' at *
  generalize s * L - s * L % p = u at *
  generalize (s + 1) * L - (s + 1) * L % p = u' at *
  generalize s * L % p = r at *
  generalize (s + 1) * L % p = r' at *
  generalize s * L = m at *
  generalize (s + 1) * L = m' at *
  clear d1 d2
  have m1' : (m : Int).tmod (p : Int) = (r : Int) := by rw [Int.tmod_eq_emod_of_nonneg (by omega)]; exact m1
  have m2' : (m' : Int).tmod (p : Int) = (r' : Int) := by rw [Int.tmod_eq_emod_of_nonneg (by omega)]; exact m2
  have g1' : (u : Int).tdiv (p : Int) = (q : Int) := by rw [Int.tdiv_eq_ediv_of_nonneg (by omega)]; exact g1
  have g2' : (u' : Int).tdiv (p : Int) = (q' : Int) := by rw [Int.tdiv_eq_ediv_of_nonneg (by omega)]; exact g2
  go_enter Try.func22, Try.ntmps22
  go_wp2_with ((with_reducible refine ((T0 _).out).mono ?_); rintro e w' ⟨rfl, rfl⟩)
  go_region
  go_wp2
  go_ret2
  exact ⟨rfl, (Below.refl _ _).drew⟩
set_option maxHeartbeats 2000000 in
theorem rof_any (n p x s : Nat) (hn : n ≤ 65536) (h1 : 1 ≤ p) (h2 : p ≤ 64) (hs : s < p) (hx1 : ct (lv n) p s ≤ x) (hx2 : x < ct (lv n) p (s + 1)) (w : World) :
    Calls Try.prog 16 #[.int .i64 (n : Int), .int .i64 (p : Int), .int .i64 (x : Int)] w fun e w' => e = .returned (.int .i64 (s : Nat)) ∧ Below w.heap.size w w' := by
  have T := fun k (hk : k < p) w => Lib.hid (rrange_any n p k hn h1 h2 hk w)
  have hlt : ∀ k, k < s → ct (lv n) p (k + 1) ≤ x := fun k hk => Nat.le_trans (ct_mono (by omega)) hx1
  replace hlt := Lib.hid hlt
  go_enter Try.func16, Try.ntmps16
  go_wp2
  go_loopw [7] (fun i wr => ∃ k : Nat, k ≤ s ∧ i = .int .i64 (k : Nat) ∧ Below w.heap.size w wr) (fun i _ => p - (intOf i).toNat)
  case atStart => exact ⟨0, Nat.zero_le _, rfl, Below.refl _ _⟩
  case round =>
    obtain ⟨k, hk, rfl, K⟩ := hrel
    have hkp : k < p := by omega
    have TK := T k hkp
    by_cases e : k = s
    · subst e
      clear T hlt
      have c1 : decide (ct (lv n) p k ≤ x) = true := by simpa using hx1
      have c2 : decide (x < ct (lv n) p (k + 1)) = true := by simpa using hx2
      generalize ct (lv n) p (k + 1) = q' at *
      generalize ct (lv n) p k = q at *
      have c1' : (q : Int) ≤ (x : Int) := by omega
      have c2' : (x : Int) < (q' : Int) := by omega
      go_wp2_with ((with_reducible refine ((TK _).out).mono ?_); rintro e w' ⟨rfl, K'⟩)
      go_ret
      exact ⟨rfl, Below.then_ K K'⟩
    · have hq := hlt.out k (by omega)
      have hq2 := ct_mono (L := lv n) (p := p) (Nat.le_succ k)
      clear T hlt hx1 hx2
      generalize ct (lv n) p (k + 1) = q' at *
      generalize ct (lv n) p k = q at *
      have c1' : (q : Int) ≤ (x : Int) := by omega
      have c2' : ¬ ((x : Int) < (q' : Int)) := by omega
      have c1 : decide (q ≤ x) = true := by simp; omega
      have c2 : decide (x < q') = false := by simp; omega
      go_wp2_with ((with_reducible refine ((TK _).out).mono ?_); rintro e w' ⟨rfl, K'⟩)
      go_roundw
      case rel => exact ⟨k + 1, by omega, by go_num, Below.then_ K K'⟩
      case measure => simp [intOf]; omega
end Go.Proofs.Ytlaejiephpmniaa
