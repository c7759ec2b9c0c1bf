/-
  What each function of package shard answers, for numbers of addresses up to 65536 and 1 to 64 shards: nothing that was there is otherwise.
-/
import Derived.Test.YtlmppeejcfgdeaaBlockLists
import Derived.Deep.RegionHeld3
namespace Go.Proofs.Ytlmppeejcfgdeaa
open Go.RowKit
/-- Where the shard s begins. -/
def ct (L p s : Nat) : Nat := s * L / p
theorem ct_mono {L p s t : Nat} (h : s ≤ t) : ct L p s ≤ ct L p t := Nat.div_le_div_right (Nat.mul_le_mul_right L h)
theorem ct_all {L p : Nat} (hp : 1 ≤ p) : ct L p p = L := by unfold ct; exact Nat.mul_div_cancel_left L hp
theorem ct_zero {L p : Nat} : ct L p 0 = 0 := by unfold ct; simp
theorem many_any (p : Nat) (h1 : 1 ≤ p) (h2 : p ≤ 64) (w : World) :
    Calls Try.prog 11 #[.int .i64 p] w fun e w' => e = .returned (.int .i64 p) ∧ w = w' := by
  go_enter Try.func11, Try.ntmps11
  go_wp2
  all_goals
    go_ret
    exact ⟨ret_int (by omega), rfl⟩
theorem home_any (p x : Nat) (h1 : 1 ≤ p) (h2 : p ≤ 64) (hx : x ≤ 4000000) (w : World) :
    Calls Try.prog 6 #[.int .i64 p, .int .i64 x] w fun e w' => e = .returned (.int .i64 ((x % p : Nat))) ∧ w = w' := by
  have hr := (Int.natCast_emod x p).symm
  generalize x % p = r at *
  go_enter Try.func6, Try.ntmps6
  go_wp2_with ((with_reducible refine (many_any _ h1 h2 _).mono ?_); rintro e w' ⟨rfl, rfl⟩)
  go_ret
  exact ⟨ret_int hr, rfl⟩
theorem from_any (p h k : Nat) (h1 : 1 ≤ p) (h2 : p ≤ 64) (hh : h < p) (hk : k ≤ 4000000) (w : World) :
    Calls Try.prog 7 #[.int .i64 p, .int .i64 h, .int .i64 k] w fun e w' => e = .returned (.int .i64 (((h + k) % p : Nat))) ∧ w = w' := by
  have hr2 := Nat.mod_lt k h1
  have hr := (Int.natCast_emod k p).symm
  have hq : ((h : Int) + (k % p : Nat)) % (p : Int) = (((h + k) % p : Nat) : Int) := by
    rw [← Nat.add_mod_mod h k p]; exact (Int.natCast_emod (h + k % p) p).symm
  generalize (h + k) % p = q at *
  generalize k % p = r at *
  go_enter Try.func7, Try.ntmps7
  go_wp2_with ((with_reducible refine (many_any _ h1 h2 _).mono ?_); rintro e w' ⟨rfl, rfl⟩)
  go_ret
  exact ⟨ret_int hq, rfl⟩
theorem part_any (L p s : Nat) (h1 : 1 ≤ p) (h2 : p ≤ 64) (hL : L ≤ 2048) (hs : s < p) (w : World) :
    Calls Try.prog 12 #[.int .i64 L, .int .i64 p, .int .i64 s] w fun e w' => e = .returned (.agg #[.int .i64 (ct L p s), .int .i64 (ct L p (s + 1))]) ∧ Below w.heap.size w w' := by
  have hA : s * L ≤ 64 * 2048 := Nat.mul_le_mul (by omega) hL
  have hB : (s + 1) * L ≤ 64 * 2048 := Nat.mul_le_mul (by omega) hL
  have e1 : (s : Int) * L = (s * L : Nat) := (Int.natCast_mul s L).symm
  have e2 : ((s : Int) + 1) * L = ((s + 1) * L : Nat) := (Int.natCast_mul (s + 1) L).symm
  have e3 := (Int.natCast_ediv (s * L) p).symm
  have e4 := (Int.natCast_ediv ((s + 1) * L) p).symm
  have k1 := Nat.div_le_self (s * L) p
  have k2 := Nat.div_le_self ((s + 1) * L) p
  unfold ct
  generalize s * L / p = q at *
  generalize (s + 1) * L / p = q' at *
  generalize s * L = m at *
  generalize (s + 1) * L = m' at *
  go_enter Try.func12, Try.ntmps12
  go_wp2
  go_region
  go_wp2
  exact bodyPost_ret (v := .agg #[.int .i64 q, .int .i64 q']) (by simp [results, Try.results12, go_sem]) rfl ⟨rfl, (below_alloc _ _).drew⟩
def RetII (a b : Nat) (w : World) (e : Ending) (w' : World) : Prop := e = .returned (.tuple #[.int .i64 a, .int .i64 b]) ∧ Below w.heap.size w w'
theorem range_any (n p s : Nat) (hn : n ≤ 65536) (h1 : 1 ≤ p) (h2 : p ≤ 64) (hs : s < p) (w : World) :
    Calls Try.prog 9 #[.int .i64 n, .int .i64 p, .int .i64 s] w (RetII (ct (lv n) p s) (ct (lv n) p (s + 1)) w) := by
  have T0 := fun w => Lib.hid (leaves_any n hn w)
  have T1 := fun w => Lib.hid (many_any p h1 h2 w)
  have T2 := fun w => Lib.hid (part_any (lv n) p s h1 h2 (lv_le hn) hs w)
  generalize ct (lv n) p s = q at *
  generalize ct (lv n) p (s + 1) = q' at *
  generalize lv n = L at *
  go_enter Try.func9, Try.ntmps9
  go_wp2_with (first
    | ((with_reducible refine ((T0 _).out).mono ?_); rintro e w' ⟨rfl, rfl⟩)
    | ((with_reducible refine ((T1 _).out).mono ?_); rintro e w' ⟨rfl, rfl⟩)
    | ((with_reducible refine ((T2 _).out).mono ?_); rintro e w' ⟨rfl, K⟩))
  go_region
  go_wp2
  go_ret2
  exact ⟨rfl, (Below.then_ K (below_alloc _ _)).drew⟩
theorem side_any (a b x : Nat) (w : World) :
    Calls Try.prog 14 #[.agg #[.int .i64 a, .int .i64 b], .int .i64 x] w fun e w' => e = .returned (.int .i64 (if x < a then 0 else if x < b then 1 else 2)) ∧ Below w.heap.size w w' := by
  by_cases c1 : x < a
  · rw [if_pos c1]
    go_enter Try.func14, Try.ntmps14
    go_wp2
    go_ret
    exact ⟨rfl, below_alloc _ _⟩
  rw [if_neg c1]
  by_cases c2 : x < b
  · rw [if_pos c2]
    go_enter Try.func14, Try.ntmps14
    go_wp2
    go_ret
    exact ⟨rfl, below_alloc _ _⟩
  rw [if_neg c2]
  go_enter Try.func14, Try.ntmps14
  go_wp2
  go_ret
  exact ⟨rfl, below_alloc _ _⟩
theorem side_behind (a b x : Nat) (h : a ≤ b) (hx : b ≤ x) (w : World) :
    Calls Try.prog 14 #[.agg #[.int .i64 a, .int .i64 b], .int .i64 x] w fun e w' => e = .returned (.int .i64 2) ∧ Below w.heap.size w w' := by
  have := side_any a b x w
  rw [if_neg (by omega), if_neg (by omega)] at this
  exact this
theorem side_within (a b x : Nat) (h : a ≤ x) (hx : x < b) (w : World) :
    Calls Try.prog 14 #[.agg #[.int .i64 a, .int .i64 b], .int .i64 x] w fun e w' => e = .returned (.int .i64 1) ∧ Below w.heap.size w w' := by
  have := side_any a b x w
  rw [if_neg (by omega), if_pos (by omega)] at this
  exact this
theorem of_any (n p x s : Nat) (hn : n ≤ 65536) (h1 : 1 ≤ p) (h2 : p ≤ 64) (hs : s < p) (hx1 : ct (lv n) p s ≤ x) (hx2 : x < ct (lv n) p (s + 1)) (w : World) :
    Calls Try.prog 10 #[.int .i64 n, .int .i64 p, .int .i64 x] w fun e w' => e = .returned (.int .i64 s) ∧ Below w.heap.size w w' := by
  have T0 := fun w => Lib.hid (leaves_any n hn w)
  have T1 := fun w => Lib.hid (many_any p h1 h2 w)
  have T2 := fun k hk w => Lib.hid (part_any (lv n) p k h1 h2 (lv_le hn) hk w)
  have T3 := fun k (hk : k < s) w => Lib.hid (side_behind (ct (lv n) p k) (ct (lv n) p (k + 1)) x (ct_mono (by omega)) (Nat.le_trans (ct_mono (by omega)) hx1) w)
  have T4 := fun w => Lib.hid (side_within (ct (lv n) p s) (ct (lv n) p (s + 1)) x hx1 hx2 w)
  clear hx1 hx2
  generalize ct (lv n) p = f at *
  generalize lv n = L at *
  have K := Below.refl w.heap.size w
  go_enter Try.func10, Try.ntmps10
  go_wp2
  go_step3
  go_wp2_with (first
    | ((with_reducible refine ((T0 _).out).mono ?_); rintro e w' ⟨rfl, rfl⟩)
    | ((with_reducible refine ((T1 _).out).mono ?_); rintro e w' ⟨rfl, rfl⟩))
  go_step3
  go_wp2
  go_loopw [9, 16] (fun v i wr => ∃ k : Nat, k ≤ s ∧ i = .int .i64 k ∧ v = .int .i64 0 ∧ Below w.heap.size w wr) (fun _ i _ => s - (intOf i).toNat)
  case atStart => exact ⟨0, Nat.zero_le _, rfl, rfl, K⟩
  case round =>
    obtain ⟨k, hk, rfl, rfl, HK⟩ := hrel
    have hkp : k < p := by omega
    clear K
    go_wp2_with fail
    refine ((T2 k hkp _).out).mono ?_
    rintro e w2 ⟨rfl, K2⟩
    replace HK := Below.then_ HK K2
    clear K2
    by_cases hlt : k < s
    · go_wp2_with fail
      refine ((T3 k hlt _).out).mono ?_
      rintro e w3 ⟨rfl, K3⟩
      replace HK := Below.then_ HK K3
      clear K3
      go_wp2
      go_round
      case rel => exact ⟨k + 1, by omega, by go_num, rfl, HK⟩
      case measure => simp [intOf]; omega
    · obtain rfl : k = s := by omega
      go_wp2_with fail
      refine ((T4 _).out).mono ?_
      rintro e w3 ⟨rfl, K3⟩
      replace HK := Below.then_ HK K3
      clear K3
      go_wp2
      rw [Exit.noGoto_ret]
      go_ret
      exact ⟨rfl, HK⟩
end Go.Proofs.Ytlmppeejcfgdeaa
