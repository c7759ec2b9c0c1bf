/-
  What each function of package shard answers, for numbers of addresses up to 65536 and 1 to 64 shards: nothing that was there is otherwise.
-/
import Derived.Test.YtlaejiephpmniaaLoc
import Derived.Deep.RegionHeld3
namespace Go.Proofs.Ytlaejiephpmniaa
open Go.RowKit
/-- Where the shard s begins. -/
def ct (L p s : Nat) : Nat := s * L / p
theorem ct_mono {L p s t : Nat} (h : s ≤ t) : ct L p s ≤ ct L p t := Nat.div_le_div_right (Nat.mul_le_mul_right L h)
theorem ct_all {L p : Nat} (hp : 1 ≤ p) : ct L p p = L := by unfold ct; exact Nat.mul_div_cancel_left L hp
theorem ct_zero {L p : Nat} : ct L p 0 = 0 := by unfold ct; simp
theorem smany_any (p : Nat) (h1 : 1 ≤ p) (h2 : p ≤ 64) (w : World) :
    Calls Try.prog 52 #[.int .i64 p] w fun e w' => e = .returned (.int .i64 p) ∧ w = w' := by
  go_enter Try.func52, Try.ntmps52
  go_wp2
  all_goals
    go_ret
    exact ⟨ret_int (by omega), rfl⟩
theorem from_any (p h k : Nat) (h1 : 1 ≤ p) (h2 : p ≤ 64) (hh : h < p) (hk : k ≤ 4000000) (w : World) :
    Calls Try.prog 41 #[.int .i64 p, .int .i64 h, .int .i64 k] w fun e w' => e = .returned (.int .i64 (((h + k) % p : Nat))) ∧ w = w' := by
  have hr2 := Nat.mod_lt k h1
  have hr := (Int.natCast_emod k p).symm
  have hq : ((h : Int) + (k % p : Nat)) % (p : Int) = (((h + k) % p : Nat) : Int) := by
    rw [← Nat.add_mod_mod h k p]; exact (Int.natCast_emod (h + k % p) p).symm
  generalize (h + k) % p = q at *
  generalize k % p = r at *
  go_enter Try.func41, Try.ntmps41
  go_wp2_with ((with_reducible refine (smany_any _ h1 h2 _).mono ?_); rintro e w' ⟨rfl, rfl⟩)
  go_ret
  exact ⟨ret_int hq, rfl⟩
theorem part_any (L p s : Nat) (h1 : 1 ≤ p) (h2 : p ≤ 64) (hL : L ≤ 2048) (hs : s < p) (w : World) :
    Calls Try.prog 50 #[.int .i64 L, .int .i64 p, .int .i64 s] w fun e w' => e = .returned (.agg #[.int .i64 (ct L p s), .int .i64 (ct L p (s + 1))]) ∧ Below w.heap.size w w' := by
  have hA : s * L ≤ 64 * 2048 := Nat.mul_le_mul (by omega) hL
  have hB : (s + 1) * L ≤ 64 * 2048 := Nat.mul_le_mul (by omega) hL
  have e1 : (s : Int) * L = (s * L : Nat) := (Int.natCast_mul s L).symm
  have e2 : ((s : Int) + 1) * L = ((s + 1) * L : Nat) := (Int.natCast_mul (s + 1) L).symm
  have e3 := (Int.natCast_ediv (s * L) p).symm
  have e4 := (Int.natCast_ediv ((s + 1) * L) p).symm
  have k1 := Nat.div_le_self (s * L) p
  have k2 := Nat.div_le_self ((s + 1) * L) p
  unfold ct
  generalize s * L / p = q at *
  generalize (s + 1) * L / p = q' at *
  generalize s * L = m at *
  generalize (s + 1) * L = m' at *
  go_enter Try.func50, Try.ntmps50
  go_wp2
  go_region
  go_wp2
  exact bodyPost_ret (v := .agg #[.int .i64 q, .int .i64 q']) (by simp [results, Try.results50, go_sem]) rfl ⟨rfl, (below_alloc _ _).drew⟩
def RetII (a b : Nat) (w : World) (e : Ending) (w' : World) : Prop := e = .returned (.tuple #[.int .i64 a, .int .i64 b]) ∧ Below w.heap.size w w'
theorem range_any (n p s : Nat) (hn : n ≤ 65536) (h1 : 1 ≤ p) (h2 : p ≤ 64) (hs : s < p) (w : World) :
    Calls Try.prog 40 #[.int .i64 n, .int .i64 p, .int .i64 s] w (RetII (ct (lv n) p s) (ct (lv n) p (s + 1)) w) := by
  have T0 := fun w => Lib.hid (leaves_any n hn w)
  have T1 := fun w => Lib.hid (smany_any p h1 h2 w)
  have T2 := fun w => Lib.hid (part_any (lv n) p s h1 h2 (lv_le hn) hs w)
  generalize ct (lv n) p s = q at *
  generalize ct (lv n) p (s + 1) = q' at *
  generalize lv n = L at *
  go_enter Try.func40, Try.ntmps40
  go_wp2_with (first
    | ((with_reducible refine ((T0 _).out).mono ?_); rintro e w' ⟨rfl, rfl⟩)
    | ((with_reducible refine ((T1 _).out).mono ?_); rintro e w' ⟨rfl, rfl⟩)
    | ((with_reducible refine ((T2 _).out).mono ?_); rintro e w' ⟨rfl, K⟩))
  go_region
  go_wp2
  go_ret2
  exact ⟨rfl, (Below.then_ K (below_alloc _ _)).drew⟩
end Go.Proofs.Ytlaejiephpmniaa

