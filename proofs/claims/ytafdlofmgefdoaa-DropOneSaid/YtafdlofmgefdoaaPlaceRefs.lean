/-
  What each of the document's own places answers, for numbers of addresses up to 65536 and leaves up to 2048: the world is as it was.
-/
import Derived.Test.YtafdlofmgefdoaaPlaceCalls
namespace Go.Proofs.Ytafdlofmgefdoaa
open Go.RowKit
theorem rleaves_any (n : Nat) (hn : n ≤ 65536) (w : World) :
    Calls Try.prog 36 #[.int .i64 n] w fun e w' => e = .returned (.int .i64 (lv n)) ∧ w = w' := by
  have hl : n ≤ 32 * lv n ∧ 32 * lv n < n + 32 := by unfold lv; omega
  have hl2 := lv_le hn
  generalize lv n = m at *
  go_enter Try.func36, Try.ntmps36
  go_wp2
  go_loop [3] (fun i => ∃ k : Nat, k ≤ m ∧ i = .int .i64 k) (fun i => m - (intOf i).toNat)
  case atStart => exact ⟨0, Nat.zero_le _, rfl⟩
  case round =>
    obtain ⟨k, hk, rfl⟩ := hrel
    by_cases hlt : k < m
    · have h1 : 32 * k < n := by omega
      go_wp2
      go_round
      case rel => exact ⟨k + 1, by omega, by go_num⟩
      case measure => simp [intOf]; omega
    · obtain rfl : k = m := by omega
      have h1 : ¬ 32 * k < n := by omega
      go_wp2
      go_ret
      exact ⟨rfl, rfl⟩
theorem rtops_any (n : Nat) (hn : n ≤ 65536) (w : World) :
    Calls Try.prog 37 #[.int .i64 n] w fun e w' => e = .returned (.int .i64 (tv n)) ∧ w = w' := by
  have T := fun w => Lib.hid (rleaves_any n hn w)
  have hl : lv n ≤ 64 * tv n ∧ 64 * tv n < lv n + 64 := by unfold tv tq; omega
  have hl2 := lv_le hn
  have ht2 := tv_le hn
  generalize tv n = m at *
  generalize lv n = l at *
  go_enter Try.func37, Try.ntmps37
  go_wp2
  go_loop [3] (fun i => ∃ k : Nat, k ≤ m ∧ i = .int .i64 k) (fun i => m - (intOf i).toNat)
  case atStart => exact ⟨0, Nat.zero_le _, rfl⟩
  case round =>
    obtain ⟨k, hk, rfl⟩ := hrel
    by_cases hlt : k < m
    · have h1 : 64 * k < l := by omega
      go_wp2_with (refine ((T _).out).mono ?_; rintro e w' ⟨rfl, rfl⟩)
      go_round
      case rel => exact ⟨k + 1, by omega, by go_num⟩
      case measure => simp [intOf]; omega
    · obtain rfl : k = m := by omega
      have h1 : ¬ 64 * k < l := by omega
      go_wp2_with (refine ((T _).out).mono ?_; rintro e w' ⟨rfl, rfl⟩)
      go_ret
      exact ⟨rfl, rfl⟩
theorem rcells_any (n : Nat) (hn : n ≤ 65536) (w : World) :
    Calls Try.prog 22 #[.int .i64 n] w fun e w' => e = .returned (.int .i64 ((lv n + tv n + 1 : Nat))) ∧ w = w' := by
  have h1 := lv_le hn
  have h2 := tv_le hn
  go_enter Try.func22, Try.ntmps22
  go_wp2_with (first
    | ((with_reducible refine (rleaves_any _ hn _).mono ?_); rintro e w' ⟨rfl, rfl⟩)
    | ((with_reducible refine (rtops_any _ hn _).mono ?_); rintro e w' ⟨rfl, rfl⟩))
  go_ret
  exact ⟨ret_int (by go_num), rfl⟩
end Go.Proofs.Ytafdlofmgefdoaa

