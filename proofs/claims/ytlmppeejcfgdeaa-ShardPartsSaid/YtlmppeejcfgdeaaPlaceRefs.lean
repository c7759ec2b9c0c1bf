/-
  What each of the document's own places answers, for numbers of addresses up to 65536 and leaves up to 2048: the world is as it was.
-/
import Derived.Test.YtlmppeejcfgdeaaPlaceCalls
namespace Go.Proofs.Ytlmppeejcfgdeaa
open Go.RowKit
theorem rleaves_any (n : Nat) (hn : n ≤ 65536) (w : World) :
    Calls Try.prog 8 #[.int .i64 n] w fun e w' => e = .returned (.int .i64 (lv n)) ∧ w = w' := by
  have hl : n ≤ 32 * lv n ∧ 32 * lv n < n + 32 := by unfold lv; omega
  have hl2 := lv_le hn
  generalize lv n = m at *
  go_enter Try.func8, Try.ntmps8
  go_wp2
  go_loop [3] (fun i => ∃ k : Nat, k ≤ m ∧ i = .int .i64 k) (fun i => m - (intOf i).toNat)
  case atStart => exact ⟨0, Nat.zero_le _, rfl⟩
  case round =>
    obtain ⟨k, hk, rfl⟩ := hrel
    by_cases hlt : k < m
    · have h1 : 32 * k < n := by omega
      go_wp2
      go_round
      case rel => exact ⟨k + 1, by omega, by go_num⟩
      case measure => simp [intOf]; omega
    · obtain rfl : k = m := by omega
      have h1 : ¬ 32 * k < n := by omega
      go_wp2
      go_ret
      exact ⟨rfl, rfl⟩
end Go.Proofs.Ytlmppeejcfgdeaa

