/-
  What the document's own cells answer (Load, Set, Swap), and Same at one and the same list: the world grows, and nothing that was there is otherwise. Conditions: at most 65536 cells; words below 2^64.
-/
import Derived.Test.YtbipjdmaoofggaaCellCalls
namespace Go.Proofs.Ytbipjdmaoofggaa
open Go.RowKit
def prt (xs : List Nat) (a : Int) (v k : Nat) : List Nat := if a < (k : Int) then stI xs a v else xs
theorem prt_0 (xs : List Nat) (a : Int) (v : Nat) : prt xs a v 0 = xs := by
  unfold prt
  by_cases h : a < ((0 : Nat) : Int)
  · rw [if_pos h, stI_out v (by omega)]
  · rw [if_neg h]
theorem prt_hit (xs : List Nat) (v k : Nat) : prt xs k v (k + 1) = (prt xs k v k).set k v := by
  unfold prt
  rw [if_pos (by omega), if_neg (by omega), stI_nat]
theorem prt_miss (xs : List Nat) {a : Int} (v : Nat) {k : Nat} (h : (k : Int) ≠ a) : prt xs a v (k + 1) = prt xs a v k := by
  unfold prt
  by_cases h1 : a < (k : Int)
  · rw [if_pos h1, if_pos (by omega)]
  · rw [if_neg h1, if_neg (by omega)]
theorem prt_end {xs : List Nat} (a : Int) (v : Nat) {n : Nat} (hl : xs.length = n) : prt xs a v n = stI xs a v := by
  unfold prt
  by_cases h1 : a < (n : Int)
  · rw [if_pos h1]
  · rw [if_neg h1, stI_out v (by omega)]
theorem same_any {w : World} {A A' : Option Addr} {n c c' : Nat} {xs : List Nat} (h : US w A n c xs) (h' : US w A' n c' xs) (hn : n ≤ 65536) :
    Calls Try.prog 25 #[.slice A n c, .slice A' n c'] w fun e w' => e = .returned (.bool true) ∧ Below w.heap.size w w' := by
  have e0 : ((n : Int) != (n : Int)) = false := by simp
  go_enter Try.func25, Try.ntmps25
  go_wp2
  go_loopw [5] (fun i wr => ∃ k : Nat, k ≤ n ∧ i = .int .i64 k ∧ Below w.heap.size w wr) (fun i _ => n - (intOf i).toNat)
  case atStart => exact ⟨0, Nat.zero_le _, rfl, Below.refl _ _⟩
  case round =>
    obtain ⟨k, hk, rfl, Kr⟩ := hrel
    by_cases hlt : k < n
    · obtain ⟨b, o, rfl, _, hc⟩ := (h.below Kr).get hlt
      obtain ⟨b', o', rfl, _, hc'⟩ := (h'.below Kr).get hlt
      have e1 : ((gt xs k : Int) != (gt xs k : Int)) = false := by simp
      go_wp2
      go_quiet (fail)
      go_wp2
      go_roundw
      case rel => exact ⟨k + 1, by omega, by go_num, Kr.trans ((drewN_below _ _).mono Kr.size)⟩
      case measure => simp [intOf]; omega
    · go_wp2
      go_ret
      exact ⟨rfl, Kr⟩
end Go.Proofs.Ytbipjdmaoofggaa

