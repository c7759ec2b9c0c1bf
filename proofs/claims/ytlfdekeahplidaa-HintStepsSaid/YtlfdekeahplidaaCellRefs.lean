/-
  What the document's own cells answer (Load, Set, Swap), and Same at one and the same list: the world grows, and nothing that was there is otherwise. Conditions: at most 65536 cells; words below 2^64.
-/
import Derived.Test.YtlfdekeahplidaaCellOps
namespace Go.Proofs.Ytlfdekeahplidaa
open Go.RowKit
def prt (xs : List Nat) (a : Int) (v k : Nat) : List Nat := if a < (k : Int) then stI xs a v else xs
theorem prt_0 (xs : List Nat) (a : Int) (v : Nat) : prt xs a v 0 = xs := by
  unfold prt
  by_cases h : a < ((0 : Nat) : Int)
  · rw [if_pos h, stI_out v (by omega)]
  · rw [if_neg h]
theorem prt_hit (xs : List Nat) (v k : Nat) : prt xs k v (k + 1) = (prt xs k v k).set k v := by
  unfold prt
  rw [if_pos (by omega), if_neg (by omega), stI_nat]
theorem prt_miss (xs : List Nat) {a : Int} (v : Nat) {k : Nat} (h : (k : Int) ≠ a) : prt xs a v (k + 1) = prt xs a v k := by
  unfold prt
  by_cases h1 : a < (k : Int)
  · rw [if_pos h1, if_pos (by omega)]
  · rw [if_neg h1, if_neg (by omega)]
theorem prt_end {xs : List Nat} (a : Int) (v : Nat) {n : Nat} (hl : xs.length = n) : prt xs a v n = stI xs a v := by
  unfold prt
  by_cases h1 : a < (n : Int)
  · rw [if_pos h1]
  · rw [if_neg h1, stI_out v (by omega)]
set_option maxHeartbeats 800000 in
theorem crset_any {w : World} {A : Option Addr} {n c v : Nat} {xs : List Nat} (h : US w A n c xs) (a : Int) (hn : n ≤ 65536) (hv : v < U64) :
    Calls Try.prog 31 #[.slice A n c, .int .i64 a, .int .u64 (v : Nat)] w (RetS n (stI xs a v) w) := by
  have hl := Lib.hid h.len
  obtain ⟨i0, hi, hz0, hz1, hz2⟩ := info_parts u64_info
  have hown : (w.alloc (.cells #[] 36)).ownsRow w.heap.size 36 1 (.slice (some ⟨w.heap.size, 0, none⟩) 0 0) 0 [] := World.ownsRow_lit w #[] 0 (Nat.le_refl _) (by unfold maxLen; omega) rfl
  have K0 := below_alloc w (.cells #[] 36)
  obtain ⟨g, c', w1, hap, O1, K1⟩ := run_append_us (P := Try.prog) Try.underlying28 hi hz0 hz1 hz2 hown (h.below K0) hn (Nat.le_refl _) K0.size 28
  have K2 : Below w.heap.size w w1 := K0.trans K1
  have HO := Lib.hid O1
  have HA := Lib.hid hap
  clear O1 K1 hown hi hz0 hz1 hz2 hap
  go_enter Try.func31, Try.ntmps31
  go_wp2_with (at_builtin; refine wpList_append_run rfl (.tmp 9) (.tmp 10) 28 rfl _ _ _ _ rfl rfl HA.out ?_)
  go_loopw [8] (fun i wr => ∃ k : Nat, k ≤ n ∧ i = .int .i64 k ∧ Hid (Own wr w.heap.size g n c' 36 (prt xs a v k)) ∧ Below w.heap.size w wr) (fun i _ => n - (intOf i).toNat)
  case atStart => exact ⟨0, Nat.zero_le _, rfl, Lib.hid (by rw [prt_0]; exact HO.out), K2⟩
  case round =>
    obtain ⟨k, hk, rfl, HOr, Kr⟩ := hrel
    by_cases hlt : k < n
    · by_cases he : (k : Int) = a
      · subst he
        have e1 : ((k : Int) == (k : Int)) = true := by simp
        have c1 := HOr.out.cell hlt
        have f1 := HOr.out.frozen k
        go_wp2
        go_roundw
        case rel => exact ⟨k + 1, by omega, by go_num, Lib.hid (by rw [prt_hit]; exact HOr.out.set_ k v), Kr.setCell HOr.out.ge _⟩
        case measure => simp [intOf]; omega
      · have e1 : ((k : Int) == a) = false := by simpa using he
        have HE := Lib.hid he
        clear he
        go_wp2
        go_roundw
        case rel => exact ⟨k + 1, by omega, by go_num, Lib.hid (by rw [prt_miss xs v HE.out]; exact HOr.out), Kr⟩
        case measure => simp [intOf]; omega
    · go_wp2
      go_ret
      have e : k = n := by omega
      subst e
      refine ⟨_, _, rfl, HOr.out.us ?_ |> (prt_end a v hl.out ▸ ·), Kr⟩
      rw [prt_end a v hl.out]; exact fit_stI h.fit a hv
theorem same_any {w : World} {A A' : Option Addr} {n c c' : Nat} {xs : List Nat} (h : US w A n c xs) (h' : US w A' n c' xs) (hn : n ≤ 65536) :
    Calls Try.prog 19 #[.slice A n c, .slice A' n c'] w fun e w' => e = .returned (.bool true) ∧ Below w.heap.size w w' := by
  have e0 : ((n : Int) != (n : Int)) = false := by simp
  go_enter Try.func19, Try.ntmps19
  go_wp2
  go_loopw [5] (fun i wr => ∃ k : Nat, k ≤ n ∧ i = .int .i64 k ∧ Below w.heap.size w wr) (fun i _ => n - (intOf i).toNat)
  case atStart => exact ⟨0, Nat.zero_le _, rfl, Below.refl _ _⟩
  case round =>
    obtain ⟨k, hk, rfl, Kr⟩ := hrel
    by_cases hlt : k < n
    · obtain ⟨b, o, rfl, _, hc⟩ := (h.below Kr).get hlt
      obtain ⟨b', o', rfl, _, hc'⟩ := (h'.below Kr).get hlt
      have e1 : ((gt xs k : Int) != (gt xs k : Int)) = false := by simp
      go_wp2
      go_quiet (fail)
      go_wp2
      go_roundw
      case rel => exact ⟨k + 1, by omega, by go_num, Kr.trans ((drewN_below _ _).mono Kr.size)⟩
      case measure => simp [intOf]; omega
    · go_wp2
      go_ret
      exact ⟨rfl, Kr⟩
end Go.Proofs.Ytlfdekeahplidaa

