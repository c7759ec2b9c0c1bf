/-
  What each function of package cells answers, as lists: the world grows, and nothing that was there is otherwise. Conditions: at most 65536 cells; words below 2^64.
-/
import Derived.Test.YtlaejiephpmniaaCellMath
import Derived.Laws.CopyOwn
import Derived.RegionTactic
import Derived.BigQuiet
import Derived.Deep.QuietTactic
namespace Go.Proofs.Ytlaejiephpmniaa
open Go.RowKit
theorem there_yes (A : Option Addr) (n c a : Nat) (h : a < n) (w : World) :
    Calls Try.prog 43 #[.slice A n c, .int .i64 (a : Nat)] w fun e w' => e = .returned (.bool true) ∧ w = w' := by
  go_enter Try.func43, Try.ntmps43
  go_wp2
  go_ret
  exact ⟨rfl, rfl⟩
theorem there_no (A : Option Addr) (n c : Nat) (a : Int) (h : a < 0 ∨ (n : Int) ≤ a) (w : World) :
    Calls Try.prog 43 #[.slice A n c, .int .i64 a] w fun e w' => e = .returned (.bool false) ∧ w = w' := by
  rcases h with h | h
  · go_enter Try.func43, Try.ntmps43
    go_wp2
    go_ret
    exact ⟨rfl, rfl⟩
  · have h0 : 0 ≤ a := by omega
    have hd : decide (a < (n : Int)) = false := by simp; omega
    go_enter Try.func43, Try.ntmps43
    go_wp2
    go_ret
    exact ⟨rfl, rfl⟩
theorem load_nat {w : World} {A : Option Addr} {n c : Nat} {xs : List Nat} (h : US w A n c xs) (a : Nat) (ha : a < n) :
    Calls Try.prog 28 #[.slice A n c, .int .i64 (a : Nat)] w fun e w' => e = .returned (.int .u64 (gt xs a : Nat)) ∧ w = w' := by
  obtain ⟨b, o, rfl, _, hc⟩ := h.get ha
  go_enter Try.func28, Try.ntmps28
  go_wp2_with (go_at_call 43; refine (there_yes _ _ _ _ ha _).mono ?_; rintro e w' ⟨rfl, rfl⟩)
  go_ret
  exact ⟨rfl, rfl⟩
theorem load_out {w : World} {A : Option Addr} {n c : Nat} (a : Int) (ha : a < 0 ∨ (n : Int) ≤ a) :
    Calls Try.prog 28 #[.slice A n c, .int .i64 a] w fun e w' => e = .returned (.int .u64 0) ∧ w = w' := by
  have hno : ∀ w, Calls Try.prog 43 #[.slice A n c, .int .i64 a] w fun e w' => e = .returned (.bool false) ∧ w = w' := fun w => there_no A n c a ha w
  clear ha
  go_enter Try.func28, Try.ntmps28
  go_wp2_with (go_at_call 43; refine (hno _).mono ?_; rintro e w' ⟨rfl, rfl⟩)
  go_ret
  exact ⟨rfl, rfl⟩
theorem load_any {w : World} {A : Option Addr} {n c : Nat} {xs : List Nat} (h : US w A n c xs) (a : Int) :
    Calls Try.prog 28 #[.slice A n c, .int .i64 a] w fun e w' => e = .returned (.int .u64 (ldI xs a : Nat)) ∧ w = w' := by
  by_cases ha : a < 0 ∨ (n : Int) ≤ a
  · rw [ldI_out (by have := h.len; omega)]
    exact load_out a ha
  · obtain ⟨k, rfl⟩ : ∃ k : Nat, a = k := ⟨a.toNat, by omega⟩
    rw [ldI_nat]
    exact load_nat h k (by omega)
def add64 (x v : Nat) : Nat := (x + v) % U64
theorem add64_lt (x v : Nat) : add64 x v < U64 := Nat.mod_lt _ (by decide)
theorem wrap_add64 (x v : Nat) : IntKind.u64.wrap ((x : Int) + (v : Int)) = (add64 x v : Nat) := by
  rw [IntKind.wrap_u64]; unfold add64 U64; omega
theorem u64_info : (Try.prog.info? 39).map (fun i => (i.zero, i.size, i.bytes)) = some (some (.int .u64 0), 1, 8) := by kernel_rfl
theorem u64_size : (Try.prog.info? 39).map (·.size) = some 1 := by kernel_rfl
theorem drewN_below (w : World) (m : Nat) : Below w.heap.size w (w.drewN m) := ⟨rfl, rfl, rfl, Nat.le_refl _, fun _ _ => rfl⟩
end Go.Proofs.Ytlaejiephpmniaa

