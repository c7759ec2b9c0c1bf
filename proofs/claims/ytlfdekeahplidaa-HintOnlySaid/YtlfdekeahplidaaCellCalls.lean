/-
  What each function of package cells answers, as lists: the world grows, and nothing that was there is otherwise. Conditions: at most 65536 cells; words below 2^64.
-/
import Derived.Test.YtlfdekeahplidaaCellMath
import Derived.Laws.CopyOwn
import Derived.RegionTactic
import Derived.BigQuiet
import Derived.Deep.QuietTactic
namespace Go.Proofs.Ytlfdekeahplidaa
open Go.RowKit
theorem there_yes (A : Option Addr) (n c a : Nat) (h : a < n) (w : World) :
    Calls Try.prog 63 #[.slice A n c, .int .i64 (a : Nat)] w fun e w' => e = .returned (.bool true) ∧ w = w' := by
  go_enter Try.func63, Try.ntmps63
  go_wp2
  go_ret
  exact ⟨rfl, rfl⟩
theorem there_no (A : Option Addr) (n c : Nat) (a : Int) (h : a < 0 ∨ (n : Int) ≤ a) (w : World) :
    Calls Try.prog 63 #[.slice A n c, .int .i64 a] w fun e w' => e = .returned (.bool false) ∧ w = w' := by
  rcases h with h | h
  · go_enter Try.func63, Try.ntmps63
    go_wp2
    go_ret
    exact ⟨rfl, rfl⟩
  · have h0 : 0 ≤ a := by omega
    have hd : decide (a < (n : Int)) = false := by simp; omega
    go_enter Try.func63, Try.ntmps63
    go_wp2
    go_ret
    exact ⟨rfl, rfl⟩
theorem load_nat {w : World} {A : Option Addr} {n c : Nat} {xs : List Nat} (h : US w A n c xs) (a : Nat) (ha : a < n) :
    Calls Try.prog 39 #[.slice A n c, .int .i64 (a : Nat)] w fun e w' => e = .returned (.int .u64 (gt xs a : Nat)) ∧ w = w' := by
  obtain ⟨b, o, rfl, _, hc⟩ := h.get ha
  go_enter Try.func39, Try.ntmps39
  go_wp2_with (go_at_call 63; refine (there_yes _ _ _ _ ha _).mono ?_; rintro e w' ⟨rfl, rfl⟩)
  go_ret
  exact ⟨rfl, rfl⟩
theorem load_out {w : World} {A : Option Addr} {n c : Nat} (a : Int) (ha : a < 0 ∨ (n : Int) ≤ a) :
    Calls Try.prog 39 #[.slice A n c, .int .i64 a] w fun e w' => e = .returned (.int .u64 0) ∧ w = w' := by
  have hno : ∀ w, Calls Try.prog 63 #[.slice A n c, .int .i64 a] w fun e w' => e = .returned (.bool false) ∧ w = w' := fun w => there_no A n c a ha w
  clear ha
  go_enter Try.func39, Try.ntmps39
  go_wp2_with (go_at_call 63; refine (hno _).mono ?_; rintro e w' ⟨rfl, rfl⟩)
  go_ret
  exact ⟨rfl, rfl⟩
theorem load_any {w : World} {A : Option Addr} {n c : Nat} {xs : List Nat} (h : US w A n c xs) (a : Int) :
    Calls Try.prog 39 #[.slice A n c, .int .i64 a] w fun e w' => e = .returned (.int .u64 (ldI xs a : Nat)) ∧ w = w' := by
  by_cases ha : a < 0 ∨ (n : Int) ≤ a
  · rw [ldI_out (by have := h.len; omega)]
    exact load_out a ha
  · obtain ⟨k, rfl⟩ : ∃ k : Nat, a = k := ⟨a.toNat, by omega⟩
    rw [ldI_nat]
    exact load_nat h k (by omega)
def add64 (x v : Nat) : Nat := (x + v) % U64
theorem add64_lt (x v : Nat) : add64 x v < U64 := Nat.mod_lt _ (by decide)
theorem wrap_add64 (x v : Nat) : IntKind.u64.wrap ((x : Int) + (v : Int)) = (add64 x v : Nat) := by
  rw [IntKind.wrap_u64]; unfold add64 U64; omega
theorem clo_swap_yes {w : World} {v x g k : Nat} (hv : w.cell? ⟨g, 0, none⟩ = some (.int .u64 (v : Nat))) (hk : w.cell? ⟨k, 0, none⟩ = some (.int .u64 (x : Nat))) :
    Calls Try.prog 66 #[.int .u64 (x : Nat), .pointer (some ⟨g, 0, none⟩), .pointer (some ⟨k, 0, none⟩)] w fun e w' => e = .returned (.tuple #[.int .u64 (v : Nat), .bool true]) ∧ ∃ m, w' = w.drewN m := by
  have hx : ((x : Int) == (x : Int)) = true := by simp
  go_enter Try.func66, Try.ntmps66
  go_wp2
  go_quiet (fail)
  go_wp2
  go_ret2
  exact ⟨rfl, _, rfl⟩
theorem clo_swap_no {w : World} {v x y g k : Nat} (hxy : x ≠ y) (hv : w.cell? ⟨g, 0, none⟩ = some (.int .u64 (v : Nat))) (hk : w.cell? ⟨k, 0, none⟩ = some (.int .u64 (y : Nat))) :
    Calls Try.prog 66 #[.int .u64 (x : Nat), .pointer (some ⟨g, 0, none⟩), .pointer (some ⟨k, 0, none⟩)] w fun e w' => e = .returned (.tuple #[.int .u64 (v : Nat), .bool false]) ∧ ∃ m, w' = w.drewN m := by
  have hx : ((x : Int) == (y : Int)) = false := by simp; omega
  go_enter Try.func66, Try.ntmps66
  go_wp2
  go_quiet (fail)
  go_wp2
  go_ret2
  exact ⟨rfl, _, rfl⟩
theorem turn_no {w : World} {A : Option Addr} {n c : Nat} {a : Int} {f : Value} (ha : a < 0 ∨ (n : Int) ≤ a) :
    Calls Try.prog 65 #[.slice A n c, .int .i64 a, f] w fun e w' => e = .returned (.tuple #[.slice A n c, .bool false]) ∧ w = w' := by
  have hno : ∀ w, Calls Try.prog 63 #[.slice A n c, .int .i64 a] w fun e w' => e = .returned (.bool false) ∧ w = w' := fun w => there_no A n c a ha w
  clear ha
  go_enter Try.func65, Try.ntmps65
  go_wp2_with (go_at_call 63; refine (hno _).mono ?_; rintro e w' ⟨rfl, rfl⟩)
  go_ret2
  exact ⟨rfl, rfl⟩
theorem u64_info : (Try.prog.info? 36).map (fun i => (i.zero, i.size, i.bytes)) = some (some (.int .u64 0), 1, 8) := by kernel_rfl
theorem u64_size : (Try.prog.info? 36).map (·.size) = some 1 := by kernel_rfl
theorem drewN_below (w : World) (m : Nat) : Below w.heap.size w (w.drewN m) := ⟨rfl, rfl, rfl, Nat.le_refl _, fun _ _ => rfl⟩
set_option maxHeartbeats 400000 in
theorem turn_swap_yes {w : World} {A : Option Addr} {n c a v g k : Nat} {xs : List Nat} (h : US w A n c xs) (ha : a < n) (hn : n ≤ 65536) (hv : w.cell? ⟨g, 0, none⟩ = some (.int .u64 (v : Nat))) (hk : w.cell? ⟨k, 0, none⟩ = some (.int .u64 (gt xs a : Nat))) (hvl : v < U64) :
    Calls Try.prog 65 #[.slice A n c, .int .i64 (a : Nat), .func (.func 66) #[] #[.pointer (some ⟨g, 0, none⟩), .pointer (some ⟨k, 0, none⟩)]] w (RetSB n (xs.set a v) true w) := by
  obtain ⟨b, o, rfl, hb, hc⟩ := h.get ha
  obtain ⟨i0, hi, hz0, hz1, hz2⟩ := info_parts u64_info
  have hl := Lib.hid h.len
  have hb8 : i0.bytes * n ≤ 281474976710656 := by rw [hz2]; omega
  go_enter Try.func65, Try.ntmps65
  go_wp2_with (first
    | (go_at_call 63; refine (there_yes _ _ _ _ ha _).mono ?_; rintro e w' ⟨rfl, rfl⟩)
    | (go_at_call 66; refine (clo_swap_yes hv hk).mono ?_; rintro e wd ⟨rfl, m, hm⟩; have K0 : Below w.heap.size w wd := hm ▸ drewN_below w m; clear hm)
    | (at_make; refine wpList_make_full _ rfl (.tmp 29) (.tmp 29) _ rfl w.heap.size 36 i0 _ 1 Try.underlying28 hi hz0 hz1 .i64 .i64 _ _ n rfl rfl rfl rfl hb8 (by unfold maxLen; omega) K0.size ?_; intro w1 hown1 hg1; have B1 := Blk.of_made hown1; clear hown1; have K1 : Below w.heap.size w w1 := K0.grown hg1 K0.size (by simp); clear hg1; obtain ⟨w2, hcp, B2, K2⟩ := run_copy_all (P := Try.prog) Try.underlying28 u64_size h K1 (by omega) B1 K0.size K1 3; have c2 := B2.cell (i := a) (by rw [hl.out]; exact ha); have f2 := B2.frozen a))
  go_ret2
  refine ⟨_, _, rfl, ?_, ?_⟩
  · exact (B2.set_ a v).us (fit_set h.fit a hvl) (by simp [h.len]) hn
  · exact K2.setCell K0.size _
set_option maxHeartbeats 400000 in
theorem turn_swap_no {w : World} {A : Option Addr} {n c a v y g k : Nat} {xs : List Nat} (h : US w A n c xs) (ha : a < n) (hv : w.cell? ⟨g, 0, none⟩ = some (.int .u64 (v : Nat))) (hk : w.cell? ⟨k, 0, none⟩ = some (.int .u64 (y : Nat))) (hne : gt xs a ≠ y) :
    Calls Try.prog 65 #[.slice A n c, .int .i64 (a : Nat), .func (.func 66) #[] #[.pointer (some ⟨g, 0, none⟩), .pointer (some ⟨k, 0, none⟩)]] w fun e w' => e = .returned (.tuple #[.slice A n c, .bool false]) ∧ ∃ m, w' = w.drewN m := by
  obtain ⟨b, o, rfl, hb, hc⟩ := h.get ha
  go_enter Try.func65, Try.ntmps65
  go_wp2_with (first
    | (go_at_call 63; refine (there_yes _ _ _ _ ha _).mono ?_; rintro e w' ⟨rfl, rfl⟩)
    | (go_at_call 66; refine (clo_swap_no hne hv hk).mono ?_; rintro e w' ⟨rfl, m, rfl⟩))
  go_ret2
  exact ⟨rfl, _, rfl⟩
end Go.Proofs.Ytlfdekeahplidaa

