/-
  What addr.May answers, and what the document's own Many and May of blocks answer, as numbers: the world grows, and nothing that was there is otherwise.
-/
import Derived.Test.YtafdlofmgefdoaaBlk
import Derived.Deep.RegionHeld3
import Derived.BigQuiet
import Derived.Deep.QuietTactic
namespace Go.Proofs.Ytafdlofmgefdoaa
open Go.RowKit
def mayB (a : Nat) (p : Int) : Bool := decide (16 ≤ p ∧ p ≤ 32 ∧ a % 2 ^ (32 - p.toNat) = 0)
theorem mayB_rng {a : Nat} {p : Int} (h : mayB a p = true) : 16 ≤ p ∧ p ≤ 32 := by unfold mayB at h; simp at h; omega
theorem mayB_mod {a : Nat} {p : Int} (h : mayB a p = true) : a % 2 ^ (32 - p.toNat) = 0 := by unfold mayB at h; simp at h; exact h.2.2
theorem wf_u32 {a : Int} (h : (Lit.int .u32 a).wf = true) : ∃ X : Nat, a = X ∧ X < 4294967296 := by
  have h' : 0 ≤ a ∧ a ≤ 4294967295 := by simpa [Lit.wf, IntKind.min, IntKind.max, IntKind.bits, IntKind.signed] using h
  exact ⟨a.toNat, by omega, by omega⟩
theorem wf_u16 {a : Int} (h : (Lit.int .u16 a).wf = true) : ∃ X : Nat, a = X ∧ X < 65536 := by
  have h' : 0 ≤ a ∧ a ≤ 65535 := by simpa [Lit.wf, IntKind.min, IntKind.max, IntKind.bits, IntKind.signed] using h
  exact ⟨a.toNat, by omega, by omega⟩
theorem pow_cut {p : Int} (h1 : 16 ≤ p) (h2 : p ≤ 32) (a : Nat) : ((a : Int) * 2 ^ p.toNat % 4294967296 == 0) = decide (a % 2 ^ (32 - p.toNat) = 0) := by
  obtain ⟨k, hk, hk2⟩ : ∃ k : Nat, p.toNat = k ∧ k ≤ 32 := ⟨p.toNat, rfl, by omega⟩
  rw [hk]
  have e : (4294967296 : Nat) = 2 ^ (32 - k) * 2 ^ k := by rw [← Nat.pow_add, Nat.sub_add_cancel hk2]
  have e2 : ((a : Int) * 2 ^ k % 4294967296) = ((a % 2 ^ (32 - k) * 2 ^ k : Nat) : Int) := by
    rw [← Nat.mul_mod_mul_right, ← e]
    rw [Int.natCast_emod, Int.natCast_mul, Int.natCast_pow]
    rfl
  rw [e2, Bool.eq_iff_iff]
  have hp : 0 < 2 ^ k := Nat.two_pow_pos k
  simp only [beq_iff_eq, decide_eq_true_eq]
  constructor
  · intro h
    have h' : a % 2 ^ (32 - k) * 2 ^ k = 0 := by exact_mod_cast h
    rcases Nat.mul_eq_zero.1 h' with g | g
    · exact g
    · omega
  · intro h
    rw [h]; simp
theorem amay_any (a : Nat) (_ha : a < 4294967296) (p : Int) (w : World) :
    Calls Try.prog 59 #[.agg #[.int .u32 a, .int .i64 p]] w fun e w' => e = .returned (.bool (mayB a p)) ∧ Below w.heap.size w w' := by
  by_cases h1 : 16 ≤ p
  · by_cases h2 : p ≤ 32
    · have E : mayB a p = decide (a % 2 ^ (32 - p.toNat) = 0) := by unfold mayB; simp [h1, h2]
      rw [E, ← pow_cut h1 h2]
      clear E
      go_enter Try.func59, Try.ntmps59
      go_wp2
      go_ret
      exact ⟨rfl, below_alloc w _⟩
    · have E : mayB a p = false := by unfold mayB; simp; omega
      have e1 : decide (p ≤ 32) = false := by simpa using h2
      rw [E]
      clear E h2
      go_enter Try.func59, Try.ntmps59
      go_wp2
      go_ret
      exact ⟨rfl, below_alloc w _⟩
  · have E : mayB a p = false := by unfold mayB; simp; omega
    have e1 : decide (16 ≤ p) = false := by simpa using h1
    rw [E]
    clear E h1
    go_enter Try.func59, Try.ntmps59
    go_wp2
    go_ret
    exact ⟨rfl, below_alloc w _⟩
theorem rmanyp_any (p : Nat) (h1 : 16 ≤ p) (h2 : p ≤ 32) (w : World) :
    Calls Try.prog 23 #[.int .i64 p] w fun e w' => e = .returned (.int .i64 (2 ^ (32 - p) : Nat)) ∧ w' = w := by
  go_enter Try.func23, Try.ntmps23
  go_wp2
  go_loop [3, 4] (fun n i => ∃ j x : Nat, p ≤ j ∧ j ≤ 32 ∧ i = .int .i64 j ∧ n = .int .i64 x ∧ Hid (x * 2 ^ (32 - j) = 2 ^ (32 - p)) ∧ x ≤ 65536) (fun _ i => 32 - (intOf i).toNat)
  case atStart => exact ⟨p, 1, Nat.le_refl _, h2, rfl, rfl, by rw [Nat.one_mul]; rfl, by omega⟩
  case round =>
    obtain ⟨j, x, hj1, hj2, rfl, rfl, HX, hx⟩ := hrel
    by_cases hlt : j < 32
    · have H2 : Hid ((2 * x) * 2 ^ (32 - (j + 1)) = 2 ^ (32 - p)) := by
        have := HX.out
        rw [show 32 - j = 32 - (j + 1) + 1 by omega, Nat.pow_succ] at this
        rw [Hid, ← this, Nat.mul_comm 2 x, Nat.mul_assoc, Nat.mul_comm 2]
      have h3 : 2 * x ≤ 65536 := by
        have h4 := H2.out
        have h5 : 2 ^ (32 - p) ≤ 2 ^ 16 := Nat.pow_le_pow_right (by omega) (by omega)
        have h6 : 1 ≤ 2 ^ (32 - (j + 1)) := Nat.one_le_two_pow
        have h7 : 2 * x * 1 ≤ 2 * x * 2 ^ (32 - (j + 1)) := Nat.mul_le_mul_left _ h6
        omega
      go_wp2
      go_round
      case rel => exact ⟨j + 1, 2 * x, by omega, by omega, by go_num, by go_num, H2, h3⟩
      case measure => simp [intOf]; omega
    · obtain rfl : j = 32 := by omega
      have hx' : x = 2 ^ (32 - p) := by
        have := HX.out
        simpa using this
      go_wp2
      go_ret
      exact ⟨ret_int (by first | rfl | simp), rfl⟩
set_option maxRecDepth 100000 in
theorem ramay_any (a : Nat) (ha : a < 4294967296) (p : Int) (w : World) :
    Calls Try.prog 35 #[.agg #[.int .u32 a, .int .i64 p]] w fun e w' => e = .returned (.bool (mayB a p)) ∧ Below w.heap.size w w' := by
  by_cases h1 : 16 ≤ p
  · by_cases h2 : p ≤ 32
    · obtain ⟨P, rfl⟩ : ∃ P : Nat, p = P := ⟨p.toNat, by omega⟩
      obtain ⟨m, hm⟩ : ∃ m, m = 2 ^ (32 - P) := ⟨_, rfl⟩
      have hm0 : 0 < m := by rw [hm]; exact Nat.two_pow_pos _
      have hm1 : m ≤ 65536 := by
        rw [hm]
        exact Nat.pow_le_pow_right (n := 2) (j := 16) (by omega) (by omega)
      have M := fun w2 => Lib.hid (rmanyp_any P (by omega) (by omega) w2)
      have E : mayB a P = (((a % m : Nat) : Int) == 0) := by
        unfold mayB
        rw [hm, Bool.eq_iff_iff]
        simp only [Int.toNat_natCast, decide_eq_true_eq, beq_iff_eq]
        constructor
        · rintro ⟨_, _, h⟩; rw [h]; rfl
        · intro h; exact ⟨h1, h2, by exact_mod_cast h⟩
      rw [← hm] at M
      rw [E]
      clear E hm
      have t1 : (a : Int).tmod (m : Int) = ((a % m : Nat) : Int) := by rw [Int.tmod_eq_emod_of_nonneg (by omega), Int.natCast_emod]
      have t2 : (a : Int) % (m : Int) = ((a % m : Nat) : Int) := by rw [Int.natCast_emod]
      have lr : a % m < m := Nat.mod_lt _ hm0
      generalize a % m = r at *
      have t3 : ((m : Int) == 0) = false := by simp; omega
      have t4 : ¬ (m : Int) = 0 := by omega
      have t5 : IntKind.i64.wrap (r : Int) = (r : Int) := IntWalk.i64_in _ (by omega)
      go_enter Try.func35, Try.ntmps35
      go_wp2_with fail
      go_quiet ((go_at_call 23; refine Calls.quiet_of_same ((M _).out)))
      go_wp2
      go_ret
      exact ⟨rfl, below_drewN (below_alloc w _) _⟩
    · have E : mayB a p = false := by unfold mayB; simp; omega
      have e1 : decide (p ≤ 32) = false := by simpa using h2
      rw [E]
      clear E h2
      go_enter Try.func35, Try.ntmps35
      go_wp2_with fail
      go_quiet (fail)
      go_wp2
      go_ret
      exact ⟨rfl, below_drewN (below_alloc w _) _⟩
  · have E : mayB a p = false := by unfold mayB; simp; omega
    have e1 : decide (16 ≤ p) = false := by simpa using h1
    rw [E]
    clear E h1
    go_enter Try.func35, Try.ntmps35
    go_wp2_with fail
    go_quiet (fail)
    go_wp2
    go_ret
    exact ⟨rfl, below_drewN (below_alloc w _) _⟩
end Go.Proofs.Ytafdlofmgefdoaa

