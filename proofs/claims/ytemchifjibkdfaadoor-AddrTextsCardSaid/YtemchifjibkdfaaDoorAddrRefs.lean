/-
  What the document's own texts answer (Text, Many, May, BlockText): the world grows, and nothing that was there is otherwise.
-/
import Derived.Test.YtemchifjibkdfaaDoorAddrDec
import Derived.Deep.RegionHeld3
import Derived.BigQuiet
import Derived.Deep.QuietTactic
namespace Go.Proofs.YtemchifjibkdfaaDoor
open Go.RowKit
set_option maxRecDepth 100000 in
set_option maxHeartbeats 1000000 in
theorem rtext_any (a : Nat) (ha : a < 4294967296) (w : World) :
    Calls Tryd.prog 16 #[.int .u32 a] w fun e w' => e = .returned (S (txt a)) ∧ Below w.heap.size w w' := by
  obtain ⟨x, hx, hx2⟩ : ∃ x : Nat, (a : Int) / 16777216 = x ∧ x = a / 16777216 := ⟨a / 16777216, by omega, rfl⟩
  obtain ⟨y, hy, hy2⟩ : ∃ x : Nat, (a : Int) / 65536 % 256 = x ∧ x = a / 65536 % 256 := ⟨a / 65536 % 256, by omega, rfl⟩
  obtain ⟨z, hz, hz2⟩ : ∃ x : Nat, (a : Int) / 256 % 256 = x ∧ x = a / 256 % 256 := ⟨a / 256 % 256, by omega, rfl⟩
  obtain ⟨u, hu, hu2⟩ : ∃ x : Nat, (a : Int) % 256 = x ∧ x = a % 256 := ⟨a % 256, by omega, rfl⟩
  have D0 := fun w2 => Lib.hid (dec_any x (by omega) w2)
  have D1 := fun w2 => Lib.hid (dec_any y (by omega) w2)
  have D2 := fun w2 => Lib.hid (dec_any z (by omega) w2)
  have D3 := fun w2 => Lib.hid (dec_any u (by omega) w2)
  have da := d3_len x
  have db := d3_len y
  have dc := d3_len z
  have dd := d3_len u
  have E : (⟨(d3 x).toArray⟩ : ByteArray) ++ ⟨#[46]⟩ ++ ⟨(d3 y).toArray⟩ ++ ⟨#[46]⟩ ++ ⟨(d3 z).toArray⟩ ++ ⟨#[46]⟩ ++ ⟨(d3 u).toArray⟩ = ⟨(txt a).toArray⟩ := by
    rw [show (#[46] : Array UInt8) = [46].toArray from rfl]
    repeat rw [ByteArray.mk_append_mk]
    rw [hx2, hy2, hz2, hu2]
    simp [txt, txt4]
  clear hx2 hy2 hz2 hu2
  go_enter Tryd.func16, Tryd.ntmps16
  go_wp2_with fail
  refine ((D0 _).out).mono ?_
  rintro e w1 ⟨rfl, K1⟩
  have n1 : ¬ 9223372036854775807 < (d3 x).length + 1 := by omega
  have n1' : ¬ 9223372036854775806 < (d3 x).length := by omega
  go_wp2_with fail
  refine ((D1 _).out).mono ?_
  rintro e w2 ⟨rfl, K2⟩
  replace K2 := Below.then_ K1 K2
  have n2 : ¬ 9223372036854775807 < (d3 x).length + 1 + (d3 y).length := by omega
  have n3 : ¬ 9223372036854775807 < (d3 x).length + 1 + (d3 y).length + 1 := by omega
  have n3' : ¬ 9223372036854775806 < (d3 x).length + 1 + (d3 y).length := by omega
  go_wp2_with fail
  refine ((D2 _).out).mono ?_
  rintro e w3 ⟨rfl, K3⟩
  replace K3 := Below.then_ K2 K3
  have n4 : ¬ 9223372036854775807 < (d3 x).length + 1 + (d3 y).length + 1 + (d3 z).length := by omega
  have n5 : ¬ 9223372036854775807 < (d3 x).length + 1 + (d3 y).length + 1 + (d3 z).length + 1 := by omega
  have n5' : ¬ 9223372036854775806 < (d3 x).length + 1 + (d3 y).length + 1 + (d3 z).length := by omega
  go_wp2_with fail
  refine ((D3 _).out).mono ?_
  rintro e w4 ⟨rfl, K4⟩
  replace K4 := Below.then_ K3 K4
  have n6 : ¬ 9223372036854775807 < (d3 x).length + 1 + (d3 y).length + 1 + (d3 z).length + 1 + (d3 u).length := by omega
  go_wp2
  go_ret
  exact ⟨rfl, K4⟩
theorem many_any (p : Nat) (h1 : 16 ≤ p) (h2 : p ≤ 32) (w : World) :
    Calls Tryd.prog 29 #[.int .i64 p] w fun e w' => e = .returned (.int .i64 (2 ^ (32 - p) : Nat)) ∧ w' = w := by
  go_enter Tryd.func29, Tryd.ntmps29
  go_wp2
  go_loop [3, 4] (fun n i => ∃ j x : Nat, p ≤ j ∧ j ≤ 32 ∧ i = .int .i64 j ∧ n = .int .i64 x ∧ Hid (x * 2 ^ (32 - j) = 2 ^ (32 - p)) ∧ x ≤ 65536) (fun _ i => 32 - (intOf i).toNat)
  case atStart => exact ⟨p, 1, Nat.le_refl _, h2, rfl, rfl, by rw [Nat.one_mul]; rfl, by omega⟩
  case round =>
    obtain ⟨j, x, hj1, hj2, rfl, rfl, HX, hx⟩ := hrel
    by_cases hlt : j < 32
    · have H2 : Hid ((2 * x) * 2 ^ (32 - (j + 1)) = 2 ^ (32 - p)) := by
        have := HX.out
        rw [show 32 - j = 32 - (j + 1) + 1 by omega, Nat.pow_succ] at this
        rw [Hid, ← this, Nat.mul_comm 2 x, Nat.mul_assoc, Nat.mul_comm 2]
      have h3 : 2 * x ≤ 65536 := by
        have h4 := H2.out
        have h5 : 2 ^ (32 - p) ≤ 2 ^ 16 := Nat.pow_le_pow_right (by omega) (by omega)
        have h6 : 1 ≤ 2 ^ (32 - (j + 1)) := Nat.one_le_two_pow
        have h7 : 2 * x * 1 ≤ 2 * x * 2 ^ (32 - (j + 1)) := Nat.mul_le_mul_left _ h6
        omega
      go_wp2
      go_round
      case rel => exact ⟨j + 1, 2 * x, by omega, by omega, by go_num, by go_num, H2, h3⟩
      case measure => simp [intOf]; omega
    · obtain rfl : j = 32 := by omega
      have hx' : x = 2 ^ (32 - p) := by
        have := HX.out
        simpa using this
      go_wp2
      go_ret
      exact ⟨ret_int (by first | rfl | simp), rfl⟩
set_option maxRecDepth 100000 in
theorem rmay_any (a : Nat) (ha : a < 4294967296) (p : Int) (w : World) :
    Calls Tryd.prog 18 #[.agg #[.int .u32 a, .int .i64 p]] w fun e w' => e = .returned (.bool (mayB a p)) ∧ Below w.heap.size w w' := by
  by_cases h1 : 16 ≤ p
  · by_cases h2 : p ≤ 32
    · obtain ⟨P, rfl⟩ : ∃ P : Nat, p = P := ⟨p.toNat, by omega⟩
      obtain ⟨m, hm⟩ : ∃ m, m = 2 ^ (32 - P) := ⟨_, rfl⟩
      have hm0 : 0 < m := by rw [hm]; exact Nat.two_pow_pos _
      have hm1 : m ≤ 65536 := by
        rw [hm]
        exact Nat.pow_le_pow_right (n := 2) (j := 16) (by omega) (by omega)
      have M := fun w2 => Lib.hid (many_any P (by omega) (by omega) w2)
      have E : mayB a P = (((a % m : Nat) : Int) == 0) := by
        unfold mayB
        rw [hm, Bool.eq_iff_iff]
        simp only [Int.toNat_natCast, decide_eq_true_eq, beq_iff_eq]
        constructor
        · rintro ⟨_, _, h⟩; rw [h]; rfl
        · intro h; exact ⟨h1, h2, by exact_mod_cast h⟩
      rw [← hm] at M
      rw [E]
      clear E hm
      have t1 : (a : Int).tmod (m : Int) = ((a % m : Nat) : Int) := by rw [Int.tmod_eq_emod_of_nonneg (by omega), Int.natCast_emod]
      have t2 : (a : Int) % (m : Int) = ((a % m : Nat) : Int) := by rw [Int.natCast_emod]
      have lr : a % m < m := Nat.mod_lt _ hm0
      generalize a % m = r at *
      have t3 : ((m : Int) == 0) = false := by simp; omega
      have t4 : ¬ (m : Int) = 0 := by omega
      have t5 : IntKind.i64.wrap (r : Int) = (r : Int) := IntWalk.i64_in _ (by omega)
      go_enter Tryd.func18, Tryd.ntmps18
      go_wp2_with fail
      go_quiet ((go_at_call 29; refine Calls.quiet_of_same ((M _).out)))
      go_wp2
      go_ret
      exact ⟨rfl, below_drewN (below_alloc w _) _⟩
    · have E : mayB a p = false := by unfold mayB; simp; omega
      have e1 : decide (p ≤ 32) = false := by simpa using h2
      rw [E]
      clear E h2
      go_enter Tryd.func18, Tryd.ntmps18
      go_wp2_with fail
      go_quiet (fail)
      go_wp2
      go_ret
      exact ⟨rfl, below_drewN (below_alloc w _) _⟩
  · have E : mayB a p = false := by unfold mayB; simp; omega
    have e1 : decide (16 ≤ p) = false := by simpa using h1
    rw [E]
    clear E h1
    go_enter Tryd.func18, Tryd.ntmps18
    go_wp2_with fail
    go_quiet (fail)
    go_wp2
    go_ret
    exact ⟨rfl, below_drewN (below_alloc w _) _⟩
theorem rbtext_any (a : Nat) (ha : a < 4294967296) (p : Int) (w : World) :
    Calls Tryd.prog 10 #[.agg #[.int .u32 a, .int .i64 p]] w fun e w' => e = .returned (.tuple #[S (if mayB a p then btxt a p.toNat else []), .int .i64 (if mayB a p then 0 else 2)]) ∧ Below w.heap.size w w' := by
  cases hm : mayB a p with
  | false =>
    have T := fun w2 => Lib.hid (rmay_any a ha p w2)
    rw [hm] at T
    go_enter Tryd.func10, Tryd.ntmps10
    go_wp2_with fail
    refine ((T _).out).mono ?_
    rintro e w1 ⟨rfl, K1⟩
    clear T
    go_wp2
    go_ret2
    exact ⟨rfl, Below.then_ (below_alloc _ _) K1⟩
  | true =>
    obtain ⟨h16, h32⟩ := mayB_rng hm
    obtain ⟨P, rfl⟩ : ∃ P : Nat, p = P := ⟨p.toNat, by omega⟩
    have T := fun w2 => Lib.hid (rmay_any a ha P w2)
    rw [hm] at T
    have hb : ∀ w1, Below (w.alloc (.cells #[.int .u32 a, .int .i64 P] 24)).heap.size (w.alloc (.cells #[.int .u32 a, .int .i64 P] 24)) w1 → w1.cell? ⟨w.heap.size, 0, none⟩ = some (.int .u32 a) ∧ w1.cell? ⟨w.heap.size, 1, none⟩ = some (.int .i64 P) := by
      intro w1 K
      rw [K.cell (by simp), K.cell (by simp)]
      exact ⟨cell_of_row _ _ 0 _ _ (0, 0) (heap_alloc_new w _), cell_of_row _ _ 1 _ _ (0, 0) (heap_alloc_new w _)⟩
    go_enter Tryd.func10, Tryd.ntmps10
    go_wp2_with fail
    refine ((T _).out).mono ?_
    rintro e w1 ⟨rfl, K1⟩
    clear T
    obtain ⟨q0, q1⟩ := hb w1 K1
    clear hb
    have K2 := Below.then_ (below_alloc _ _) K1
    have hg := K1.size
    rw [World.size_alloc] at hg
    clear K1
    have n0 := txt_len a
    have n3 := d3_len P
    have n1 : ¬ 9223372036854775807 < (txt a).length + 1 := by omega
    have n1' : ¬ 9223372036854775806 < (txt a).length := by omega
    have n2 : ¬ 9223372036854775807 < (txt a).length + 1 + (d3 P).length := by omega
    go_wp2_with fail
    go_region_held3 (fun w' => w'.cell? ⟨w.heap.size, 0, none⟩ = some (.int .u32 a) ∧ w'.cell? ⟨w.heap.size, 1, none⟩ = some (.int .i64 P) ∧ Below w1.heap.size w1 w') (first | assumption | exact ⟨q0, q1, (Below.refl _ _).drew⟩ | exact s_two (by assumption) hg K')
      (first | (go_at_call 16; refine (rtext_any a ha _).mono ?_; rintro e w' ⟨rfl, K'⟩) | (go_at_call 21; refine (dec_any P (by omega) _).mono ?_; rintro e w' ⟨rfl, K'⟩))
    rename_i hS
    go_wp2
    go_ret2
    refine ⟨?_, Below.then_ K2 hS.2.2⟩
    have E : (⟨(txt a).toArray⟩ : ByteArray) ++ ⟨#[47]⟩ ++ ⟨(d3 P).toArray⟩ = ⟨(btxt a P).toArray⟩ := by
      rw [show (#[47] : Array UInt8) = [47].toArray from rfl, ByteArray.mk_append_mk, ByteArray.mk_append_mk]
      simp [btxt]
    change Ending.returned (.tuple #[.string ((⟨(txt a).toArray⟩ : ByteArray) ++ ⟨#[47]⟩ ++ ⟨(d3 P).toArray⟩), .int .i64 0]) = _
    rw [E]
end Go.Proofs.YtemchifjibkdfaaDoor
