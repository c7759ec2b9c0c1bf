/-
  The walk of the law AddrBlocks: for every address and number it answers true. Conditions: the variables of the library as the program's text lays them.
-/
import Derived.Test.YtemchifjibkdfaaDoorAddrAwake
namespace Go.Proofs.YtemchifjibkdfaaDoor.addrBlocks
open Go.RowKit
theorem div_le (a k : Nat) : a / 2 ^ k * 2 ^ k ≤ a := Nat.div_mul_le_self a _
theorem may_base (a d j : Nat) (hd : d < 17) (h1 : 16 + d ≤ j) (h2 : j ≤ 32) : mayB (a / 2 ^ (32 - (16 + d)) * 2 ^ (32 - (16 + d))) (j : Int) = true := by
  unfold mayB
  have : a / 2 ^ (32 - (16 + d)) * 2 ^ (32 - (16 + d)) % 2 ^ (32 - j) = 0 := by
    have e : 32 - (16 + d) = (32 - j) + (j - (16 + d)) := by omega
    rw [e, Nat.pow_add]
    generalize a / (2 ^ (32 - j) * 2 ^ (j - (16 + d))) = q
    rw [Nat.mul_left_comm]
    exact Nat.mul_mod_right _ _
  exact decide_eq_true ⟨by omega, by omega, by rw [Int.toNat_natCast]; exact this⟩
theorem may_self (a d : Nat) (hd : d < 17) : mayB a (16 + (d : Int)) = ((a : Int) == ((a / 2 ^ (32 - (16 + d)) * 2 ^ (32 - (16 + d)) : Nat) : Int)) := by
  unfold mayB
  have e : ((16 : Int) + (d : Int)).toNat = 16 + d := by omega
  rw [e, Bool.eq_iff_iff]
  have h := Nat.div_add_mod a (2 ^ (32 - (16 + d)))
  rw [Nat.mul_comm] at h
  simp only [decide_eq_true_eq, beq_iff_eq, Int.natCast_inj]
  constructor
  · rintro ⟨_, _, h0⟩
    rw [h0] at h
    omega
  · intro h0
    refine ⟨by omega, by omega, by omega⟩
set_option maxRecDepth 100000 in
set_option maxHeartbeats 1000000 in
theorem small (X d a : Nat) (hX : X < 256) (hd' : d < 17) (hd : (X : Int) % 17 = d) (ha : a < 4294967296) (w : World) (hw : Laid w) :
    Calls Tryd.prog 5 #[.int .u32 a, .int .u8 X] w fun e w' => e = .returned (.bool true) ∧ Below w.heap.size w w' := by
  obtain ⟨b, hb⟩ : ∃ b, b = a / 2 ^ (32 - (16 + d)) * 2 ^ (32 - (16 + d)) := ⟨_, rfl⟩
  have hle := div_le a (32 - (16 + d))
  have HM : Hid (∀ j : Nat, 16 + d ≤ j → j ≤ 32 → mayB b (j : Int) = true) := fun j h1 h2 => by rw [hb]; exact may_base a d j hd' h1 h2
  have hS := may_self a d hd'
  have hw0 : IntKind.u64.wrap ((a : Int) / 2 ^ (32 - (16 + d)) * 2 ^ (32 - (16 + d))) = (b : Int) := by
    have e : (a : Int) / 2 ^ (32 - (16 + d)) * 2 ^ (32 - (16 + d)) = (b : Int) := by
      rw [hb, Int.natCast_mul, Int.natCast_ediv, Int.natCast_pow]
      rfl
    rw [e, IntKind.wrap_u64]
    omega
  rw [← hb] at hS hle
  clear hb
  have hbl : b < 4294967296 := by omega
  have M1 := fun w2 => Lib.hid (may_any b hbl (16 + (d : Int)) w2)
  have M2 := fun w2 => Lib.hid (may_any a ha (16 + (d : Int)) w2)
  have M3 := fun w2 => Lib.hid (may_any 0 (by omega) 15 w2)
  have M4 := fun w2 => Lib.hid (may_any 0 (by omega) 33 w2)
  have e1 : mayB b (16 + (d : Int)) = true := HM.out (16 + d) (by omega) (by omega)
  have e3 : mayB 0 15 = false := by decide
  have e4 : mayB 0 33 = false := by decide
  rw [e1] at M1
  rw [hS] at M2
  rw [e3] at M3
  rw [e4] at M4
  clear e1 e3 e4 hS
  go_enter Tryd.func5, Tryd.ntmps5
  go_wp2_with fail
  refine (awake_any _ hw).mono ?_
  rintro e w1 ⟨rfl, K1⟩
  go_wp2_with fail
  refine ((M1 _).out).mono ?_
  rintro e w2 ⟨rfl, K2⟩
  replace K2 := Below.then_ K1 K2
  clear M1
  go_wp2_with fail
  refine ((M2 _).out).mono ?_
  rintro e w3 ⟨rfl, K3⟩
  replace K3 := Below.then_ K2 K3
  clear M2 hw0
  go_wp2
  go_loopw [7] (fun i wr => ∃ j : Nat, 16 + d ≤ j ∧ j ≤ 33 ∧ i = .int .i64 j ∧ Below w.heap.size w wr) (fun i _ => 33 - (intOf i).toNat)
  case atStart => exact ⟨16 + d, by omega, by omega, by go_num, K3⟩
  case round =>
    obtain ⟨j, hj1, hj2, rfl, Kr⟩ := hrel
    by_cases hlt : j ≤ 32
    · have M5 := fun w2 => Lib.hid (may_any b hbl (j : Int) w2)
      rw [HM.out j hj1 hlt] at M5
      go_wp2_with fail
      refine ((M5 _).out).mono ?_
      rintro e w5 ⟨rfl, K5⟩
      clear M5
      go_wp2
      go_roundw
      case rel => exact ⟨j + 1, by omega, by omega, by go_num, Below.then_ Kr K5⟩
      case measure => simp [intOf]; omega
    · go_wp2_with fail
      refine ((M3 _).out).mono ?_
      rintro e w5 ⟨rfl, K5⟩
      go_wp2_with fail
      refine ((M4 _).out).mono ?_
      rintro e w6 ⟨rfl, K6⟩
      go_wp2
      go_ret
      exact ⟨rfl, Below.then_ (Below.then_ Kr K5) K6⟩
theorem walk (a0 a1 : Int) (w : World) (w0 : (Lit.int .u32 a0).wf = true) (w1 : (Lit.int .u8 a1).wf = true) (hw : Laid w) :
    Calls Tryd.prog 5 #[.int .u32 a0, .int .u8 a1] w fun e w' => e = .returned (.bool true) ∧ Below w.heap.size w w' := by
  obtain ⟨a, rfl, ha⟩ := wf_u32 w0
  obtain ⟨X, rfl, hX⟩ := wf_u8 w1
  exact small X (X % 17) a hX (by omega) (by omega) ha w hw
end Go.Proofs.YtemchifjibkdfaaDoor.addrBlocks
