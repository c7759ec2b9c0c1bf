/-
  The walk of the law WordDoes: for every word and bit it answers true.
-/
import Derived.Test.YtbipjdmaoofggaaWordAwake
namespace Go.Proofs.Ytbipjdmaoofggaa.wordDoes
open Go.RowKit
set_option maxHeartbeats 2000000 in
theorem walk (a0 : Int) (a1 : Int) (w : World) (w0 : (Lit.int .u64 a0).wf = true) (w1 : (Lit.int .u8 a1).wf = true) :
    Calls Try.prog 3 #[.int .u64 a0, .int .u8 a1] w fun e w' => e = .returned (.bool true) ∧ Below w.heap.size w w' := by
  obtain ⟨X, rfl, hX⟩ := wf_u64 w0
  obtain ⟨Y, rfl, hY⟩ := wf_u8 w1
  clear w0 w1
  obtain ⟨b, hb, hb2⟩ : ∃ b : Nat, (Y : Int) % 32 = b ∧ b < 32 := ⟨Y % 32, by omega, by omega⟩
  have C0 := fun w => Lib.hid (wfirst_any X hX w)
  have C1 := fun w => Lib.hid (rwfirst_any X hX w)
  have C2 := fun w => Lib.hid (used_any X b hX (by omega) w)
  have C3 := fun w => Lib.hid (rhas_any X b hX (by omega) w)
  have C4 := fun w => Lib.hid (changes_any X hX w)
  have C5 := fun w => Lib.hid (claim_any X b hX (by omega) w)
  have C6 := fun w => Lib.hid (rclaim_any X b hX (by omega) w)
  have C7 := fun w => Lib.hid (drop_any X b hX (by omega) w)
  have C8 := fun w => Lib.hid (rdrop_any X b hX (by omega) w)
  have C9 := fun w => Lib.hid (full_any X hX w)
  have C10 := fun w => Lib.hid (rfull_any X hX w)
  have hq := cg_lt hX
  have hq2 : (X : Int) / 4294967296 = (cg X : Nat) := by unfold cg; omega
  generalize cg X = q at *
  generalize fi X 32 = x1 at *
  generalize fb X 32 = x2 at *
  generalize X.testBit b = x3 at *
  generalize clm X b = x4 at *
  generalize drp X b = x5 at *
  generalize fl X = x6 at *
  have f1 : ((x1 : Int) == (x1 : Int)) = true := by simp
  have f2 : (x2 == x2) = true := by simp
  have f3 : (x3 == x3) = true := by simp
  have f4 : ((x4 : Int) == (x4 : Int)) = true := by simp
  have f5 : ((x5 : Int) == (x5 : Int)) = true := by simp
  have f6 : (x6 == x6) = true := by simp
  have f7 : ((q : Int) == (q : Int)) = true := by simp
  go_enter Try.func3, Try.ntmps3
  go_wp2_with fail
  refine (awake_any _).mono ?_
  rintro e w1 ⟨rfl, K⟩
  go_wp2_with (first
    | ((with_reducible refine ((C0 _).out).mono ?_); rintro e w' ⟨rfl, rfl⟩)
    | ((with_reducible refine ((C1 _).out).mono ?_); rintro e w' ⟨rfl, rfl⟩)
    | ((with_reducible refine ((C2 _).out).mono ?_); rintro e w' ⟨rfl, rfl⟩)
    | ((with_reducible refine ((C3 _).out).mono ?_); rintro e w' ⟨rfl, rfl⟩)
    | ((with_reducible refine ((C4 _).out).mono ?_); rintro e w' ⟨rfl, rfl⟩)
    | ((with_reducible refine ((C5 _).out).mono ?_); rintro e w' ⟨rfl, rfl⟩)
    | ((with_reducible refine ((C6 _).out).mono ?_); rintro e w' ⟨rfl, rfl⟩)
    | ((with_reducible refine ((C7 _).out).mono ?_); rintro e w' ⟨rfl, rfl⟩)
    | ((with_reducible refine ((C8 _).out).mono ?_); rintro e w' ⟨rfl, rfl⟩)
    | ((with_reducible refine ((C9 _).out).mono ?_); rintro e w' ⟨rfl, rfl⟩)
    | ((with_reducible refine ((C10 _).out).mono ?_); rintro e w' ⟨rfl, rfl⟩))
  go_ret
  exact ⟨rfl, K⟩
end Go.Proofs.Ytbipjdmaoofggaa.wordDoes
