/-
  The anchor: the answers that the document fixes are given. Conditions: the variables of the library as the program's text lays them.
-/
import Derived.Test.YtemchifjibkdfaaDoorAddrParse
namespace Go.Proofs.YtemchifjibkdfaaDoor
open Go.RowKit
theorem wf_u32 {a : Int} (h : (Lit.int .u32 a).wf = true) : ∃ X : Nat, a = X ∧ X < 4294967296 := by
  have h' : 0 ≤ a ∧ a ≤ 4294967295 := by simpa [Lit.wf, IntKind.min, IntKind.max, IntKind.bits, IntKind.signed] using h
  exact ⟨a.toNat, by omega, by omega⟩
theorem pb_yes (w : World) (hw : Laid w) : Calls Tryd.prog 13 #[.string ⟨#[49, 48, 46, 48, 46, 49, 46, 48, 47, 50, 52]⟩] w fun e w' => e = .returned (.tuple #[.agg #[.int .u32 167772416, .int .i64 24], .int .i64 0]) ∧ Below w.heap.size w w' := by
  have h : parB [49, 48, 46, 48, 46, 49, 46, 48, 47, 50, 52] = some (167772416, 24) := by decide +kernel
  have := pblock_any [49, 48, 46, 48, 46, 49, 46, 48, 47, 50, 52] (by decide) w hw
  rw [h] at this
  exact this
theorem pb_no (w : World) (hw : Laid w) : Calls Tryd.prog 13 #[.string ⟨#[49, 48, 46, 48, 46, 49, 46, 49, 47, 50, 52]⟩] w fun e w' => e = .returned (.tuple #[.agg #[.int .u32 0, .int .i64 0], .int .i64 2]) ∧ Below w.heap.size w w' := by
  have h : parB [49, 48, 46, 48, 46, 49, 46, 49, 47, 50, 52] = none := by decide +kernel
  have := pblock_any [49, 48, 46, 48, 46, 49, 46, 49, 47, 50, 52] (by decide) w hw
  rw [h] at this
  exact this
theorem p_yes (w : World) : Calls Tryd.prog 11 #[.string ⟨#[50, 53, 53, 46, 48, 46, 48, 46, 57]⟩] w fun e w' => e = .returned (.tuple #[.int .u32 4278190089, .int .i64 0]) ∧ Below w.heap.size w w' := by
  have h : par [50, 53, 53, 46, 48, 46, 48, 46, 57] = some 4278190089 := by decide +kernel
  have := parse_any [50, 53, 53, 46, 48, 46, 48, 46, 57] (by decide) w
  rw [h] at this
  exact this
theorem p_no (w : World) : Calls Tryd.prog 11 #[.string ⟨#[50, 53, 53, 46, 48, 46, 48, 46, 48, 57]⟩] w fun e w' => e = .returned (.tuple #[.int .u32 0, .int .i64 2]) ∧ Below w.heap.size w w' := by
  have h : par [50, 53, 53, 46, 48, 46, 48, 46, 48, 57] = none := by decide +kernel
  have := parse_any [50, 53, 53, 46, 48, 46, 48, 46, 48, 57] (by decide) w
  rw [h] at this
  exact this
theorem bt_yes (w : World) (hw : Laid w) : Calls Tryd.prog 9 #[.agg #[.int .u32 167772416, .int .i64 24]] w fun e w' => e = .returned (.tuple #[.string ⟨#[49, 48, 46, 48, 46, 49, 46, 48, 47, 50, 52]⟩, .int .i64 0]) ∧ Below w.heap.size w w' := by
  have h : mayB 167772416 24 = true := by decide +kernel
  have g : btxt 167772416 24 = [49, 48, 46, 48, 46, 49, 46, 48, 47, 50, 52] := by decide +kernel
  have := btext_any 167772416 (by decide) 24 w hw
  rw [h] at this
  rw [show Int.toNat 24 = 24 from rfl, if_pos rfl, if_pos rfl, g] at this
  exact this
theorem bt_no (w : World) (hw : Laid w) : Calls Tryd.prog 9 #[.agg #[.int .u32 0, .int .i64 15]] w fun e w' => e = .returned (.tuple #[.string ⟨#[]⟩, .int .i64 2]) ∧ Below w.heap.size w w' := by
  have h : mayB 0 15 = false := by decide +kernel
  have := btext_any 0 (by decide) 15 w hw
  rw [h] at this
  exact this
theorem t_one (w : World) (hw : Laid w) : Calls Tryd.prog 15 #[.int .u32 1] w fun e w' => e = .returned (.string ⟨#[48, 46, 48, 46, 48, 46, 49]⟩) ∧ Below w.heap.size w w' := by
  have g : txt 1 = [48, 46, 48, 46, 48, 46, 49] := by decide +kernel
  have := text_any 1 (by decide) w hw
  rw [g] at this
  exact this
theorem m_yes (w : World) : Calls Tryd.prog 17 #[.agg #[.int .u32 167772416, .int .i64 24]] w fun e w' => e = .returned (.bool true) ∧ Below w.heap.size w w' := by
  have h : mayB 167772416 24 = true := by decide +kernel
  have := may_any 167772416 (by decide) 24 w
  rw [h] at this
  exact this
theorem m_no (w : World) : Calls Tryd.prog 17 #[.agg #[.int .u32 1, .int .i64 31]] w fun e w' => e = .returned (.bool false) ∧ Below w.heap.size w w' := by
  have h : mayB 1 31 = false := by decide +kernel
  have := may_any 1 (by decide) 31 w
  rw [h] at this
  exact this
set_option maxRecDepth 100000 in
set_option maxHeartbeats 1000000 in
theorem awake_any (w : World) (hw : Laid w) : Calls Tryd.prog 8 #[] w fun e w' => e = .returned (.bool true) ∧ Below w.heap.size w w' := by
  go_enter Tryd.func8, Tryd.ntmps8
  go_wp2_with fail
  refine (pb_yes _ hw).mono ?_
  rintro e w1 ⟨rfl, K1⟩
  have G1 := B2.new w1 (.int .u32 167772416) (.int .i64 24)
  have L1 := Below.then_ K1 (below_alloc w1 (.cells #[.int .u32 167772416, .int .i64 24] 24))
  go_wp2_with fail
  refine (pb_no _ (hw.below L1)).mono ?_
  rintro e w2 ⟨rfl, K2⟩
  have G2 := (G1.below K2).alloc (.cells #[.int .u32 0, .int .i64 0] 24)
  have L2 := Below.then_ (Below.then_ L1 K2) (below_alloc w2 (.cells #[.int .u32 0, .int .i64 0] 24))
  clear G1
  go_wp2_with fail
  refine (p_yes _).mono ?_
  rintro e w3 ⟨rfl, K3⟩
  have G3 := G2.below K3
  have L3 := Below.then_ L2 K3
  clear G2
  go_wp2_with fail
  refine (p_no _).mono ?_
  rintro e w4 ⟨rfl, K4⟩
  have G4 := G3.below K4
  have L4 := Below.then_ L3 K4
  have a0 := G4.c0
  have a1 := G4.c1
  clear G3
  go_wp2_with fail
  refine (bt_yes _ (hw.below L4)).mono ?_
  rintro e w5 ⟨rfl, K5⟩
  have G5 := G4.below K5
  have L5 := Below.then_ L4 K5
  clear G4 a0 a1
  go_wp2_with fail
  refine (bt_no _ (hw.below L5)).mono ?_
  rintro e w6 ⟨rfl, K6⟩
  have G6 := G5.below K6
  have L6 := Below.then_ L5 K6
  have a0 := G6.c0
  have a1 := G6.c1
  clear G5
  go_wp2_with fail
  refine (t_one _ (hw.below L6)).mono ?_
  rintro e w7 ⟨rfl, K7⟩
  have G7 := G6.below K7
  have L7 := Below.then_ L6 K7
  clear G6 a0 a1
  have a0 := G7.c0
  have a1 := G7.c1
  go_wp2_with fail
  refine (m_yes _).mono ?_
  rintro e w8 ⟨rfl, K8⟩
  have L8 := Below.then_ L7 K8
  go_wp2_with fail
  refine (m_no _).mono ?_
  rintro e w9 ⟨rfl, K9⟩
  have L9 := Below.then_ L8 K9
  go_wp2
  go_ret
  exact ⟨rfl, L9⟩
end Go.Proofs.YtemchifjibkdfaaDoor
