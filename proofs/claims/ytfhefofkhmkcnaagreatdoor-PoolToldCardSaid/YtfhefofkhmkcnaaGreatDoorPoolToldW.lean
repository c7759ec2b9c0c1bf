/-
  The law PoolTold, over whatever comes in. No condition beside the statement's own.
-/
import Derived.Test.YtfhefofkhmkcnaaGreatDoorPoolTold
namespace Go.Proofs.YtfhefofkhmkcnaaGreatDoor.poolTold
open Go.RowKit
set_option linter.unusedVariables false
theorem walk (h : Hd) (s : Sc) (z0 z1 z2 z3 : List Int) (u : Int) (w : World) (hW : Laid w) (ww : s.word < 18446744073709551616) (r0 : IsRow .u32 w h.A0 h.n0 h.c0 z0) (r1 : IsRow .u32 w h.A1 h.n1 h.c1 z1) (r2 : IsRow .i64 w h.A2 h.n2 h.c2 z2) (r3 : IsRow .u64 w h.A3 h.n3 h.c3 z3) (wu : (Lit.int .u8 u).wf = true) :
    Calls Tryz.prog 6 #[.agg (opv h s), .int .u8 u] w fun e w' => e = .returned (.bool true) ∧ Below w.heap.size w w' := by
  obtain ⟨x0, i0, _⟩ := IS.of_row r0
  obtain ⟨x1, i1, _⟩ := IS.of_row r1
  obtain ⟨x2, i2, _⟩ := IS.of_row r2
  obtain ⟨x3, i3, _⟩ := IS.of_row r3
  obtain ⟨HH, rfl, hHH⟩ := wf_u8 wu
  exact main (l := ⟨x0, x1, x2, x3⟩) poolSays hW ⟨i0, i1, i2, i3⟩ hHH
end Go.Proofs.YtfhefofkhmkcnaaGreatDoor.poolTold
