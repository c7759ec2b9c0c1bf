/-
  The law PoolMost, over whatever comes in. No condition beside the statement's own.
-/
import Derived.Test.YtfhefofkhmkcnaaGreatDoorPoolMost
namespace Go.Proofs.YtfhefofkhmkcnaaGreatDoor.poolMost
open Go.RowKit
set_option linter.unusedVariables false
theorem walk (a p : Int) (A : Option Addr) (n c : Nat) (z : List Int) (sh wo qu tr : Int) (kd x : Int) (A0 : Option Addr) (n0 c0 : Nat) (zx : List Int) (w : World) (hW : Laid w) (wa : (Lit.int .u32 a).wf = true) (wr : IsRow .i64 w A n c z) (wx : (Lit.int .u32 x).wf = true) (wxs : IsRow .u32 w A0 n0 c0 zx) :
    Calls Tryz.prog 5 #[.agg #[.int .u32 a, .int .i64 p, .slice A n c, .int .i64 sh, .int .i64 wo, .int .i64 qu, .int .i64 tr], .agg #[.int .i64 kd, .int .u32 x, .slice A0 n0 c0]] w fun e w' => e = .returned (.bool true) ∧ Below w.heap.size w w' := by
  obtain ⟨a, rfl, ha⟩ := wf_u32 wa
  obtain ⟨zs, h0, _⟩ := IS.of_row wr
  obtain ⟨X, rfl, hX⟩ := wf_u32 wx
  obtain ⟨xs, hs, hw⟩ := row_w32 wxs
  exact main poolSays hW ha h0 hs hX hw
end Go.Proofs.YtfhefofkhmkcnaaGreatDoor.poolMost
