/-
  The law PoolOne, over whatever comes in. No condition beside the statement's own.
-/
import Derived.Test.YtfhefofkhmkcnaaGreatDoorPoolOne
namespace Go.Proofs.YtfhefofkhmkcnaaGreatDoor.poolOne
open Go.RowKit
set_option linter.unusedVariables false
theorem walk (a p : Int) (A : Option Addr) (n c : Nat) (z : List Int) (sh wo qu tr : Int) (u : Int) (kd x : Int) (A0 : Option Addr) (n0 c0 : Nat) (zx : List Int) (E : Option Addr) (k q : Nat) (ze : List Int) (E2 : Option Addr) (k2 q2 : Nat) (ze2 : List Int) (w : World) (hW : Laid w) (wa : (Lit.int .u32 a).wf = true) (wr : IsRow .i64 w A n c z) (wu : (Lit.int .u8 u).wf = true) (wx : (Lit.int .u32 x).wf = true) (wxs : IsRow .u32 w A0 n0 c0 zx) (we : IsRow .u32 w E k q ze) (we2 : IsRow .u32 w E2 k2 q2 ze2) :
    Calls Tryz.prog 3 #[.agg #[.int .u32 a, .int .i64 p, .slice A n c, .int .i64 sh, .int .i64 wo, .int .i64 qu, .int .i64 tr], .int .u8 u, .agg #[.int .i64 kd, .int .u32 x, .slice A0 n0 c0], .slice E k q, .slice E2 k2 q2] w fun e w' => e = .returned (.bool true) ∧ Below w.heap.size w w' := by
  obtain ⟨a, rfl, ha⟩ := wf_u32 wa
  obtain ⟨zs, h0, _⟩ := IS.of_row wr
  obtain ⟨HH, rfl, hHH⟩ := wf_u8 wu
  obtain ⟨X, rfl, hX⟩ := wf_u32 wx
  obtain ⟨xs, hs, hw⟩ := row_w32 wxs
  obtain ⟨es, hE, he⟩ := IS.of_row we
  obtain ⟨es2, hE2, he2⟩ := IS.of_row we2
  exact main poolSays legSays hW ha h0 hs hX hw hHH hE he hE2 he2
end Go.Proofs.YtfhefofkhmkcnaaGreatDoor.poolOne
