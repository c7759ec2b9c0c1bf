/-
  The walk of the law ClaimOne: for every configuration, cells and leaf it answers true.
-/
import Derived.Test.YtgpbdoegcagdaaaClaimOne1
import Derived.Test.YtgpbdoegcagdaaaClaimOne2
import Derived.Test.YtgpbdoegcagdaaaClaimOne3
namespace Go.Proofs.Ytgpbdoegcagdaaa.claimOne
open Go.RowKit
set_option linter.unusedVariables false
section
variable {w : World} {lo a m d X : Nat} {p sh wo qu tr : Int} {A B : Option Addr} {n c : Nat} {zs : List Int} {ys : List Nat}
theorem main (ha : a < 4294967296) (h0 : IS .i64 lo w A n c zs) (hU : US w B m d ys) (hX : X < 65536) :
    Calls Try.prog 3 #[.agg #[.int .u32 (a : Int), .int .i64 p, .slice A n c, .int .i64 sh, .int .i64 wo, .int .i64 qu, .int .i64 tr], .slice B m d, .int .u16 (X : Int)] w (RetBo true w) := by
  cases hb : fb (gt ys (lfO p X)) 32 with
  | false =>
    by_cases hlt : (0 : Int) + 1 < sh
    · exact nseek ha h0 hU hX hb hlt
    · exact nfirst ha h0 hU hX hb hlt
  | true =>
    by_cases ho : 2 ^ (32 - p.toNat) ≤ 32 * lfO p X + fi (gt ys (lfO p X)) 32
    · exact outs ha h0 hU hX hb ho
    · cases hb2 : fb (clm (gt ys (lfO p X)) (fi (gt ys (lfO p X)) 32)) 32 with
      | true => exact ifound ha h0 hU hX hb ho hb2
      | false =>
        by_cases hlt : (0 : Int) + 1 < sh
        · exact iseek ha h0 hU hX hb ho hb2 hlt
        · exact ifirst ha h0 hU hX hb ho hb2 hlt
end
theorem walk (a p : Int) (A : Option Addr) (n c : Nat) (z : List Int) (sh wo qu tr : Int) (B : Option Addr) (m d : Nat) (zb : List Int) (x : Int) (w : World) (wa : (Lit.int .u32 a).wf = true) (wr : IsRow .i64 w A n c z) (wb : IsRow .u64 w B m d zb) (wx : (Lit.int .u16 x).wf = true) :
    Calls Try.prog 3 #[.agg #[.int .u32 a, .int .i64 p, .slice A n c, .int .i64 sh, .int .i64 wo, .int .i64 qu, .int .i64 tr], .slice B m d, .int .u16 x] w fun e w' => e = .returned (.bool true) ∧ Below w.heap.size w w' := by
  obtain ⟨a, rfl, ha⟩ := wf_u32 wa
  obtain ⟨zs, h0, _⟩ := IS.of_row wr
  obtain ⟨ys, hU⟩ := US.of_row wb
  obtain ⟨X, rfl, hX⟩ := wf_u16 wx
  exact main ha h0 hU hX
end Go.Proofs.Ytgpbdoegcagdaaa.claimOne
