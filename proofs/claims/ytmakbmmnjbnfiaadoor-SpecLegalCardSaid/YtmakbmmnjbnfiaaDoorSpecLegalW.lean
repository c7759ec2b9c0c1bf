/-
  The walk of the law SpecLegal: for every configuration, list, request and answer it answers true.
-/
import Derived.Test.YtmakbmmnjbnfiaaDoorSpecLegalB
import Derived.Test.YtmakbmmnjbnfiaaDoorSpecLegalC
namespace Go.Proofs.YtmakbmmnjbnfiaaDoor.specLegal
open Go.RowKit
set_option linter.unusedVariables false
section
variable {w : World} {lo lo2 lo3 lo4 lo5 a m d q f X p1 p2 q1 q2 : Nat} {p sh wo qu tr k : Int} {A B C P Q : Option Addr} {n c : Nat} {zs xs ys : List Int} {x : An}
theorem main (hL0 : Laid w) (ha : a < 4294967296) (h0 : IS .i64 lo w A n c zs) (hs0 : IS .i64 lo2 w B m d xs) (hy0 : IS .u32 lo3 w C q f ys) (hX : X < 4294967296) (hw : W32 ys) (hA0 : IS .u32 lo4 w P p1 p2 x.2.2.2.1) (hE0 : IS .i64 lo5 w Q q1 q2 x.2.2.2.2) (hA1_ : 0 ≤ x.2.1 ∧ x.2.1 < 4294967296) :
    Calls Tryd.prog 4 #[.agg #[.int .u32 (a : Int), .int .i64 p, .slice A n c, .int .i64 sh, .int .i64 wo, .int .i64 qu, .int .i64 tr], .slice B m d, .agg #[.int .i64 k, .int .u32 (X : Int), .slice C q f], .agg #[.int .i64 x.1, .int .u32 x.2.1, .bool x.2.2.1, .slice P p1 p2, .slice Q q1 q2]] w (RetBo true w) := by
  by_cases hx0 : x.1 = 0
  · by_cases h5 : k = 5
    · exact main_C hL0 ha h0 hs0 hy0 hX hw hA0 hE0 hA1_ hx0 h5
    · exact main_B hL0 ha h0 hs0 hy0 hX hw hA0 hE0 hA1_ hx0 h5
  · exact main_A hL0 ha h0 hs0 hy0 hX hw hA0 hE0 hA1_ hx0 trivial
theorem walk (a p : Int) (A : Option Addr) (n c : Nat) (z : List Int) (sh wo qu tr : Int) (B : Option Addr) (m d : Nat) (zb : List Int) (k x : Int) (C : Option Addr) (q f : Nat) (y : List Int) (E D : Int) (U : Bool) (P : Option Addr) (p1 p2 : Nat) (g1 : List Int) (Q : Option Addr) (q1 q2 : Nat) (g2 : List Int) (w : World) (hL : Laid w) (wa : (Lit.int .u32 a).wf = true) (wr : IsRow .i64 w A n c z) (wb : IsRow .i64 w B m d zb) (wx : (Lit.int .u32 x).wf = true) (wy : IsRow .u32 w C q f y) (wd : (Lit.int .u32 D).wf = true) (w1 : IsRow .u32 w P p1 p2 g1) (w2 : IsRow .i64 w Q q1 q2 g2) :
    Calls Tryd.prog 4 #[.agg #[.int .u32 a, .int .i64 p, .slice A n c, .int .i64 sh, .int .i64 wo, .int .i64 qu, .int .i64 tr], .slice B m d, .agg #[.int .i64 k, .int .u32 x, .slice C q f], .agg #[.int .i64 E, .int .u32 D, .bool U, .slice P p1 p2, .slice Q q1 q2]] w fun e w' => e = .returned (.bool true) ∧ Below w.heap.size w w' := by
  obtain ⟨a, rfl, ha⟩ := wf_u32 wa
  obtain ⟨X, rfl, hX⟩ := wf_u32 wx
  obtain ⟨D, rfl, hD⟩ := wf_u32 wd
  obtain ⟨zs, h, _⟩ := IS.of_row wr
  obtain ⟨xs, hs, _⟩ := IS.of_row wb
  obtain ⟨ys, hy, hw⟩ := row_u32 wy
  obtain ⟨gs, hA, _⟩ := IS.of_row w1
  obtain ⟨es, hE, _⟩ := IS.of_row w2
  exact main (x := (E, (D : Int), U, gs, es)) hL ha h hs hy hX hw hA hE ⟨by show (0 : Int) ≤ (D : Int); omega, by show (D : Int) < 4294967296; omega⟩
end
end Go.Proofs.YtmakbmmnjbnfiaaDoor.specLegal
