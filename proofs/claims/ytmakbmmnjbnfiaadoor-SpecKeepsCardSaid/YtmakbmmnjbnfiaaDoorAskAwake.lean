/-
  The anchor of layer 10's laws answers true.
-/
import Derived.Test.YtmakbmmnjbnfiaaDoorAskSame
import Derived.Deep.WholeRow
namespace Go.Proofs.YtmakbmmnjbnfiaaDoor
open Go.RowKit
theorem much30 : Much 0 30 4 := ⟨by decide +kernel, by decide +kernel⟩
theorem w32_dec {ys : List Int} (h : (ys.all fun y => decide (0 ≤ y) && decide (y < 4294967296)) = true) : W32 ys := by
  intro y hy
  have := List.all_eq_true.1 h y hy
  simpa using this
section
variable {w : World} {lo lo2 a M m d X : Nat} {p sh wo qu tr k : Int} {A B : Option Addr} {n c : Nat} {zs ys : List Int}
theorem check_is {v : Int} (hL : Laid w) (ha : a < 4294967296) (hM : Much a p M) (h : IS .i64 lo w A n c zs) (hn : n ≤ 65536) (hs : IS .u32 lo2 w B m d ys) (hm : m ≤ 60000) (hX : X < 4294967296) (hw : W32 ys) (hv : askE a M zs k X ys = v) :
    Calls Tryd.prog 37 #[.agg #[.int .u32 a, .int .i64 p, .slice A n c, .int .i64 sh, .int .i64 wo, .int .i64 qu, .int .i64 tr], .agg #[.int .i64 k, .int .u32 (X : Int), .slice B m d]] w fun e w' => e = .returned (.int .i64 v) ∧ Below w.heap.size w w' := by
  subst hv; exact check_any hL ha hM h hn hs hm hX hw
theorem check_at {x v : Int} (hL : Laid w) (ha : a < 4294967296) (hM : Much a p M) (h : IS .i64 lo w A n c zs) (hn : n ≤ 65536) (hs : IS .u32 lo2 w B m d ys) (hm : m ≤ 60000) (hx : x = X) (hX : X < 4294967296) (hw : W32 ys) (hv : askE a M zs k X ys = v) :
    Calls Tryd.prog 37 #[.agg #[.int .u32 a, .int .i64 p, .slice A n c, .int .i64 sh, .int .i64 wo, .int .i64 qu, .int .i64 tr], .agg #[.int .i64 k, .int .u32 x, .slice B m d]] w fun e w' => e = .returned (.int .i64 v) ∧ Below w.heap.size w w' := by
  subst hx; exact check_is hL ha hM h hn hs hm hX hw hv
theorem raddrs_is {A' : Option Addr} {n' c' : Nat} {xs' : List Int} {b : Bool} (h : IS .u32 lo w A n c zs) (h' : IS .u32 lo2 w A' n' c' xs') (hn : n ≤ 65536) (hn' : n' ≤ 65536) (hb : decide (zs = xs') = b) :
    Calls Tryd.prog 39 #[.slice A n c, .slice A' n' c'] w (RetBo b w) := by
  subst hb; exact raddrs_any h h' hn hn'
theorem aw_check {X : Nat} {v k x : Int} {gA : Nat} (hL : Laid w) (h : IS .i64 0 w (some ⟨gA, 0, none⟩) 1 1 [0]) (hs : IS .u32 lo2 w B m d ys) (hm : m ≤ 60000) (hx : x = X) (hX : X < 4294967296) (hw : W32 ys) (hv : askE 0 4 [0] k X ys = v) :
    Calls Tryd.prog 37 #[.agg #[.int .u32 0, .int .i64 30, .slice (some ⟨gA, 0, none⟩) 1 1, .int .i64 1, .int .i64 1, .int .i64 1, .int .i64 1], .agg #[.int .i64 k, .int .u32 x, .slice B m d]] w fun e w' => e = .returned (.int .i64 v) ∧ Below w.heap.size w w' := by
  subst hx; exact check_is (a := 0) hL (by omega) much30 h (by omega) hs hm hX hw hv
end
end Go.Proofs.YtmakbmmnjbnfiaaDoor

