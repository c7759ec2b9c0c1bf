/-
  What the document's Goes answers of an operation: gone on. Conditions: at most 65536 addresses, all the block's; Item from 0 to 65536.
-/
import Derived.Test.YtgpbdoegcagdaaaHintOn
namespace Go.Proofs.Ytgpbdoegcagdaaa
open Go.RowKit
set_option linter.unusedVariables false
theorem onward_any {w : World} {lo a M : Nat} {p sh wo qu tr : Int} {A : Option Addr} {n c : Nat} {xs : List Int} {h : Hd} {s : Sc} (ha : a < 4294967296) (hM : Much a p M) (hn : h.n0 ≤ 65536) (hI : IS .u32 lo w h.A0 h.n0 h.c0 xs) (hin : InB a M h.n0 xs) :
    Calls Try.prog 53 #[.agg #[.int .u32 a, .int .i64 p, .slice A n c, .int .i64 sh, .int .i64 wo, .int .i64 qu, .int .i64 tr], .agg (opv h s)] w (RetOp h (gon a h.n0 xs s) w) := by
  cases hf : fur h.n0 s with
  | true => unfold gon; rw [if_pos hf]; exact onward_more ha hM hn hI hin hf
  | false => unfold gon; rw [if_neg (by simp [hf])]; exact onward_end hn hf
section
variable {w : World} {lo a M : Nat} {p sh wo qu tr : Int} {A : Option Addr} {n c : Nat} {xs : List Int} {h : Hd} {s : Sc}
end
end Go.Proofs.Ytgpbdoegcagdaaa

