/-
  What each function of package cells answers, as lists: the world grows, and nothing that was there is otherwise. Conditions: at most 65536 cells; words below 2^64.
-/
import Derived.Test.YthnmneinimlpcaaCellMath
import Derived.Laws.CopyOwn
import Derived.RegionTactic
import Derived.BigQuiet
import Derived.Deep.QuietTactic
namespace Go.Proofs.Ythnmneinimlpcaa
open Go.RowKit
def add64 (x v : Nat) : Nat := (x + v) % U64
theorem add64_lt (x v : Nat) : add64 x v < U64 := Nat.mod_lt _ (by decide)
theorem wrap_add64 (x v : Nat) : IntKind.u64.wrap ((x : Int) + (v : Int)) = (add64 x v : Nat) := by
  rw [IntKind.wrap_u64]; unfold add64 U64; omega
theorem u64_info : (Try.prog.info? 45).map (fun i => (i.zero, i.size, i.bytes)) = some (some (.int .u64 0), 1, 8) := by kernel_rfl
theorem u64_size : (Try.prog.info? 45).map (·.size) = some 1 := by kernel_rfl
theorem drewN_below (w : World) (m : Nat) : Below w.heap.size w (w.drewN m) := ⟨rfl, rfl, rfl, Nat.le_refl _, fun _ _ => rfl⟩
end Go.Proofs.Ythnmneinimlpcaa

