/-
  What the rows' lists of variables give the walks (a table of powers of ten, two errors), and a world in which all of a list is so: the one that the program's own initialisers leave.
-/
import Derived.Test.YtemchifjibkdfaaDoorAddrLib
import Derived.ProofKit
import Derived.LaidMore
import Derived.LaidSub
import Derived.MakeChecks
import Derived.LaidHandle
import Derived.Stop.LaidErr
import Derived.Lib.LaidTab
import Derived.Stop.Joined
namespace Go.Proofs.YtemchifjibkdfaaDoor
open Go.RowKit
def laidAll : List (String × DataW Unit) := Rows.addrBlocksRow.laid
theorem starName : "*" ++ "errors.errorString" = "*errors.errorString" := by decide
theorem rowErr (u : TypeId) (h : Tryd.prog.typeName? 3 u = some "*errors.errorString") : u = 96 :=
  typeName_ptr_named (nm := "errors.errorString") (by rw [starName]; kernel_rfl) (by kernel_rfl) (by decide) u (by rw [starName]; exact h)
theorem of_laid {W : World} (h0 : laidMetH Tryd.prog laidAll W) : Laid W := by
  rw [MakeChecks.laidMetH_plain _ _ _ (by kernel_rfl)] at h0
  have h1 := h0.filter (fun x => x.1 == "internal/strconv.uint64pow10")
  have h2 := h0.filter (fun x => x.1 == "strconv.ErrSyntax")
  have h3 := h0.filter (fun x => x.1 == "strconv.ErrRange")
  have e1 : laidAll.filter (fun x => x.1 == "internal/strconv.uint64pow10") = [("internal/strconv.uint64pow10", Lib.tabData .u64 Lib.pow10Tab)] := by kernel_rfl
  have e2 : laidAll.filter (fun x => x.1 == "strconv.ErrSyntax") = [("strconv.ErrSyntax", Rows.laid_strconv_ErrSyntax)] := by kernel_rfl
  have e3 : laidAll.filter (fun x => x.1 == "strconv.ErrRange") = [("strconv.ErrRange", Rows.laid_strconv_ErrRange)] := by kernel_rfl
  rw [e1] at h1
  rw [e2] at h2
  rw [e3] at h3
  have T := Lib.tabIs_of_head (P := Tryd.prog) (g := 3) (t := 87) (e := 43) (n := 20) (by kernel_rfl) (by kernel_rfl) Tryd.underlying87 Tryd.underlying43 (by kernel_rfl) (by kernel_rfl) h1
  obtain ⟨a2, _, hv2, -, -, -⟩ := laid_sentinel (P := Tryd.prog) (g := 1) (ti := 59) h2 (by kernel_rfl) (by kernel_rfl) Tryd.underlying59 rowErr Tryd.underlying96 Tryd.underlying98 rfl rfl Tryd.underlying9 (by kernel_rfl) (by kernel_rfl)
  obtain ⟨a3, _, hv3, -, -, -⟩ := laid_sentinel (P := Tryd.prog) (g := 2) (ti := 59) h3 (by kernel_rfl) (by kernel_rfl) Tryd.underlying59 rowErr Tryd.underlying96 Tryd.underlying98 rfl rfl Tryd.underlying9 (by kernel_rfl) (by kernel_rfl)
  exact ⟨T, ⟨_, _, hv2⟩, ⟨_, _, hv3⟩⟩
theorem door_met (os : Os) (args : Array Value) : laidMetH Tryd.prog laidAll ((World.doorLaid Tryd.prog 4000 os).forCall (fun _ _ => 0) ⟨#[], args, []⟩).memory :=
  laidMetH_of_parts3 (fuel := 80) (laidMet_of_run' 80 (by kernel_rfl) (by kernel_rfl)) (by kernel_rfl) (by kernel_rfl)
end Go.Proofs.YtemchifjibkdfaaDoor
