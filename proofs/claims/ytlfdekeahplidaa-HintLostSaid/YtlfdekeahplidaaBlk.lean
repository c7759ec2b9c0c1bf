/-
  Blocks of memory that are known whole (the cells of a struct): what each cell holds, and that it is kept.
-/
import Derived.Test.YtlfdekeahplidaaIntMath
namespace Go.Proofs.Ytlfdekeahplidaa
open Go.RowKit
def Bk (w : World) (g : Nat) (t : TypeId) (l : Array Value) : Prop := w.heap[g]? = some (.cells l t (0, 0))
section
variable {w w' : World} {g : Nat} {t : TypeId} {l : Array Value}
theorem Bk.lt (h : Bk w g t l) : g < w.heap.size := lt_of_block h
theorem Bk.at_ (h : Bk w g t l) (i : Nat) {v : Value} (e : l[i]? = some v) : w.cell? ⟨g, i, none⟩ = some v := (cell_of_row w g i _ _ (0, 0) h).trans e
theorem Bk.fz (h : Bk w g t l) (i : Nat) : w.frozen? ⟨g, i, none⟩ = false := by
  unfold Bk at h
  simp [World.frozen?, h]
theorem Bk.below (h : Bk w g t l) (K : Below w.heap.size w w') : Bk w' g t l := (K.block g h.lt).trans h
theorem Bk.under (h : Bk w g t l) {B : Nat} (K : Below B w w') (hg : g < B) : Bk w' g t l := (K.block g hg).trans h
theorem Bk.new (w : World) (l : Array Value) (t : TypeId) : Bk (w.alloc (.cells l t)) w.heap.size t l := heap_alloc_new w _
theorem Bk.alloc (h : Bk w g t l) (o : Obj) : Bk (w.alloc o) g t l := h.below (below_alloc w o)
theorem Bk.far (h : Bk w g t l) {p : Addr} (hp : g ≠ p.block) (u : Value) : Bk (w.setCell p u) g t l := (Below.heap_setCell w p u g hp).trans h
end
end Go.Proofs.Ytlfdekeahplidaa

