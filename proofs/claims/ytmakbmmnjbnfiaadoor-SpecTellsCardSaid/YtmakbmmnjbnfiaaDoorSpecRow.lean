/-
  A list that grows by append, beside another list: neither is written through the other.
-/
import Derived.Test.YtmakbmmnjbnfiaaDoorSpecLib
namespace Go.Proofs.YtmakbmmnjbnfiaaDoor
open Go.RowKit
/-- The list avoids the block in which the row v lies. -/
def OwnAv (v : Value) (A : Option Addr) (n : Nat) : Prop := ∀ g, v.ownBlock = some g → Av g A n
theorem OwnAv.nil_ (A : Option Addr) (n : Nat) : OwnAv (.slice none 0 0) A n := fun g h => by cases h
section
variable {P : Program} {k : IntKind} {t e : TypeId} {i : TypeInfo}
theorem Ri.blk {w : World} {base n : Nat} {v : Value} {xs : List Int} (h : Ri k e w base v n xs) {g : Nat} (hg : v.ownBlock = some g) : g < w.heap.size := by
  rcases h.2 with ⟨rfl, _⟩ | ⟨g', cap, cur, rfl, _, hh, _⟩
  · cases hg
  · have : g' = g := by simpa [Value.ownBlock] using hg
    subst this
    exact (Array.getElem?_eq_some_iff.1 hh).1
/-- A list that is made anew avoids the row. -/
theorem Ri.av_new {w w' : World} {base n : Nat} {v : Value} {xs : List Int} (h : Ri k e w base v n xs) {k' : IntKind} {A : Option Addr} {n' c' : Nat} {ys : List Int} (hI : IS k' w.heap.size w' A n' c' ys) : OwnAv v A n' := fun _ hg => hI.av (h.blk hg)
/-- append of one number, just laid, and what it does to another list. -/
theorem run_app1k {w : World} {base : Nat} {B : Option Addr} {m d : Nat} {ys : List Int} {x : Int} (ht : P.underlying t = some (.slice e)) (hi : P.info? e = some i) (hz : i.zero = some (.int k 0)) (hsize : i.size = 1) (hby : i.bytes = 8)
    (hown : Ri k e w base (.slice B m d) m ys) (hn : m + 1 ≤ 65536) (hbase : base ≤ w.heap.size) (ty : TypeId)
    {k' : IntKind} {lo n' c' : Nat} {A : Option Addr} {xs : List Int} (hI : IS k' lo w A n' c' xs) (hav : OwnAv (.slice B m d) A n') :
    ∃ A' c2 w', (Builtin.append_ #[t, t] ty #[.slice B m d, .slice (some ⟨w.heap.size, 0, none⟩) 1 1]).run P (w.alloc (.cells #[.int k x] e)) = .ok (.slice A' (m + 1) c2) w' ∧ Ri k e w' base (.slice A' (m + 1) c2) (m + 1) (ys ++ [x]) ∧ Below base w w' ∧ IS k' lo w' A n' c' xs ∧ OwnAv (.slice A' (m + 1) c2) A n' := by
  have K0 := below_alloc w (.cells #[.int k x] e)
  have hs := gone (k := k) (w := w.alloc (.cells #[.int k x] e)) (x := x) (g := w.heap.size) (cell_new w _ _) (by unfold maxLen; omega)
  have hI0 := hI.below K0
  have hav0 := hI.av_old (Nat.le_refl w.heap.size)
  obtain ⟨A', c2, w', hr, O, G, HO⟩ := run_append_onto (P := P) ht hi hz hsize hby (hown.below K0) hs hn (Nat.le_trans hbase K0.size) ty
  refine ⟨A', c2, w', hr, O, (K0.mono hbase).trans ((Below.refl _ _).grown G (Nat.le_trans hbase K0.size) (fun g hg => own_ge hown g hg)), hI0.keep G.size (fun b o hn' e hb => G.block b hb ?_), ?_⟩
  · intro e2
    exact hav b e2.symm hn' b o e rfl
  · intro g hg
    rcases HO with h1 | h1
    · exact hav g (h1.symm.trans hg)
    · rw [h1] at hg
      injection hg with hg
      subst hg
      exact hI.av_old (by simp)
end
end Go.Proofs.YtmakbmmnjbnfiaaDoor
