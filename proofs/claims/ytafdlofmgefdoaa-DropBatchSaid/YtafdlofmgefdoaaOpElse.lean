/-
  What op.Elsewhere answers: the operation in the next shard, or at the beginning of a sweep. Conditions: numbers that fit.
-/
import Derived.Test.YtafdlofmgefdoaaHintOpen
namespace Go.Proofs.Ytafdlofmgefdoaa
open Go.RowKit
set_option linter.unusedVariables false
/-- The operation whose shard has nothing: in the next one, or at the beginning of a sweep. -/
def seekS (s : Sc) : Sc := ⟨s.kind, s.addr, s.err, s.aad, s.used, 1, s.shard, s.sought + 1, s.leaf, s.bit, 0, s.full, 0, s.tries, s.item, s.stamp⟩
def firstS (s : Sc) : Sc := ⟨s.kind, s.addr, s.err, s.aad, s.used, 6, s.shard, s.sought + 1, s.leaf, s.bit, 0, s.full, 0, s.tries, s.item, s.stamp⟩
def elsS (sh : Int) (s : Sc) : Sc := if s.sought + 1 < sh then seekS s else firstS s
def elsH (sh : Int) (s : Sc) (h : Hd) : Hd := if s.sought + 1 < sh then h else ⟨h.A0, h.n0, h.c0, h.A1, h.n1, h.c1, h.A2, h.n2, h.c2, none, 0, 0⟩
def elsL (sh : Int) (s : Sc) (l : Ls) : Ls := if s.sought + 1 < sh then l else ⟨l.rqs, l.ads, l.ers, []⟩
theorem elsLists {sh : Int} {s : Sc} {lo : Nat} {w : World} {h : Hd} {l : Ls} (H : Lists lo w h l) : Lists lo w (elsH sh s h) (elsL sh s l) := by
  unfold elsH elsL
  split
  · exact H
  · exact ⟨H.i0, H.i1, H.i2, IS.none_ _ _ _⟩
section
variable {w : World} {lo a M m d lf bt : Nat} {p sh wo qu tr : Int} {A B : Option Addr} {n c : Nat} {xs : List Int} {ys : List Nat} {h : Hd} {s : Sc} {l : Ls}
end
end Go.Proofs.Ytafdlofmgefdoaa

