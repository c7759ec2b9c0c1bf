/-
  What slices.Contains of integers answers, and what rising, some and all of package block answer, as numbers and lists. Conditions: at most 65536 numbers.
-/
import Derived.Test.YtafdlofmgefdoaaBlockAddr
namespace Go.Proofs.Ytafdlofmgefdoaa
open Go.RowKit
theorem mem_gi {xs : List Int} {x : Int} : x ∈ xs ↔ ∃ j, j < xs.length ∧ gi xs j = x := by
  constructor
  · intro h
    obtain ⟨j, hj, e⟩ := List.getElem_of_mem h
    exact ⟨j, hj, by rw [gi_at hj]; exact e⟩
  · rintro ⟨j, hj, rfl⟩
    exact gi_mem hj
def hasB (xs : List Int) (x : Int) : Bool := decide (x ∈ xs)
section
variable {w : World} {lo : Nat} {A : Option Addr} {n c : Nat} {xs : List Int}
end
def someB (n m : Int) : Bool := decide (1 ≤ n ∧ n ≤ m)
/-- Are the numbers from lo on and below m, each greater than the one ahead of it? -/
def risB (m : Int) : Int → List Int → Bool
  | _, [] => true
  | lo, x :: r => if x < lo ∨ m ≤ x then false else risB m (x + 1) r
theorem drop_gi {xs : List Int} {k : Nat} (h : k < xs.length) : xs.drop k = gi xs k :: xs.drop (k + 1) := by
  rw [gi_at h]; exact List.drop_eq_getElem_cons h
section
variable {w : World} {lo : Nat} {A : Option Addr} {n c : Nat} {xs : List Int}
end
section
variable {w : World} {g n c : Nat} {bs : List Bool}
end
end Go.Proofs.Ytafdlofmgefdoaa

