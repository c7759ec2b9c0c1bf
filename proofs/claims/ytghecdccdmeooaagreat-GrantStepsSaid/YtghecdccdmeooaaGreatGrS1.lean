/-
  What the functions that these laws call answer, and what follows of it; conditions: those that each theorem names. In this file: Short.
-/
import Derived.Test.YtghecdccdmeooaaGreatRows
/-
  Short names for what these texts say often. No condition.
-/
namespace Go.Proofs.YtghecdccdmeooaaGreat
theorem sA {α : Type _} {l : List α} {i : Nat} {a : α} : l.toArray.setIfInBounds i a = (l.set i a).toArray := by simp
theorem sZ {α : Type _} {x y : α} {l : List α} : (x :: l).set 0 y = y :: l := rfl
theorem sS {α : Type _} {x y : α} {l : List α} {n : Nat} : (x :: l).set (n + 1) y = x :: l.set n y := rfl
end Go.Proofs.YtghecdccdmeooaaGreat
