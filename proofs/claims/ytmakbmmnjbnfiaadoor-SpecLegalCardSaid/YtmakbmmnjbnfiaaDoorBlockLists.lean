/-
  What slices.Contains of integers answers, and what rising, some and all of package block answer, as numbers and lists. Conditions: at most 65536 numbers.
-/
import Derived.Test.YtmakbmmnjbnfiaaDoorBlockAddr
namespace Go.Proofs.YtmakbmmnjbnfiaaDoor
open Go.RowKit
theorem mem_gi {xs : List Int} {x : Int} : x ∈ xs ↔ ∃ j, j < xs.length ∧ gi xs j = x := by
  constructor
  · intro h
    obtain ⟨j, hj, e⟩ := List.getElem_of_mem h
    exact ⟨j, hj, by rw [gi_at hj]; exact e⟩
  · rintro ⟨j, hj, rfl⟩
    exact gi_mem hj
def hasB (xs : List Int) (x : Int) : Bool := decide (x ∈ xs)
section
variable {w : World} {lo : Nat} {A : Option Addr} {n c : Nat} {xs : List Int}
theorem index_any (h : IS .i64 lo w A n c xs) (hn : n ≤ 65536) (x : Int) :
    Calls Tryd.prog 75 #[.slice A n c, .int .i64 x] w fun e w' => ∃ r : Int, e = .returned (.int .i64 r) ∧ decide (0 ≤ r) = hasB xs x ∧ w' = w := by
  have hl := h.len
  go_enter Tryd.func75, Tryd.ntmps75
  go_wp2
  go_loop [8] (fun i => ∃ k : Nat, k ≤ n ∧ i = .int .i64 k ∧ Hid (∀ j, j < k → gi xs j ≠ x)) (fun i => n - (intOf i).toNat)
  case atStart => exact ⟨0, Nat.zero_le _, rfl, fun j hj => by omega⟩
  case round =>
    obtain ⟨k, hk, rfl, H⟩ := hrel
    by_cases hlt : k < n
    · obtain ⟨b, o, rfl, _, hc⟩ := h.get hlt
      by_cases he : gi xs k = x
      · have e1 : (x == gi xs k) = true := by simp [he]
        have hx : hasB xs x = true := decide_eq_true (mem_gi.2 ⟨k, by omega, he⟩)
        clear he
        go_wp2
        go_ret
        exact ⟨_, rfl, by first | omega | (rw [hx]; simp; omega) | (simp; omega), rfl⟩
      · have e1 : (x == gi xs k) = false := by simp; exact fun g => he g.symm
        have H2 : Hid (∀ j, j < k + 1 → gi xs j ≠ x) := fun j hj => by
          rcases Nat.lt_or_ge j k with g | g
          · exact H.out j g
          · obtain rfl : j = k := by omega
            exact he
        clear he
        go_wp2
        go_round
        case rel => exact ⟨k + 1, by omega, by go_num, H2⟩
        case measure => simp [intOf]; omega
    · have hx : hasB xs x = false := decide_eq_false (fun g => by
        obtain ⟨j, hj, e⟩ := mem_gi.1 g
        exact H.out j (by omega) e)
      go_wp2
      go_ret
      exact ⟨_, rfl, by first | omega | (rw [hx]; rfl) | rfl, rfl⟩
theorem contains_any (h : IS .i64 lo w A n c xs) (hn : n ≤ 65536) (x : Int) :
    Calls Tryd.prog 70 #[.slice A n c, .int .i64 x] w fun e w' => e = .returned (.bool (hasB xs x)) ∧ w' = w := by
  have T := Lib.hid (index_any h hn x)
  go_enter Tryd.func70, Tryd.ntmps70
  go_wp2_with fail
  refine (T.out).mono ?_
  rintro e w1 ⟨r, rfl, hr, rfl⟩
  clear T
  go_wp2
  go_ret
  exact ⟨rfl, rfl⟩
end
def someB (n m : Int) : Bool := decide (1 ≤ n ∧ n ≤ m)
/-- Are the numbers from lo on and below m, each greater than the one ahead of it? -/
def risB (m : Int) : Int → List Int → Bool
  | _, [] => true
  | lo, x :: r => if x < lo ∨ m ≤ x then false else risB m (x + 1) r
theorem drop_gi {xs : List Int} {k : Nat} (h : k < xs.length) : xs.drop k = gi xs k :: xs.drop (k + 1) := by
  rw [gi_at h]; exact List.drop_eq_getElem_cons h
section
variable {w : World} {lo : Nat} {A : Option Addr} {n c : Nat} {xs : List Int}
end
section
variable {w : World} {g n c : Nat} {bs : List Bool}
end
end Go.Proofs.YtmakbmmnjbnfiaaDoor

