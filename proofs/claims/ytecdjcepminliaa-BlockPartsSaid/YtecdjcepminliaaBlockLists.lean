/-
  What slices.Contains of integers answers, and what rising, some and all of package block answer, as numbers and lists. Conditions: at most 65536 numbers.
-/
import Derived.Test.YtecdjcepminliaaBlockAddr
namespace Go.Proofs.Ytecdjcepminliaa
open Go.RowKit
theorem mem_gi {xs : List Int} {x : Int} : x ∈ xs ↔ ∃ j, j < xs.length ∧ gi xs j = x := by
  constructor
  · intro h
    obtain ⟨j, hj, e⟩ := List.getElem_of_mem h
    exact ⟨j, hj, by rw [gi_at hj]; exact e⟩
  · rintro ⟨j, hj, rfl⟩
    exact gi_mem hj
def hasB (xs : List Int) (x : Int) : Bool := decide (x ∈ xs)
section
variable {w : World} {lo : Nat} {A : Option Addr} {n c : Nat} {xs : List Int}
theorem index_any (h : IS .i64 lo w A n c xs) (hn : n ≤ 65536) (x : Int) :
    Calls Try.prog 29 #[.slice A n c, .int .i64 x] w fun e w' => ∃ r : Int, e = .returned (.int .i64 r) ∧ decide (0 ≤ r) = hasB xs x ∧ w' = w := by
  have hl := h.len
  go_enter Try.func29, Try.ntmps29
  go_wp2
  go_loop [8] (fun i => ∃ k : Nat, k ≤ n ∧ i = .int .i64 k ∧ Hid (∀ j, j < k → gi xs j ≠ x)) (fun i => n - (intOf i).toNat)
  case atStart => exact ⟨0, Nat.zero_le _, rfl, fun j hj => by omega⟩
  case round =>
    obtain ⟨k, hk, rfl, H⟩ := hrel
    by_cases hlt : k < n
    · obtain ⟨b, o, rfl, _, hc⟩ := h.get hlt
      by_cases he : gi xs k = x
      · have e1 : (x == gi xs k) = true := by simp [he]
        have hx : hasB xs x = true := decide_eq_true (mem_gi.2 ⟨k, by omega, he⟩)
        clear he
        go_wp2
        go_ret
        exact ⟨_, rfl, by first | omega | (rw [hx]; simp; omega) | (simp; omega), rfl⟩
      · have e1 : (x == gi xs k) = false := by simp; exact fun g => he g.symm
        have H2 : Hid (∀ j, j < k + 1 → gi xs j ≠ x) := fun j hj => by
          rcases Nat.lt_or_ge j k with g | g
          · exact H.out j g
          · obtain rfl : j = k := by omega
            exact he
        clear he
        go_wp2
        go_round
        case rel => exact ⟨k + 1, by omega, by go_num, H2⟩
        case measure => simp [intOf]; omega
    · have hx : hasB xs x = false := decide_eq_false (fun g => by
        obtain ⟨j, hj, e⟩ := mem_gi.1 g
        exact H.out j (by omega) e)
      go_wp2
      go_ret
      exact ⟨_, rfl, by first | omega | (rw [hx]; rfl) | rfl, rfl⟩
theorem contains_any (h : IS .i64 lo w A n c xs) (hn : n ≤ 65536) (x : Int) :
    Calls Try.prog 27 #[.slice A n c, .int .i64 x] w fun e w' => e = .returned (.bool (hasB xs x)) ∧ w' = w := by
  have T := Lib.hid (index_any h hn x)
  go_enter Try.func27, Try.ntmps27
  go_wp2_with fail
  refine (T.out).mono ?_
  rintro e w1 ⟨r, rfl, hr, rfl⟩
  clear T
  go_wp2
  go_ret
  exact ⟨rfl, rfl⟩
end
def someB (n m : Int) : Bool := decide (1 ≤ n ∧ n ≤ m)
theorem some_any (n m : Int) (w : World) :
    Calls Try.prog 25 #[.int .i64 n, .int .i64 m] w fun e w' => e = .returned (.bool (someB n m)) ∧ w' = w := by
  by_cases h1 : 1 ≤ n
  · have E : someB n m = decide (n ≤ m) := by unfold someB; simp [h1]
    rw [E]
    clear E
    go_enter Try.func25, Try.ntmps25
    go_wp2
    go_ret
    exact ⟨rfl, rfl⟩
  · have E : someB n m = false := by unfold someB; simp; omega
    have e1 : decide (1 ≤ n) = false := by simpa using h1
    rw [E]
    clear E h1
    go_enter Try.func25, Try.ntmps25
    go_wp2
    go_ret
    exact ⟨rfl, rfl⟩
/-- Are the numbers from lo on and below m, each greater than the one ahead of it? -/
def risB (m : Int) : Int → List Int → Bool
  | _, [] => true
  | lo, x :: r => if x < lo ∨ m ≤ x then false else risB m (x + 1) r
theorem drop_gi {xs : List Int} {k : Nat} (h : k < xs.length) : xs.drop k = gi xs k :: xs.drop (k + 1) := by
  rw [gi_at h]; exact List.drop_eq_getElem_cons h
section
variable {w : World} {lo : Nat} {A : Option Addr} {n c : Nat} {xs : List Int}
theorem rising_any (h : IS .i64 lo w A n c xs) (hn : n ≤ 65536) (m : Int) (hm : m ≤ 65536) :
    Calls Try.prog 24 #[.slice A n c, .int .i64 m] w fun e w' => e = .returned (.bool (risB m 0 xs)) ∧ w' = w := by
  have hl := h.len
  go_enter Try.func24, Try.ntmps24
  go_wp2
  go_loop [5, 10] (fun s i => ∃ (k : Nat) (l : Int), k ≤ n ∧ i = .int .i64 k ∧ s = .int .i64 l ∧ 0 ≤ l ∧ l ≤ 65536 ∧ Hid (risB m 0 xs = risB m l (xs.drop k))) (fun _ i => n - (intOf i).toNat)
  case atStart => exact ⟨0, 0, Nat.zero_le _, rfl, rfl, by omega, by omega, rfl⟩
  case round =>
    obtain ⟨k, l, hk, rfl, rfl, hl0, hl1, H⟩ := hrel
    by_cases hlt : k < n
    · obtain ⟨b, o, rfl, _, hc⟩ := h.get hlt
      have H1 := H.out
      rw [drop_gi (by omega)] at H1
      generalize gi xs k = y at *
      by_cases h1 : y < l
      · have E : risB m 0 xs = false := by rw [H1]; unfold risB; rw [if_pos (.inl h1)]
        clear H1
        go_wp2
        go_ret
        exact ⟨by first | rfl | exact ret_bool E.symm, rfl⟩
      · have h1' : decide (y < l) = false := by simpa using h1
        by_cases h2 : m ≤ y
        · have E : risB m 0 xs = false := by rw [H1]; unfold risB; rw [if_pos (.inr h2)]
          clear H1 h1
          go_wp2
          go_ret
          exact ⟨by first | rfl | exact ret_bool E.symm, rfl⟩
        · have H2 : Hid (risB m 0 xs = risB m (y + 1) (xs.drop (k + 1))) := by
            show _ = _
            rw [H1, risB, if_neg (by omega)]
          have h2' : decide (m ≤ y) = false := by simpa using h2
          have hy : 0 ≤ y + 1 ∧ y + 1 ≤ 65536 := by omega
          clear H1
          go_wp2
          go_round
          case rel => exact ⟨k + 1, y + 1, by omega, by go_num, by go_num, hy.1, hy.2, H2⟩
          case measure => simp [intOf]; omega
    · have E : risB m 0 xs = true := by
        rw [H.out, List.drop_of_length_le (by omega)]; rfl
      go_wp2
      go_ret
      exact ⟨by first | rfl | exact ret_bool E.symm, rfl⟩
end
section
variable {w : World} {g n c : Nat} {bs : List Bool}
theorem bindex_any (hb : ∀ j, j < n → w.cell? ⟨g, j, none⟩ = some (.bool (bs.getD j true))) (hl : bs.length = n) (hn : n ≤ 65536) :
    Calls Try.prog 30 #[.slice (some ⟨g, 0, none⟩) n c, .bool false] w fun e w' => ∃ r : Int, e = .returned (.int .i64 r) ∧ decide (0 ≤ r) = !(bs.all id) ∧ w' = w := by
  go_enter Try.func30, Try.ntmps30
  go_wp2
  go_loop [8] (fun i => ∃ k : Nat, k ≤ n ∧ i = .int .i64 k ∧ Hid (∀ j, j < k → bs.getD j true = true)) (fun i => n - (intOf i).toNat)
  case atStart => exact ⟨0, Nat.zero_le _, rfl, fun j hj => by omega⟩
  case round =>
    obtain ⟨k, hk, rfl, H⟩ := hrel
    by_cases hlt : k < n
    · have hc' := hb k hlt
      cases he : bs.getD k true with
      | false =>
        rw [he] at hc'
        have hx : bs.all id = false := by
          rw [Bool.eq_false_iff]
          intro g
          have := List.all_eq_true.1 g (bs[k]'(by omega)) (List.getElem_mem _)
          rw [List.getD_eq_getElem?_getD, List.getElem?_eq_getElem (by omega)] at he
          simp at he this
          rw [he] at this; cases this
        clear he hb
        go_wp2
        go_ret
        exact ⟨_, rfl, by first | omega | (rw [hx]; simp; omega) | (simp; omega), rfl⟩
      | true =>
        rw [he] at hc'
        have H2 : Hid (∀ j, j < k + 1 → bs.getD j true = true) := fun j hj => by
          rcases Nat.lt_or_ge j k with g | g
          · exact H.out j g
          · obtain rfl : j = k := by omega
            exact he
        clear he hb
        go_wp2
        go_round
        case rel => exact ⟨k + 1, by omega, by go_num, H2⟩
        case measure => simp [intOf]; omega
    · have hx : bs.all id = true := by
        rw [List.all_eq_true]
        intro b hb'
        obtain ⟨j, hj, rfl⟩ := List.getElem_of_mem hb'
        have := H.out j (by omega)
        rw [List.getD_eq_getElem?_getD, List.getElem?_eq_getElem hj] at this
        simpa using this
      go_wp2
      go_ret
      exact ⟨_, rfl, by first | omega | (rw [hx]; rfl) | rfl, rfl⟩
theorem all_any (hb : ∀ j, j < n → w.cell? ⟨g, j, none⟩ = some (.bool (bs.getD j true))) (hl : bs.length = n) (hn : n ≤ 65536) :
    Calls Try.prog 22 #[.slice (some ⟨g, 0, none⟩) n c] w fun e w' => e = .returned (.bool (bs.all id)) ∧ w' = w := by
  have C : ∀ x : Bool, Hid (Calls Try.prog 28 #[.slice (some ⟨g, 0, none⟩) n c, .bool false] w fun e w' => e = .returned (.bool (!(bs.all id))) ∧ w' = w) := by
    intro _
    have T := Lib.hid (bindex_any (c := c) hb hl hn)
    show Calls _ _ _ _ _
    go_enter Try.func28, Try.ntmps28
    go_wp2_with fail
    refine (T.out).mono ?_
    rintro e w1 ⟨r, rfl, hr, rfl⟩
    clear T
    go_wp2
    go_ret
    exact ⟨rfl, rfl⟩
  go_enter Try.func22, Try.ntmps22
  go_wp2_with fail
  refine ((C true).out).mono ?_
  rintro e w1 ⟨rfl, rfl⟩
  clear C
  go_wp2
  go_ret
  exact ⟨ret_bool (by simp), rfl⟩
end
end Go.Proofs.Ytecdjcepminliaa
