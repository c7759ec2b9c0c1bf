/-
  All offsets that aren't reserved, from k on; and what putting in, and taking away, of one offset come to. No program in it.
-/
import Derived.Test.YthnmneinimlpcaaModelFits
namespace Go.Proofs.Ythnmneinimlpcaa
/-- Those from k on that aren't reserved. -/
def dn (M : Nat) (zs : List Int) (k : Nat) : List Int := os (fun j => decide (k ≤ j) && !hasB zs (j : Int)) M
section
variable {M k j : Nat} {zs xs : List Int} {x y : Int}
theorem mem_dn {z : Int} : z ∈ dn M zs k ↔ ∃ i : Nat, i < M ∧ k ≤ i ∧ hasB zs (i : Int) = false ∧ z = (i : Int) := by
  unfold dn
  rw [mem_os]
  constructor
  · rintro ⟨i, h1, h2, h3⟩
    simp only [Bool.and_eq_true, decide_eq_true_eq, Bool.not_eq_true'] at h2
    exact ⟨i, h1, h2.1, h2.2, h3⟩
  · rintro ⟨i, h1, h2, h3, h4⟩
    exact ⟨i, h1, by simp [h2, h3], h4⟩
theorem dn_ris : Ris (dn M zs k) := ris_os _ _
theorem dn_len : (dn M zs k).length ≤ M := len_os _ _
theorem dn_may : mayR M zs 0 (dn M zs k) = true := mayR_iff.2 ⟨dn_ris, fun z hz => by
  obtain ⟨i, h1, _, h3, rfl⟩ := mem_dn.1 hz
  exact ⟨by omega, by omega, h3⟩⟩
theorem dn_none : dn M zs M = [] := dn_ris.ext Ris.nil fun z => ⟨fun h => by
  obtain ⟨i, h1, h2, _⟩ := mem_dn.1 h
  omega, fun h => by cases h⟩
theorem dn_held (h : hasB zs (j : Int) = true) : dn M zs (j + 1) = dn M zs j := dn_ris.ext dn_ris fun z => by
  rw [mem_dn, mem_dn]
  constructor
  · rintro ⟨i, h1, h2, h3⟩
    exact ⟨i, h1, by omega, h3⟩
  · rintro ⟨i, h1, h2, h3, h4⟩
    refine ⟨i, h1, ?_, h3, h4⟩
    rcases Nat.lt_or_ge j i with g | g
    · exact g
    · obtain rfl : i = j := by omega
      rw [h] at h3; cases h3
theorem dn_put (hj : j < M) (h : hasB zs (j : Int) = false) : ins (dn M zs (j + 1)) (j : Int) = dn M zs j := (dn_ris.ins _).ext dn_ris fun z => by
  rw [mem_ins, mem_dn, mem_dn]
  constructor
  · rintro (h | ⟨i, h1, h2, h3⟩)
    · exact ⟨j, hj, Nat.le_refl _, by assumption, h⟩
    · exact ⟨i, h1, by omega, h3⟩
  · rintro ⟨i, h1, h2, h3, h4⟩
    rcases Nat.lt_or_ge j i with g | g
    · exact .inr ⟨i, h1, g, h3, h4⟩
    · obtain rfl : i = j := by omega
      exact .inl h4
theorem dn_not (hj : j < M) (h : hasB zs (j : Int) = false) : fullB M zs (dn M zs (j + 1)) = false := by
  rw [Bool.eq_false_iff]
  intro g
  rcases fullB_iff.1 g j hj with e | e
  · rw [h] at e; cases e
  · obtain ⟨i, _, h2, _, h4⟩ := mem_dn.1 (hasB_iff.1 e)
    omega
theorem dn_full : fullB M zs (dn M zs 0) = true := fullB_iff.2 fun i hi => by
  cases h : hasB zs (i : Int) with
  | true => exact .inl rfl
  | false => exact .inr (hasB_iff.2 (mem_dn.2 ⟨i, hi, Nat.zero_le _, h, rfl⟩))
theorem has_ins : hasB (ins xs x) x = true := hasB_iff.2 (mem_ins.2 (.inl rfl))
theorem has_del : hasB (del xs x) x = false := by
  rw [Bool.eq_false_iff]
  intro h
  exact (mem_del.1 (hasB_iff.1 h)).2 rfl
theorem has_ins_ne (h : y ≠ x) : hasB (ins xs x) y = hasB xs y := hasB_congr (by rw [mem_ins]; exact ⟨fun g => g.resolve_left h, .inr⟩)
theorem has_del_ne (h : y ≠ x) : hasB (del xs x) y = hasB xs y := hasB_congr (by rw [mem_del]; exact ⟨fun g => g.1, fun g => ⟨g, h⟩⟩)
theorem del_ins (h : Ris xs) : del (ins xs x) x = del xs x := ((h.ins x).del x).ext (h.del x) fun z => by
  rw [mem_del, mem_ins, mem_del]
  constructor
  · rintro ⟨g | g, e⟩
    · exact absurd g e
    · exact ⟨g, e⟩
  · rintro ⟨g, e⟩
    exact ⟨.inr g, e⟩
theorem ins_del (h : Ris xs) : ins (del xs x) x = ins xs x := ((h.del x).ins x).ext (h.ins x) fun z => by
  rw [mem_ins, mem_del, mem_ins]
  constructor
  · rintro (g | g)
    · exact .inl g
    · exact .inr g.1
  · rintro (g | g)
    · exact .inl g
    · by_cases e : z = x
      · exact .inl e
      · exact .inr ⟨g, e⟩
end
end Go.Proofs.Ythnmneinimlpcaa
