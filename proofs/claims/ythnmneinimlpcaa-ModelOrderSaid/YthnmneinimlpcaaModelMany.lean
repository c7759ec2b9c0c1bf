/-
  Many offsets put in, or taken away, one behind the other: what is in then is told by which they were alone; in whatever order they come to the same. Addresses of a set rise as it does. No program in it.
-/
import Derived.Test.YthnmneinimlpcaaModelFits
namespace Go.Proofs.Ythnmneinimlpcaa
def ua (xs : List Int) (f : Nat → Int) : Nat → List Int
  | 0 => xs
  | k + 1 => ins (ua xs f k) (f k)
def ud (xs : List Int) (f : Nat → Int) : Nat → List Int
  | 0 => xs
  | k + 1 => del (ud xs f k) (f k)
section
variable {xs : List Int} {f g : Nat → Int} {k L : Nat}
theorem ua_ris (h : Ris xs) : Ris (ua xs f k) := by
  induction k with
  | zero => exact h
  | succ k ih => exact ih.ins _
theorem ud_ris (h : Ris xs) : Ris (ud xs f k) := by
  induction k with
  | zero => exact h
  | succ k ih => exact ih.del _
theorem mem_ua {z : Int} : z ∈ ua xs f k ↔ z ∈ xs ∨ ∃ j, j < k ∧ z = f j := by
  induction k with
  | zero => exact ⟨.inl, fun h => h.elim id fun ⟨j, hj, _⟩ => by omega⟩
  | succ k ih =>
    rw [ua, mem_ins, ih]
    constructor
    · rintro (h | h | ⟨j, hj, e⟩)
      · exact .inr ⟨k, by omega, h⟩
      · exact .inl h
      · exact .inr ⟨j, by omega, e⟩
    · rintro (h | ⟨j, hj, e⟩)
      · exact .inr (.inl h)
      · rcases Nat.lt_or_ge j k with q | q
        · exact .inr (.inr ⟨j, q, e⟩)
        · obtain rfl : j = k := by omega
          exact .inl e
theorem mem_ud {z : Int} : z ∈ ud xs f k ↔ z ∈ xs ∧ ∀ j, j < k → z ≠ f j := by
  induction k with
  | zero => exact ⟨fun h => ⟨h, fun j hj => by omega⟩, fun h => h.1⟩
  | succ k ih =>
    rw [ud, mem_del, ih]
    constructor
    · rintro ⟨⟨h, h2⟩, e⟩
      refine ⟨h, fun j hj => ?_⟩
      rcases Nat.lt_or_ge j k with q | q
      · exact h2 j q
      · obtain rfl : j = k := by omega
        exact e
    · rintro ⟨h, h2⟩
      exact ⟨⟨h, fun j hj => h2 j (by omega)⟩, h2 k (by omega)⟩
theorem ua_len : (ua xs f k).length ≤ xs.length + k := by
  induction k with
  | zero => exact Nat.le_refl _
  | succ k ih => have := len_ins (xs := ua xs f k) (f k); rw [ua]; omega
theorem ud_len : (ud xs f k).length ≤ xs.length := by
  induction k with
  | zero => exact Nat.le_refl _
  | succ k ih => have := len_del (ud xs f k) (f k); rw [ud]; omega
/-- The same, begun at another place. -/
def tn (f : Nat → Int) (t L : Nat) (j : Nat) : Int := f ((j + t) % L)
theorem tn_has {t : Nat} (z : Int) : (∃ j, j < L ∧ z = tn f t L j) ↔ ∃ j, j < L ∧ z = f j := by
  constructor
  · rintro ⟨j, hj, e⟩
    exact ⟨(j + t) % L, Nat.mod_lt _ (by omega), e⟩
  · rintro ⟨j, hj, e⟩
    refine ⟨(j + (L - t % L)) % L, Nat.mod_lt _ (by omega), ?_⟩
    have ht : t % L < L := Nat.mod_lt _ (by omega)
    have : ((j + (L - t % L)) % L + t) % L = j := by
      rw [Nat.mod_add_mod]
      have e1 : j + (L - t % L) + t = j + L * (t / L + 1) := by
        have := Nat.div_add_mod t L
        rw [Nat.mul_add, Nat.mul_one]
        omega
      rw [e1, Nat.add_mul_mod_self_left, Nat.mod_eq_of_lt hj]
    unfold tn
    rw [this]
    exact e
theorem ua_turn {t : Nat} (h : Ris xs) : ua xs (tn f t L) L = ua xs f L := (ua_ris h).ext (ua_ris h) fun z => by
  rw [mem_ua, mem_ua, tn_has]
theorem ud_turn {t : Nat} (h : Ris xs) : ud (ua xs f L) (tn f t L) L = ud xs f L := (ud_ris (ua_ris h)).ext (ud_ris h) fun z => by
  rw [mem_ud, mem_ua, mem_ud]
  have := tn_has (f := f) (t := t) (L := L) z
  constructor
  · rintro ⟨h1, h2⟩
    have h3 : ¬ ∃ j, j < L ∧ z = f j := by
      rw [← this]
      rintro ⟨j, hj, e⟩
      exact h2 j hj e
    exact ⟨h1.resolve_right h3, fun j hj e => h3 ⟨j, hj, e⟩⟩
  · rintro ⟨h1, h2⟩
    refine ⟨.inl h1, fun j hj e => ?_⟩
    obtain ⟨i, hi, e2⟩ := this.1 ⟨j, hj, e⟩
    exact h2 i hi e2
end
theorem ad_is {a M : Nat} {p x : Int} (ha : a < 4294967296) (hM : Much a p M) (h0 : 0 ≤ x) (h1 : x < M) : ad a x = (a : Int) + x := by
  have := hM.fits ha
  unfold ad
  rw [Nat.mod_eq_of_lt (by omega)]
  omega
theorem ads_rise {a M : Nat} {p : Int} {zs xs : List Int} (ha : a < 4294967296) (hM : Much a p M) (h : mayR M zs 0 xs = true) {j : Nat} (hj : j + 1 < xs.length) : gi (ads a xs) j < gi (ads a xs) (j + 1) := by
  obtain ⟨hr, hx⟩ := mayR_iff.1 h
  have e : ∀ i, i < xs.length → gi (ads a xs) i = (a : Int) + gi xs i := fun i hi => by
    have := hx _ (gi_mem hi)
    rw [← ad_is ha hM this.1 this.2.1, gi_at (by rw [ads_len]; exact hi), gi_at hi]
    unfold ads
    rw [List.getElem_map]
  rw [e j (by omega), e (j + 1) hj]
  have := hr.lt (show j < j + 1 by omega) hj
  omega
end Go.Proofs.Ythnmneinimlpcaa
