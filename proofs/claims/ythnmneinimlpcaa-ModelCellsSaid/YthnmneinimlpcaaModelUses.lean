/-
  What a claim, or a drop, of an offset's bit in the cells makes of the set that they tell; other cells than leaves say nothing. No program in it, but for words.
-/
import Derived.Test.YthnmneinimlpcaaModelFits
namespace Go.Proofs.Ythnmneinimlpcaa
open Go.RowKit
theorem US.here {w : World} {b o n c : Nat} {xs : List Nat} (h : US w (some ⟨b, o, none⟩) n c xs) {j : Nat} (hj : j < n) : w.cell? ⟨b, o + j, none⟩ = some (.int .u64 (gt xs j : Nat)) := by
  obtain ⟨b', o', e, _, hc⟩ := h.get hj
  injection e with e
  injection e with e1 e2
  subst e1 e2
  exact hc
section
variable {zs : List Int} {ys : List Nat} {M o m : Nat}
theorem uf_other {W : Nat} (hm : m < ys.length) (hM : M ≤ 32 * m) {i : Nat} (hi : i < M) : uf zs (ys.set m W) i = uf zs ys i := by
  unfold uf
  rw [gt_set hm, if_neg (by omega)]
theorem uf_claim (ho : o / 32 < ys.length) (i : Nat) : uf zs (ys.set (o / 32) (clm (gt ys (o / 32)) (o % 32))) i = ((gt ys (i / 32)).testBit (i % 32) && !hasB zs (i : Int) || decide (i = o) && !hasB zs (i : Int)) := by
  unfold uf
  rw [gt_set ho]
  by_cases e : o / 32 = i / 32
  · rw [if_pos e, clm_bit _ _ (by omega), e]
    by_cases e2 : o % 32 = i % 32
    · have e3 : i = o := by omega
      rw [decide_eq_true e2, decide_eq_true e3]
      cases (gt ys (i / 32)).testBit (i % 32) <;> cases hasB zs (i : Int) <;> rfl
    · have e3 : ¬ i = o := by omega
      rw [decide_eq_false e2, decide_eq_false e3]
      cases (gt ys (i / 32)).testBit (i % 32) <;> cases hasB zs (i : Int) <;> rfl
  · have e3 : ¬ i = o := by omega
    rw [if_neg e, decide_eq_false e3]
    cases (gt ys (i / 32)).testBit (i % 32) <;> cases hasB zs (i : Int) <;> rfl
theorem uf_drop (ho : o / 32 < ys.length) (hf : ∀ x ∈ ys, x < U64) (i : Nat) : uf zs (ys.set (o / 32) (drp (gt ys (o / 32)) (o % 32))) i = (uf zs ys i && !decide (i = o)) := by
  have hX : gt ys (o / 32) < 18446744073709551616 := gt_lt hf _
  unfold uf
  rw [gt_set ho]
  by_cases e : o / 32 = i / 32
  · rw [if_pos e, drp_bit hX (by omega) (by omega), e]
    by_cases e2 : o % 32 = i % 32
    · have e3 : i = o := by omega
      rw [decide_eq_true e2, decide_eq_true e3]
      cases (gt ys (i / 32)).testBit (i % 32) <;> cases hasB zs (i : Int) <;> rfl
    · have e3 : ¬ i = o := by omega
      rw [decide_eq_false e2, decide_eq_false e3]
      cases (gt ys (i / 32)).testBit (i % 32) <;> cases hasB zs (i : Int) <;> rfl
  · have e3 : ¬ i = o := by omega
    rw [if_neg e, decide_eq_false e3]
    cases (gt ys (i / 32)).testBit (i % 32) <;> cases hasB zs (i : Int) <;> rfl
theorem os_same {f g : Nat → Bool} {k : Nat} (h : ∀ i, i < k → f i = g i) : os f k = os g k :=
  os_congr fun i => ⟨fun ⟨h1, h2⟩ => ⟨h1, by rw [← h i h1]; exact h2⟩, fun ⟨h1, h2⟩ => ⟨h1, by rw [h i h1]; exact h2⟩⟩
theorem os_other {W : Nat} (hm : m < ys.length) (hM : M ≤ 32 * m) : os (uf zs (ys.set m W)) M = os (uf zs ys) M := os_same fun _ hi => uf_other hm hM hi
theorem os_claim_held (ho : o / 32 < ys.length) (hh : hasB zs (o : Int) = true) : os (uf zs (ys.set (o / 32) (clm (gt ys (o / 32)) (o % 32)))) M = os (uf zs ys) M :=
  os_same fun i _ => by
    rw [uf_claim ho]
    by_cases e : i = o
    · subst e; unfold uf; rw [hh]; simp
    · unfold uf; rw [decide_eq_false e]; simp
theorem os_drop_held (ho : o / 32 < ys.length) (hf : ∀ x ∈ ys, x < U64) (hh : hasB zs (o : Int) = true) : os (uf zs (ys.set (o / 32) (drp (gt ys (o / 32)) (o % 32)))) M = os (uf zs ys) M :=
  os_same fun i _ => by
    rw [uf_drop ho hf]
    by_cases e : i = o
    · subst e; unfold uf; rw [hh]; simp
    · rw [decide_eq_false e]; simp
theorem os_claim (ho : o / 32 < ys.length) (hoM : o < M) (hh : hasB zs (o : Int) = false) : os (uf zs (ys.set (o / 32) (clm (gt ys (o / 32)) (o % 32)))) M = ins (os (uf zs ys) M) (o : Int) := by
  refine (ris_os _ _).ext ((ris_os _ _).ins _) fun z => ?_
  rw [mem_ins, mem_os, mem_os]
  constructor
  · rintro ⟨i, h1, h2, rfl⟩
    rw [uf_claim ho] at h2
    by_cases e : i = o
    · exact .inl (by rw [e])
    · refine .inr ⟨i, h1, ?_, rfl⟩
      rw [decide_eq_false e] at h2
      unfold uf
      simpa using h2
  · rintro (h | ⟨i, h1, h2, rfl⟩)
    · refine ⟨o, hoM, ?_, h⟩
      rw [uf_claim ho, hh]
      simp
    · refine ⟨i, h1, ?_, rfl⟩
      rw [uf_claim ho]
      unfold uf at h2
      rw [h2, Bool.true_or]
theorem os_drop (ho : o / 32 < ys.length) (hf : ∀ x ∈ ys, x < U64) : os (uf zs (ys.set (o / 32) (drp (gt ys (o / 32)) (o % 32)))) M = del (os (uf zs ys) M) (o : Int) := by
  refine (ris_os _ _).ext ((ris_os _ _).del _) fun z => ?_
  rw [mem_del, mem_os, mem_os]
  constructor
  · rintro ⟨i, h1, h2, rfl⟩
    rw [uf_drop ho hf] at h2
    simp only [Bool.and_eq_true, Bool.not_eq_true', decide_eq_false_iff_not] at h2
    exact ⟨⟨i, h1, h2.1, rfl⟩, by omega⟩
  · rintro ⟨⟨i, h1, h2, rfl⟩, hne⟩
    refine ⟨i, h1, ?_, rfl⟩
    rw [uf_drop ho hf, h2, decide_eq_false (by omega)]
    rfl
theorem has_os (hoM : o < M) (hh : hasB zs (o : Int) = false) : hasB (os (uf zs ys) M) (o : Int) = (gt ys (o / 32)).testBit (o % 32) := by
  have e : uf zs ys o = (gt ys (o / 32)).testBit (o % 32) := by unfold uf; rw [hh]; simp
  rw [← e, Bool.eq_iff_iff, hasB_iff, mem_os]
  constructor
  · rintro ⟨i, _, h2, h3⟩
    obtain rfl : o = i := by omega
    exact h2
  · exact fun h => ⟨o, hoM, h, rfl⟩
end
end Go.Proofs.Ythnmneinimlpcaa
