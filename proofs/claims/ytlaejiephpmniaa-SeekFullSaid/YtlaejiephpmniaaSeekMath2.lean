/-
  What a step of seeking leaves as it was; a seek, step by step: what is known of the leaves that it has passed. No program in it.
-/
import Derived.Test.YtlaejiephpmniaaSeekMath
namespace Go.Proofs.Ytlaejiephpmniaa
set_option linter.unusedVariables false
theorem skS_keep {sh : Int} {M : Nat} {ys : List Nat} {a b : Nat} {s : Sc} (hph : s.phase = 1) :
    (⟨(skS sh M ys a b s).kind, (skS sh M ys a b s).addr, (skS sh M ys a b s).err, (skS sh M ys a b s).aad, (skS sh M ys a b s).used, s.phase, (skS sh M ys a b s).shard, s.sought, s.leaf, (skS sh M ys a b s).bit, s.word, (skS sh M ys a b s).full, s.at_, (skS sh M ys a b s).tries, (skS sh M ys a b s).item, (skS sh M ys a b s).stamp⟩ : Sc) = s ∧
    ((skS sh M ys a b s).sought = s.sought ∧ (skS sh M ys a b s).phase ≠ 6 ∨ (skS sh M ys a b s).sought = s.sought + 1 ∧ ((skS sh M ys a b s).phase == 6) = decide (sh ≤ (skS sh M ys a b s).sought)) := by
  have els : ∀ s' : Sc, s'.phase = 1 → s'.sought = s.sought → ((elsS sh s').sought = s.sought + 1 ∧ ((elsS sh s').phase == 6) = decide (sh ≤ (elsS sh s').sought)) := fun s' h1 h2 => by
    unfold elsS
    split
    · refine ⟨by show s'.sought + 1 = _; rw [h2], ?_⟩
      show ((1 : Int) == 6) = decide (sh ≤ s'.sought + 1)
      rw [decide_eq_false (by omega)]; rfl
    · refine ⟨by show s'.sought + 1 = _; rw [h2], ?_⟩
      show ((6 : Int) == 6) = decide (sh ≤ s'.sought + 1)
      rw [decide_eq_true (by omega)]; rfl
  unfold skS
  split
  · unfold onS
    split
    · exact ⟨rfl, .inl ⟨rfl, by show s.phase ≠ 6; omega⟩⟩
    · refine ⟨?_, .inr (els _ hph rfl)⟩
      unfold elsS; split <;> rfl
  · split
    · exact ⟨rfl, .inl ⟨rfl, by show (2 : Int) ≠ 6; omega⟩⟩
    · unfold onS
      split
      · exact ⟨rfl, .inl ⟨rfl, by show s.phase ≠ 6; omega⟩⟩
      · refine ⟨?_, .inr (els _ hph rfl)⟩
        unfold elsS; split <;> rfl
theorem skL_keep {sh : Int} {M : Nat} {ys : List Nat} {a b : Nat} {s : Sc} {l : Ls} : (skL sh M ys a b s l).rqs = l.rqs ∧ (skL sh M ys a b s l).ads = l.ads ∧ (skL sh M ys a b s l).ers = l.ers := by
  unfold skL
  split
  · unfold onL
    split
    · exact ⟨rfl, rfl, rfl⟩
    · unfold elsL; split <;> exact ⟨rfl, rfl, rfl⟩
  · split
    · exact ⟨rfl, rfl, rfl⟩
    · unfold onL
      split
      · exact ⟨rfl, rfl, rfl⟩
      · unfold elsL; split <;> exact ⟨rfl, rfl, rfl⟩
theorem skL_nil {sh : Int} {M : Nat} {ys : List Nat} {a b : Nat} {s : Sc} : skL sh M ys a b s ⟨[], [], [], []⟩ = ⟨[], [], [], []⟩ := by
  have els : ∀ s' : Sc, elsL sh s' ⟨[], [], [], []⟩ = ⟨[], [], [], []⟩ := fun s' => by unfold elsL; split <;> rfl
  unfold skL
  split
  · unfold onL
    split
    · rfl
    · exact els _
  · split
    · rfl
    · unfold onL
      split
      · rfl
      · exact els _
end Go.Proofs.Ytlaejiephpmniaa
