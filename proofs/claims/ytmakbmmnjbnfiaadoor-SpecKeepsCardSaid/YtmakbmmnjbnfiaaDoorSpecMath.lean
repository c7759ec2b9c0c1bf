/-
  What is right at once, as numbers and lists: what a right request comes to, which answers are right. No program stands here.
-/
import Derived.Test.YtmakbmmnjbnfiaaDoorSpecModel
namespace Go.Proofs.YtmakbmmnjbnfiaaDoor
open Go.RowKit
/-- An answer: the error, the address, whether used, the addresses, the errors. -/
abbrev An := Int × Int × Bool × List Int × List Int
def an0 (e : Int) : An := (e, 0, false, [], [])
def okA (x : Int) : An := (0, x, false, [], [])
/-- Neither reserved nor in the set. -/
def fr (hs xs : List Int) (i : Nat) : Bool := !hasB hs (i : Int) && !hasB xs (i : Int)
/-- The least offset that can be. -/
def lea (hs xs : List Int) (M : Nat) : Option Nat := (List.range M).find? (fr hs xs)
/-- What is told of a release. -/
def reE (xs : List Int) (o : Int) : Int := if hasB xs o = true then 0 else 6
/-- A batch: the set behind it, and what is told of each. -/
def batS (a M : Nat) : List Int → List Int → List Int
  | xs, [] => xs
  | xs, y :: r => batS a M (del xs (ofO a M y.toNat)) r
def batE (a M : Nat) : List Int → List Int → List Int
  | _, [] => []
  | xs, y :: r => reE xs (ofO a M y.toNat) :: batE a M (del xs (ofO a M y.toNat)) r
/-- What a right request comes to. -/
def doS (a M : Nat) (zs xs : List Int) (k : Int) (X : Nat) (ys : List Int) : List Int × An :=
  if k = 1 then (match lea zs xs M with | some o => (ins xs (o : Int), okA ((a + o : Nat) : Int)) | none => (xs, an0 9))
  else if k = 2 then (if hasB xs (ofO a M X) = true then (xs, an0 5) else (ins xs (ofO a M X), okA (X : Int)))
  else if k = 3 then (del xs (ofO a M X), an0 (reE xs (ofO a M X)))
  else if k = 4 then (batS a M xs ys, (0, 0, false, [], batE a M xs ys))
  else if k = 5 then (xs, (0, 0, hasB xs (ofO a M X), [], []))
  else if k = 6 then (xs, (0, 0, false, ads a xs, []))
  else (xs, an0 0)
def someS (a M : Nat) (zs xs : List Int) (k : Int) (X : Nat) (ys : List Int) : List Int × An :=
  if askE a M zs k X ys = 0 then doS a M zs xs k X ys else (xs, an0 (askE a M zs k X ys))
/-- Does the answer put the request off? -/
def putO (k : Int) (x : An) : Bool := decide ((x.1 = 10 ∨ x.1 = 12 ∨ (x.1 = 11 ∧ k = 6)) ∧ x = an0 x.1)
/-- The request with nothing left to choose. -/
def stS (a M : Nat) (zs xs : List Int) (k : Int) (X : Nat) (ys : List Int) (x : An) : List Int × An :=
  if k = 1 ∧ x.1 = 0 then someS a M zs xs 2 x.2.1.toNat [] else someS a M zs xs k X ys
/-- Is the answer right, and the set then. -/
def legS (a M : Nat) (zs xs : List Int) (k : Int) (X : Nat) (ys : List Int) (x : An) : List Int × Bool :=
  if putO k x = true then (xs, true) else if x = (stS a M zs xs k X ys x).2 then ((stS a M zs xs k X ys x).1, true) else (xs, false)
/-- The same as the document says it. -/
def doR (a M : Nat) (zs xs : List Int) (k : Int) (X : Nat) (ys : List Int) (x : An) : List Int × Bool :=
  if k = 1 then (if x = an0 9 then (xs, fullB M zs xs) else if x = okA x.2.1 ∧ fiE a M x.2.1.toNat zs = 0 ∧ hasB xs (fiO a M x.2.1.toNat zs) = false then (ins xs (fiO a M x.2.1.toNat zs), true) else (xs, false))
  else if k = 2 then (if hasB xs (ofO a M X) = true then (xs, decide (x = an0 5)) else if x = okA (X : Int) then (ins xs (ofO a M X), true) else (xs, false))
  else if k = 3 then (if hasB xs (ofO a M X) = false then (xs, decide (x = an0 6)) else if x = an0 0 then (del xs (ofO a M X), true) else (xs, false))
  else if k = 4 then (if x = (0, 0, false, [], batE a M xs ys) then (batS a M xs ys, true) else (xs, false))
  else if k = 5 then (xs, decide (x = (0, 0, hasB xs (ofO a M X), [], [])))
  else if k = 6 then (xs, decide (x = an0 11 ∨ x = (0, 0, false, ads a xs, [])))
  else (xs, decide (x = an0 0))
def legR (a M : Nat) (zs xs : List Int) (k : Int) (X : Nat) (ys : List Int) (x : An) : List Int × Bool :=
  if x = an0 10 ∨ x = an0 12 then (xs, true)
  else if askE a M zs k X ys = 0 then doR a M zs xs k X ys x else (xs, decide (x = an0 (askE a M zs k X ys)))
section
variable {a M : Nat} {zs xs : List Int}
theorem fr_iff {i : Nat} : fr zs xs i = true ↔ hasB zs (i : Int) = false ∧ hasB xs (i : Int) = false := by unfold fr; cases hasB zs (i : Int) <;> cases hasB xs (i : Int) <;> simp
theorem lea_some {o : Nat} (h : o < M) (hf : fr zs xs o = true) (hb : ∀ i, i < o → fr zs xs i = false) : lea zs xs M = some o := by
  unfold lea
  rw [List.find?_range_eq_some]
  exact ⟨hf, List.mem_range.2 h, fun j hj => by rw [hb j hj]; rfl⟩
theorem lea_none (hb : ∀ i, i < M → fr zs xs i = false) : lea zs xs M = none := by
  unfold lea
  rw [List.find?_eq_none]
  intro i hi
  rw [hb i (List.mem_range.1 hi)]; simp
theorem lea_is {o : Nat} (h : lea zs xs M = some o) : o < M ∧ fr zs xs o = true ∧ ∀ i, i < o → fr zs xs i = false := by
  unfold lea at h
  rw [List.find?_range_eq_some] at h
  exact ⟨List.mem_range.1 h.2.1, h.1, fun i hi => by simpa using h.2.2 i hi⟩
theorem lea_full : lea zs xs M = none ↔ fullB M zs xs = true := by
  rw [fullB_iff]
  constructor
  · intro h i hi
    unfold lea at h
    rw [List.find?_eq_none] at h
    have := h i (List.mem_range.2 hi)
    unfold fr at this
    cases h1 : hasB zs (i : Int) <;> cases h2 : hasB xs (i : Int) <;> simp_all
  · intro h
    refine lea_none fun i hi => ?_
    unfold fr
    rcases h i hi with h | h <;> simp [h]
theorem lea_not {o : Nat} (h : lea zs xs M = some o) : fullB M zs xs = false := by
  cases hf : fullB M zs xs with
  | false => rfl
  | true => rw [lea_full.2 hf] at h; cases h
theorem an0_ne {e e' : Int} (h : e ≠ e') : an0 e ≠ an0 e' := by intro g; exact h (congrArg Prod.fst g)
theorem ofO_in {x : Nat} (h : a ≤ x ∧ x < a + M) : ofO a M x = ((x - a : Nat) : Int) := by unfold ofO; rw [if_pos h]
theorem fiE_zero {x : Nat} (h : fiE a M x zs = 0) : (a ≤ x ∧ x < a + M) ∧ hasB zs ((x - a : Nat) : Int) = false ∧ fiO a M x zs = ofO a M x := by
  unfold fiE at h
  split at h
  · rename_i hx
    split at h
    · omega
    · rename_i hz
      have hz : hasB zs ((x - a : Nat) : Int) = false := by simpa using hz
      refine ⟨hx, hz, ?_⟩
      unfold fiO
      rw [if_pos ⟨hx.1, hx.2, hz⟩, ofO_in hx]
  · omega
theorem askE_free {k x : Int} {ys : List Int} (h : k = 1 ∨ k = 6 ∨ k = 7) : askE a M zs k x ys = 0 := by
  unfold askE
  rw [if_pos (by omega), if_neg (by omega), if_neg (by omega), nmI_none (by omega) (by omega)]
  rfl
theorem reE_rng (o : Int) : reE xs o = 0 ∨ reE xs o = 6 := by unfold reE; split <;> simp
theorem leg_bad {k : Int} {X : Nat} {ys : List Int} {x : An} (hp : putO k x = false) (hs : ¬ (k = 1 ∧ x.1 = 0)) (he : askE a M zs k X ys ≠ 0) : legS a M zs xs k X ys x = (xs, decide (x = an0 (askE a M zs k X ys))) := by
  unfold legS stS someS
  rw [if_neg (by simp [hp]), if_neg hs, if_neg he]
  by_cases hx : x = an0 (askE a M zs k X ys)
  · rw [if_pos hx]; simp [hx]
  · rw [if_neg hx]; simp [hx]
theorem leg_do {k : Int} {X : Nat} {ys : List Int} {x : An} (hp : putO k x = false) (hs : ¬ (k = 1 ∧ x.1 = 0)) (he : askE a M zs k X ys = 0) : legS a M zs xs k X ys x = if x = (doS a M zs xs k X ys).2 then ((doS a M zs xs k X ys).1, true) else (xs, false) := by
  unfold legS stS someS
  rw [if_neg (by simp [hp]), if_neg hs, if_pos he]
theorem putO_no {k : Int} {x : An} (hp : putO k x = false) {e : Int} (h : e = 10 ∨ e = 12 ∨ (e = 11 ∧ k = 6)) : x ≠ an0 e := by
  rintro rfl
  unfold putO at hp
  have : decide (((an0 e).1 = 10 ∨ (an0 e).1 = 12 ∨ ((an0 e).1 = 11 ∧ k = 6)) ∧ an0 e = an0 (an0 e).1) = true := decide_eq_true ⟨h, rfl⟩
  rw [this] at hp; cases hp
theorem one_ne {x : An} {e : Int} (he : e ≠ 0) (h : x.1 = 0) : x ≠ an0 e := by rintro rfl; exact he h
section
variable {X : Nat} {ys : List Int} {x : An}
theorem doR_1 : doR a M zs xs 1 X ys x = (if x = an0 9 then (xs, fullB M zs xs) else if x = okA x.2.1 ∧ fiE a M x.2.1.toNat zs = 0 ∧ hasB xs (fiO a M x.2.1.toNat zs) = false then (ins xs (fiO a M x.2.1.toNat zs), true) else (xs, false)) := by unfold doR; rw [if_pos rfl]
theorem doS_1 : doS a M zs xs 1 X ys = (match lea zs xs M with | some o => (ins xs (o : Int), okA ((a + o : Nat) : Int)) | none => (xs, an0 9)) := by unfold doS; rw [if_pos rfl]
theorem doR_2 : doR a M zs xs 2 X ys x = (if hasB xs (ofO a M X) = true then (xs, decide (x = an0 5)) else if x = okA (X : Int) then (ins xs (ofO a M X), true) else (xs, false)) := by unfold doR; rw [if_neg (by omega), if_pos rfl]
theorem doS_2 : doS a M zs xs 2 X ys = (if hasB xs (ofO a M X) = true then (xs, an0 5) else (ins xs (ofO a M X), okA (X : Int))) := by unfold doS; rw [if_neg (by omega), if_pos rfl]
theorem doR_3 : doR a M zs xs 3 X ys x = (if hasB xs (ofO a M X) = false then (xs, decide (x = an0 6)) else if x = an0 0 then (del xs (ofO a M X), true) else (xs, false)) := by unfold doR; rw [if_neg (by omega), if_neg (by omega), if_pos rfl]
theorem doS_3 : doS a M zs xs 3 X ys = (del xs (ofO a M X), an0 (reE xs (ofO a M X))) := by unfold doS; rw [if_neg (by omega), if_neg (by omega), if_pos rfl]
theorem doR_4 : doR a M zs xs 4 X ys x = (if x = (0, 0, false, [], batE a M xs ys) then (batS a M xs ys, true) else (xs, false)) := by unfold doR; rw [if_neg (by omega), if_neg (by omega), if_neg (by omega), if_pos rfl]
theorem doS_4 : doS a M zs xs 4 X ys = (batS a M xs ys, (0, 0, false, [], batE a M xs ys)) := by unfold doS; rw [if_neg (by omega), if_neg (by omega), if_neg (by omega), if_pos rfl]
theorem doR_5 : doR a M zs xs 5 X ys x = ((xs, decide (x = (0, 0, hasB xs (ofO a M X), [], [])))) := by unfold doR; rw [if_neg (by omega), if_neg (by omega), if_neg (by omega), if_neg (by omega), if_pos rfl]
theorem doS_5 : doS a M zs xs 5 X ys = (xs, (0, 0, hasB xs (ofO a M X), [], [])) := by unfold doS; rw [if_neg (by omega), if_neg (by omega), if_neg (by omega), if_neg (by omega), if_pos rfl]
theorem doR_6 : doR a M zs xs 6 X ys x = ((xs, decide (x = an0 11 ∨ x = (0, 0, false, ads a xs, [])))) := by unfold doR; rw [if_neg (by omega), if_neg (by omega), if_neg (by omega), if_neg (by omega), if_neg (by omega), if_pos rfl]
theorem doS_6 : doS a M zs xs 6 X ys = (xs, (0, 0, false, ads a xs, [])) := by unfold doS; rw [if_neg (by omega), if_neg (by omega), if_neg (by omega), if_neg (by omega), if_neg (by omega), if_pos rfl]
theorem doR_7 : doR a M zs xs 7 X ys x = ((xs, decide (x = an0 0))) := by unfold doR; rw [if_neg (by omega), if_neg (by omega), if_neg (by omega), if_neg (by omega), if_neg (by omega), if_neg (by omega)]
theorem doS_7 : doS a M zs xs 7 X ys = (xs, an0 0) := by unfold doS; rw [if_neg (by omega), if_neg (by omega), if_neg (by omega), if_neg (by omega), if_neg (by omega), if_neg (by omega)]
end
theorem leg_ex {X : Nat} {ys : List Int} {x : An} (hp : putO 1 x = false) (h0 : x.1 = 0) : legS a M zs xs 1 X ys x = if x = (someS a M zs xs 2 x.2.1.toNat []).2 then ((someS a M zs xs 2 x.2.1.toNat []).1, true) else (xs, false) := by
  have e : stS a M zs xs 1 X ys x = someS a M zs xs 2 x.2.1.toNat [] := by unfold stS; rw [if_pos ⟨rfl, h0⟩]
  unfold legS
  rw [e, if_neg (by simp [hp])]
theorem leg_is (hr : Ris xs) (k : Int) (X : Nat) (ys : List Int) (x : An) (hA : 0 ≤ x.2.1) : legR a M zs xs k X ys x = legS a M zs xs k X ys x := by
  cases hp : putO k x with
  | true =>
    have hp' := hp
    unfold putO at hp'
    obtain ⟨h1, h2⟩ := of_decide_eq_true hp'
    unfold legS
    rw [if_pos hp]
    unfold legR
    rcases h1 with h | h | ⟨h, hk⟩
    · rw [h] at h2; rw [if_pos (.inl h2)]
    · rw [h] at h2; rw [if_pos (.inr h2)]
    · rw [h] at h2
      subst hk
      subst h2
      rw [if_neg (by rintro (g | g) <;> exact absurd g (an0_ne (by omega))), if_pos (askE_free (by omega)), doR_6]
      simp
  | false =>
    have n10 := putO_no hp (e := 10) (.inl rfl)
    have n12 := putO_no hp (e := 12) (.inr (.inl rfl))
    unfold legR
    rw [if_neg (by rintro (g | g); exact n10 g; exact n12 g)]
    by_cases hs : k = 1 ∧ x.1 = 0
    · obtain ⟨rfl, h0⟩ := hs
      rw [if_pos (askE_free (.inl rfl)), doR_1, if_neg (one_ne (by omega) h0)]
      rw [leg_ex hp h0]
      unfold someS
      rw [askE_one (.inl rfl), show (((x.2.1.toNat : Nat) : Int)).toNat = x.2.1.toNat from rfl]
      by_cases hf : fiE a M x.2.1.toNat zs = 0
      · obtain ⟨hx, -, ho⟩ := fiE_zero hf
        rw [if_pos hf, ho, doS_2, Int.toNat_of_nonneg hA]
        cases hb : hasB xs (ofO a M x.2.1.toNat) with
        | true =>
          rw [if_pos rfl, if_neg (by rintro ⟨-, -, g⟩; cases g), if_neg (one_ne (by omega) h0)]
        | false =>
          simp only [Bool.false_eq_true, if_false]
          by_cases he : x = okA x.2.1
          · rw [if_pos ⟨he, hf, trivial⟩, if_pos he]
          · rw [if_neg (fun g => he g.1), if_neg he]
      · rw [if_neg hf, if_neg (by rintro ⟨-, g, -⟩; exact hf g), if_neg (one_ne hf h0)]
    · by_cases he : askE a M zs k X ys = 0
      · rw [if_pos he, leg_do hp hs he]
        obtain ⟨k1, k7, -, -⟩ := askE_ok he
        obtain rfl | rfl | rfl | rfl | rfl | rfl | rfl : k = 1 ∨ k = 2 ∨ k = 3 ∨ k = 4 ∨ k = 5 ∨ k = 6 ∨ k = 7 := by omega
        · have h0 : x.1 ≠ 0 := fun g => hs ⟨rfl, g⟩
          rw [doR_1, doS_1, if_neg (c := x = okA x.2.1 ∧ _) (by rintro ⟨g, -, -⟩; exact h0 (congrArg Prod.fst g))]
          cases hl : lea zs xs M with
          | some o =>
            rw [lea_not hl]
            dsimp only
            rw [if_neg (c := x = okA _) (by intro g; exact h0 (congrArg Prod.fst g))]
            split <;> rfl
          | none =>
            rw [lea_full.1 hl]
        · rw [doR_2, doS_2]
          cases hb : hasB xs (ofO a M X) with
          | true => simp only [if_true]; by_cases g : x = an0 5 <;> simp [g]
          | false => simp only [Bool.false_eq_true, if_false]
        · rw [doR_3, doS_3]
          cases hb : hasB xs (ofO a M X) with
          | true => rw [if_neg (by simp), show reE xs (ofO a M X) = 0 by unfold reE; rw [if_pos hb]]
          | false => rw [if_pos rfl, show reE xs (ofO a M X) = 6 by unfold reE; rw [hb]; rfl, del_out hr hb]; by_cases g : x = an0 6 <;> simp [g]
        · rw [doR_4, doS_4]
        · rw [doR_5, doS_5]; dsimp only; split <;> simp [*]
        · have := putO_no hp (e := 11) (.inr (.inr ⟨rfl, rfl⟩))
          rw [doR_6, doS_6]; dsimp only; split <;> simp [*]
        · rw [doR_7, doS_7]; dsimp only; split <;> simp [*]
      · rw [if_neg he, leg_bad hp hs he]
end
end Go.Proofs.YtmakbmmnjbnfiaaDoor
