/-
  What follows of the document's answers: the set then may be; errors leave it; nothing is granted twice. No program stands here.
-/
import Derived.Test.YtmakbmmnjbnfiaaDoorSpecOpen
namespace Go.Proofs.YtmakbmmnjbnfiaaDoor
open Go.RowKit
section
variable {a M : Nat} {zs xs : List Int}
theorem okA_ne {x e : Int} (he : e ≠ 0) : okA x ≠ an0 e := fun h => he (congrArg Prod.fst h).symm
/-- A Grant answered an offset's address. -/
theorem leg_at {r X : Nat} {ys : List Int} (hr : r < M) : legS a M zs xs 1 X ys (okA ((a + r : Nat) : Int)) = if fr zs xs r = true then (ins xs (r : Int), true) else (xs, false) := by
  have hp : putO 1 (okA ((a + r : Nat) : Int)) = false := by
    unfold putO
    rw [decide_eq_false_iff_not]
    rintro ⟨h | h | ⟨h, -⟩, -⟩ <;> exact absurd h (by simp [okA])
  rw [leg_ex hp rfl]
  have e1 : (okA ((a + r : Nat) : Int)).2.1.toNat = a + r := rfl
  have e2 : ofO a M (a + r) = (r : Int) := by rw [ofO_in ⟨by omega, by omega⟩]; omega
  rw [e1]
  unfold someS
  rw [askE_one (.inl rfl), show (((a + r : Nat) : Int)).toNat = a + r from rfl]
  cases hz : hasB zs (r : Int) with
  | true =>
    have e3 : fiE a M (a + r) zs = 4 := by unfold fiE; rw [if_pos ⟨by omega, by omega⟩, show a + r - a = r by omega, if_pos hz]
    have e4 : ¬ (4 : Int) = 0 := by omega
    have e5 : ¬ fr zs xs r = true := by rw [fr_iff]; rintro ⟨h, -⟩; rw [hz] at h; cases h
    rw [e3, if_neg e4, if_neg e5]
    exact if_neg (okA_ne (by omega))
  | false =>
    have e3 : fiE a M (a + r) zs = 0 := by unfold fiE; rw [if_pos ⟨by omega, by omega⟩, show a + r - a = r by omega, hz]; rfl
    rw [e3, if_pos rfl, doS_2, e2]
    cases hx : hasB xs (r : Int) with
    | true =>
      simp only [if_true]
      have e5 : ¬ fr zs xs r = true := by rw [fr_iff]; rintro ⟨-, h⟩; rw [hx] at h; cases h
      rw [if_neg e5]
      exact if_neg (okA_ne (by omega))
    | false =>
      simp only [Bool.false_eq_true, if_false]
      rw [if_pos (fr_iff.2 ⟨hz, hx⟩)]
      first | exact if_pos rfl | exact if_pos trivial
theorem leg_atY {r X Y : Nat} {ys : List Int} (hY : a + r = Y) (hr : r < M) : legS a M zs xs 1 X ys (okA (Y : Int)) = if fr zs xs r = true then (ins xs (r : Int), true) else (xs, false) := by
  subst hY; exact leg_at hr
theorem has_ins {x : Int} : hasB (ins xs x) x = true := hasB_iff.2 (mem_ins.2 (.inl rfl))
theorem has_del {x : Int} : hasB (del xs x) x = false := by
  cases h : hasB (del xs x) x with
  | false => rfl
  | true => exact absurd rfl (mem_del.1 (hasB_iff.1 h)).2
theorem del_ins {x : Int} (h : Ris xs) (hx : hasB xs x = false) : del (ins xs x) x = xs := ((h.ins x).del x).ext h fun z => by
  rw [mem_del, mem_ins]
  constructor
  · rintro ⟨rfl | h1, h2⟩
    · exact absurd rfl h2
    · exact h1
  · intro h1
    refine ⟨.inr h1, ?_⟩
    rintro rfl
    rw [hasB_iff.2 h1] at hx; cases hx
theorem ins_may {o : Int} (hx : mayR M zs 0 xs = true) (h0 : 0 ≤ o) (h1 : o < M) (hz : hasB zs o = false) : mayR M zs 0 (ins xs o) = true := by
  rw [mayR_iff] at hx ⊢
  refine ⟨hx.1.ins o, fun z hz' => ?_⟩
  rcases mem_ins.1 hz' with rfl | h
  · exact ⟨h0, h1, hz⟩
  · exact hx.2 z h
theorem del_may {o : Int} (hx : mayR M zs 0 xs = true) : mayR M zs 0 (del xs o) = true := by
  rw [mayR_iff] at hx ⊢
  exact ⟨hx.1.del o, fun z hz => hx.2 z (mem_del.1 hz).1⟩
theorem bat_may {ys : List Int} (hx : mayR M zs 0 xs = true) : mayR M zs 0 (batS a M xs ys) = true := by
  rw [mayR_iff] at hx ⊢
  exact ⟨batS_ris _ hx.1, fun z hz => hx.2 z (batS_mem _ hz)⟩
theorem fi_of {X : Nat} (h : fiE a M X zs = 0) : 0 ≤ ofO a M X ∧ ofO a M X < M ∧ hasB zs (ofO a M X) = false ∧ (X : Int) = a + ofO a M X := by
  obtain ⟨h1, h2, _⟩ := fiE_zero h
  rw [ofO_in h1]
  exact ⟨by omega, by omega, h2, by omega⟩
theorem doS_may {k : Int} {X : Nat} {ys : List Int} (hx : mayR M zs 0 xs = true) (he : askE a M zs k X ys = 0) : mayR M zs 0 (doS a M zs xs k X ys).1 = true := by
  obtain ⟨k1, k7, -, -⟩ := askE_ok he
  obtain rfl | rfl | rfl | rfl | rfl | rfl | rfl : k = 1 ∨ k = 2 ∨ k = 3 ∨ k = 4 ∨ k = 5 ∨ k = 6 ∨ k = 7 := by omega
  · rw [doS_1]
    cases hl : lea zs xs M with
    | none => exact hx
    | some o =>
      obtain ⟨h1, h2, -⟩ := lea_is hl
      exact ins_may hx (by omega) (by omega) (fr_iff.1 h2).1
  · rw [askE_one (.inl rfl)] at he
    obtain ⟨h1, h2, h3, -⟩ := fi_of (X := X) he
    rw [doS_2]
    split
    · exact hx
    · exact ins_may hx h1 h2 h3
  · rw [doS_3]; exact del_may hx
  · rw [doS_4]; exact bat_may hx
  · rw [doS_5]; exact hx
  · rw [doS_6]; exact hx
  · rw [doS_7]; exact hx
theorem some_may {k : Int} {X : Nat} {ys : List Int} (hx : mayR M zs 0 xs = true) : mayR M zs 0 (someS a M zs xs k X ys).1 = true := by
  unfold someS
  split
  · rename_i h; exact doS_may hx h
  · exact hx
theorem stS_may {k : Int} {X : Nat} {ys : List Int} {x : An} (hx : mayR M zs 0 xs = true) : mayR M zs 0 (stS a M zs xs k X ys x).1 = true := by
  unfold stS
  split <;> exact some_may hx
theorem leg_may {k : Int} {X : Nat} {ys : List Int} {x : An} (hx : mayR M zs 0 xs = true) : mayR M zs 0 (legS a M zs xs k X ys x).1 = true := by
  unfold legS
  split
  · exact hx
  · split
    · exact stS_may hx
    · exact hx
/-- How a set's length is bounded. -/
theorem may_few (hr : risB M 0 zs = true) (hx : mayR M zs 0 xs = true) : xs.length ≤ M := by have := (may_len hr hx).1; omega
/-- An answer with an error is that error, and the set stays. -/
theorem some_err {k : Int} {X : Nat} {ys : List Int} (hr : Ris xs) (h : (someS a M zs xs k X ys).2.1 ≠ 0) : (someS a M zs xs k X ys).2 = an0 (someS a M zs xs k X ys).2.1 ∧ (someS a M zs xs k X ys).1 = xs := by
  unfold someS at h ⊢
  by_cases he : askE a M zs k X ys = 0
  · rw [if_pos he] at h ⊢
    obtain ⟨k1, k7, -, -⟩ := askE_ok he
    obtain rfl | rfl | rfl | rfl | rfl | rfl | rfl : k = 1 ∨ k = 2 ∨ k = 3 ∨ k = 4 ∨ k = 5 ∨ k = 6 ∨ k = 7 := by omega
    · rw [doS_1] at h ⊢
      cases hl : lea zs xs M with
      | none => exact ⟨rfl, rfl⟩
      | some o => rw [hl] at h; exact absurd rfl h
    · rw [doS_2] at h ⊢
      split
      · exact ⟨rfl, rfl⟩
      · rename_i hh; rw [if_neg hh] at h; exact absurd rfl h
    · rw [doS_3] at h ⊢
      refine ⟨rfl, ?_⟩
      cases hb : hasB xs (ofO a M X) with
      | true => unfold reE at h; rw [hb] at h; exact absurd rfl h
      | false => exact del_out hr hb
    · rw [doS_4] at h; exact absurd rfl h
    · rw [doS_5] at h; exact absurd rfl h
    · rw [doS_6] at h; exact absurd rfl h
    · rw [doS_7] at h; exact absurd rfl h
  · rw [if_neg he] at h ⊢
    exact ⟨rfl, rfl⟩
theorem some_rng {k : Int} {X : Nat} {ys : List Int} : 0 ≤ (someS a M zs xs k X ys).2.1 ∧ (someS a M zs xs k X ys).2.1 ≤ 9 := by
  unfold someS
  split
  · unfold doS
    split
    · cases lea zs xs M <;> simp [okA, an0]
    · split
      · split <;> simp [okA, an0]
      · split
        · have := reE_rng (xs := xs) (ofO a M X)
          show 0 ≤ reE xs (ofO a M X) ∧ reE xs (ofO a M X) ≤ 9
          omega
        · split
          · simp
          · split
            · simp
            · split <;> simp [an0]
  · have := askE_rng (a := a) (M := M) (zs := zs) k (X : Int) ys
    show 0 ≤ askE a M zs k (X : Int) ys ∧ askE a M zs k (X : Int) ys ≤ 9
    omega
/-- What Some answers is right. -/
theorem leg_some {k : Int} {X : Nat} {ys : List Int} : legS a M zs xs k X ys (someS a M zs xs k X ys).2 = ((someS a M zs xs k X ys).1, true) := by
  have h9 := some_rng (a := a) (M := M) (zs := zs) (xs := xs) (k := k) (X := X) (ys := ys)
  have hp : putO k (someS a M zs xs k X ys).2 = false := by
    unfold putO
    rw [decide_eq_false_iff_not]
    rintro ⟨h | h | ⟨h, -⟩, -⟩ <;> omega
  by_cases hs : k = 1 ∧ (someS a M zs xs k X ys).2.1 = 0
  · obtain ⟨rfl, h0⟩ := hs
    have he : askE a M zs 1 X ys = 0 := askE_free (.inl rfl)
    have hd : someS a M zs xs 1 X ys = doS a M zs xs 1 X ys := by unfold someS; rw [if_pos he]
    rw [hd] at h0 hp ⊢
    rw [doS_1] at h0 hp ⊢
    cases hl : lea zs xs M with
    | none => rw [hl] at h0; exact absurd h0 (by show ¬ (9 : Int) = 0; omega)
    | some o =>
      obtain ⟨h1, h2, -⟩ := lea_is hl
      have := leg_at (a := a) (zs := zs) (xs := xs) (X := X) (ys := ys) h1
      rw [if_pos h2] at this
      exact this
  · unfold legS stS
    rw [if_neg (by simp [hp]), if_neg hs, if_pos rfl]
/-- An answer with an error that is right leaves the set. -/
theorem leg_err {k : Int} {X : Nat} {ys : List Int} {x : An} (hr : Ris xs) (h : x.1 ≠ 0) : (legS a M zs xs k X ys x).1 = xs := by
  unfold legS
  split
  · rfl
  · split
    · rename_i hx
      have hs : stS a M zs xs k X ys x = someS a M zs xs k X ys := by unfold stS; rw [if_neg (fun g => h g.2)]
      rw [hs] at hx ⊢
      exact (some_err hr (by rw [← hx]; exact h)).2
    · rfl
/-- An answer with an error, and anything else, is wrong. -/
theorem leg_odd {k : Int} {X : Nat} {ys : List Int} {x : An} (hr : Ris xs) (h : x.1 ≠ 0) (h2 : x ≠ an0 x.1) : legS a M zs xs k X ys x = (xs, false) := by
  have hp : putO k x = false := by
    unfold putO
    rw [decide_eq_false_iff_not]
    exact fun g => h2 g.2
  have hs : stS a M zs xs k X ys x = someS a M zs xs k X ys := by unfold stS; rw [if_neg (fun g => h g.2)]
  unfold legS
  rw [if_neg (by simp [hp]), hs, if_neg]
  intro hx
  have h3 : (someS a M zs xs k X ys).2.1 ≠ 0 := by rw [← hx]; exact h
  have h4 := (some_err hr h3).1
  rw [← hx] at h4
  exact h2 h4
theorem leg_busy {k : Int} {X : Nat} {ys : List Int} {e : Int} (he : e = 10 ∨ e = 12) : legS a M zs xs k X ys (an0 e) = (xs, true) := by
  unfold legS
  rw [if_pos]
  unfold putO
  exact decide_eq_true ⟨by rcases he with h | h; exact .inl h; exact .inr (.inl h), rfl⟩
theorem leg_retry {k : Int} {X : Nat} {ys : List Int} : legS a M zs xs k X ys (an0 11) = (xs, k == 6) := by
  by_cases hk : k = 6
  · subst hk
    unfold legS
    rw [if_pos]
    · rfl
    · unfold putO
      exact decide_eq_true ⟨.inr (.inr ⟨rfl, rfl⟩), rfl⟩
  · have hp : putO k (an0 11) = false := by
      unfold putO
      rw [decide_eq_false_iff_not]
      rintro ⟨h | h | ⟨-, h⟩, -⟩
      · exact absurd h (by show ¬ (11 : Int) = 10; omega)
      · exact absurd h (by show ¬ (11 : Int) = 12; omega)
      · exact hk h
    have hs : stS a M zs xs k X ys (an0 11) = someS a M zs xs k X ys := by
      unfold stS
      rw [if_neg]
      rintro ⟨-, h⟩
      exact absurd h (by show ¬ (11 : Int) = 0; omega)
    unfold legS
    rw [if_neg (by simp [hp]), hs, if_neg, show (k == 6) = false by simpa using hk]
    intro h
    have h1 : (11 : Int) = (someS a M zs xs k X ys).2.1 := congrArg Prod.fst h
    have := (some_rng (a := a) (M := M) (zs := zs) (xs := xs) (k := k) (X := X) (ys := ys)).2
    omega
/-- How many numbers of a list aren't in the set. -/
def nw_ (xs l : List Int) : Nat := (l.filter fun z => !hasB xs z).length
theorem nw_nil (xs : List Int) : nw_ xs [] = 0 := rfl
theorem nw_snoc (xs l : List Int) (z : Int) : nw_ xs (l ++ [z]) = nw_ xs l + if hasB xs z = true then 0 else 1 := by
  unfold nw_
  rw [List.filter_append, List.length_append]
  cases hb : hasB xs z <;> simp [hb]
theorem nw_ins {o : Int} (hx : hasB xs o = false) : nw_ xs (ins xs o) = 1 := by
  unfold nw_ ins
  rw [List.filter_append, List.length_append, List.filter_cons]
  have h1 : (lo_ xs o).filter (fun z => !hasB xs z) = [] := by
    rw [List.filter_eq_nil_iff]
    intro z hz
    simp [hasB_iff.2 (mem_lo.1 hz).1]
  have h2 : (hi_ xs o).filter (fun z => !hasB xs z) = [] := by
    rw [List.filter_eq_nil_iff]
    intro z hz
    simp [hasB_iff.2 (mem_hi.1 hz).1]
  rw [h1, h2]
  simp [hx]
theorem len_ins_out {o : Int} (hr : Ris xs) (hx : hasB xs o = false) : (ins xs o).length = xs.length + 1 := by
  rw [len_both hr, del_out hr hx]
/-- What a right answer adds to the set. -/
theorem leg_new {k : Int} {X : Nat} {ys : List Int} {x : An} (hx : mayR M zs 0 xs = true) :
    ((legS a M zs xs k X ys x).1.length ≤ xs.length + 1) ∧
    ((legS a M zs xs k X ys x).2 = true → ∀ z ∈ (legS a M zs xs k X ys x).1, hasB xs z = false → (k = 1 ∨ k = 2) ∧ x.2.1 = a + z) ∧
    ((legS a M zs xs k X ys x).2 = true → k = 1 → x.1 = 0 → nw_ xs (legS a M zs xs k X ys x).1 = 1) := by
  have hr := (mayR_iff.1 hx).1
  have old : ∀ l : List Int, (∀ z ∈ l, z ∈ xs) → ∀ z ∈ l, hasB xs z = false → (k = 1 ∨ k = 2) ∧ x.2.1 = a + z := fun l hl z hz h => by
    rw [hasB_iff.2 (hl z hz)] at h; cases h
  have key : ∀ {k' : Int} {X' : Nat} {ys' : List Int}, (k' = 1 ∨ k' = 2 → k = 1 ∨ k = 2) → x = (someS a M zs xs k' X' ys').2 → (someS a M zs xs k' X' ys').1.length ≤ xs.length + 1 ∧ (∀ z ∈ (someS a M zs xs k' X' ys').1, hasB xs z = false → (k = 1 ∨ k = 2) ∧ x.2.1 = a + z) ∧ (k' = 1 ∨ k' = 2 → x.1 = 0 → nw_ xs (someS a M zs xs k' X' ys').1 = 1) := by
    intro k' X' ys' hk' hx'
    by_cases h0 : x.1 = 0
    · have he : askE a M zs k' X' ys' = 0 := by
        unfold someS at hx'
        by_cases he : askE a M zs k' X' ys' = 0
        · exact he
        · rw [if_neg he] at hx'; rw [hx'] at h0; exact absurd h0 he
      have hd : someS a M zs xs k' X' ys' = doS a M zs xs k' X' ys' := by unfold someS; rw [if_pos he]
      rw [hd] at hx' ⊢
      obtain ⟨k1, k7, -, -⟩ := askE_ok he
      have olds : ∀ l : List Int, (∀ z ∈ l, z ∈ xs) → l.length ≤ xs.length → ¬ (k' = 1 ∨ k' = 2) → l.length ≤ xs.length + 1 ∧ (∀ z ∈ l, hasB xs z = false → (k = 1 ∨ k = 2) ∧ x.2.1 = a + z) ∧ (k' = 1 ∨ k' = 2 → x.1 = 0 → nw_ xs l = 1) := fun l hl hn h12 => ⟨by omega, old l hl, fun g => absurd g h12⟩
      obtain rfl | rfl | rfl | rfl | rfl | rfl | rfl : k' = 1 ∨ k' = 2 ∨ k' = 3 ∨ k' = 4 ∨ k' = 5 ∨ k' = 6 ∨ k' = 7 := by omega
      · rw [doS_1] at hx' ⊢
        cases hl : lea zs xs M with
        | none => rw [hl] at hx'; rw [hx'] at h0; exact absurd h0 (by show ¬ (9 : Int) = 0; omega)
        | some o =>
          rw [hl] at hx'
          have hf := (fr_iff.1 (lea_is hl).2.1).2
          refine ⟨len_ins _, fun z hz hzx => ?_, fun _ _ => nw_ins hf⟩
          rcases mem_ins.1 hz with rfl | h
          · exact ⟨hk' (.inl rfl), by rw [hx']; show (((a + o : Nat)) : Int) = a + (o : Int); omega⟩
          · rw [hasB_iff.2 h] at hzx; cases hzx
      · rw [doS_2] at hx' ⊢
        cases hb : hasB xs (ofO a M X') with
        | true => rw [hb] at hx'; rw [hx'] at h0; exact absurd h0 (by show ¬ (5 : Int) = 0; omega)
        | false =>
          rw [hb] at hx'
          simp only [Bool.false_eq_true, if_false] at hx' ⊢
          rw [askE_one (.inl rfl)] at he
          have h4 := (fi_of (X := X') he).2.2.2
          refine ⟨len_ins _, fun z hz hzx => ?_, fun _ _ => nw_ins hb⟩
          rcases mem_ins.1 hz with rfl | h
          · exact ⟨hk' (.inr rfl), by rw [hx']; exact h4⟩
          · rw [hasB_iff.2 h] at hzx; cases hzx
      · rw [doS_3]; exact olds _ (fun z hz => (mem_del.1 hz).1) (len_del _ _) (by omega)
      · rw [doS_4]; exact olds _ (fun z hz => batS_mem _ hz) (batS_len _) (by omega)
      · rw [doS_5]; exact olds _ (fun z hz => hz) (Nat.le_refl _) (by omega)
      · rw [doS_6]; exact olds _ (fun z hz => hz) (Nat.le_refl _) (by omega)
      · rw [doS_7]; exact olds _ (fun z hz => hz) (Nat.le_refl _) (by omega)
    · have := (some_err (a := a) (M := M) (zs := zs) (k := k') (X := X') (ys := ys') hr (by rw [← hx']; exact h0)).2
      rw [this]
      exact ⟨by omega, old xs (fun z hz => hz), fun _ g => absurd g h0⟩
  unfold legS
  by_cases hp : putO k x = true
  · rw [if_pos hp]
    refine ⟨by simp, fun _ => old xs (fun z hz => hz), fun _ _ h0 => ?_⟩
    unfold putO at hp
    have := (of_decide_eq_true hp).1
    omega
  · rw [if_neg hp]
    by_cases hxs : x = (stS a M zs xs k X ys x).2
    · rw [if_pos hxs]
      unfold stS at hxs ⊢
      by_cases hs : k = 1 ∧ x.1 = 0
      · rw [if_pos hs] at hxs ⊢
        obtain ⟨h1, h2, h3⟩ := key (fun _ => .inl hs.1) hxs
        exact ⟨h1, fun _ => h2, fun _ _ h0 => h3 (.inr rfl) h0⟩
      · rw [if_neg hs] at hxs ⊢
        obtain ⟨h1, h2, h3⟩ := key (fun h => h) hxs
        exact ⟨h1, fun _ => h2, fun _ hk h0 => h3 (.inl hk) h0⟩
    · rw [if_neg hxs]
      exact ⟨by simp, fun h => absurd h (by simp), fun h => absurd h (by simp)⟩
theorem leg_no {k : Int} {X : Nat} {ys : List Int} {x : An} (h : (legS a M zs xs k X ys x).2 = false) : (legS a M zs xs k X ys x).1 = xs := by
  unfold legS at h ⊢
  split
  · rfl
  · rename_i hp
    rw [if_neg hp] at h
    split
    · rename_i hx; rw [if_pos hx] at h; cases h
    · rfl
/-- A Query that is answered OK. -/
theorem leg_query {X : Nat} {ys : List Int} {x : An} (h : (legS a M zs xs 5 X ys x).2 = true) (h0 : x.1 = 0) : fiE a M X zs = 0 ∧ x.2.2.1 = hasB xs (ofO a M X) := by
  unfold legS at h
  by_cases hp : putO 5 x = true
  · unfold putO at hp
    have := (of_decide_eq_true hp).1
    omega
  · rw [if_neg hp] at h
    by_cases hxs : x = (stS a M zs xs 5 X ys x).2
    · unfold stS at hxs
      rw [if_neg (by rintro ⟨g, -⟩; omega)] at hxs
      unfold someS at hxs
      by_cases he : askE a M zs 5 X ys = 0
      · rw [if_pos he, doS_5] at hxs
        rw [askE_one (.inr (.inr rfl))] at he
        exact ⟨he, by rw [hxs]⟩
      · rw [if_neg he] at hxs
        rw [hxs] at h0
        exact absurd h0 he
    · rw [if_neg hxs] at h; cases h
/-- Grants, one behind the other: the least offset rises. -/
theorem lea_rise {o o' : Nat} (h : lea zs (ins xs (o : Int)) M = some o') (hb : ∀ i, i < o → fr zs xs i = false) : o < o' := by
  obtain ⟨_, h2, _⟩ := lea_is h
  obtain ⟨h3, h4⟩ := fr_iff.1 h2
  rcases Nat.lt_trichotomy o o' with g | g | g
  · exact g
  · subst g
    rw [has_ins] at h4; cases h4
  · have h5 := hb o' g
    have h6 : fr zs xs o' = true := by
      refine fr_iff.2 ⟨h3, ?_⟩
      cases hx : hasB xs (o' : Int) with
      | false => rfl
      | true => rw [hasB_iff.2 (mem_ins.2 (.inr (hasB_iff.1 hx)))] at h4; cases h4
    rw [h6] at h5; cases h5
theorem lea_full' : (lea zs xs M).isNone = fullB M zs xs := by
  cases hl : lea zs xs M with
  | none => rw [lea_full.1 hl]; rfl
  | some o => rw [lea_not hl]; rfl
/-- Is a Grant rightly answered ErrFull? -/
theorem leg_full {X : Nat} {ys : List Int} : legS a M zs xs 1 X ys (an0 9) = (xs, fullB M zs xs) := by
  have hp : putO 1 (an0 9) = false := by
    unfold putO
    rw [decide_eq_false_iff_not]
    rintro ⟨h | h | ⟨h, -⟩, -⟩
    · exact absurd h (by show ¬ (9 : Int) = 10; omega)
    · exact absurd h (by show ¬ (9 : Int) = 12; omega)
    · exact absurd h (by show ¬ (9 : Int) = 11; omega)
  have he : askE a M zs 1 X ys = 0 := askE_free (.inl rfl)
  rw [leg_do hp (by rintro ⟨-, h⟩; exact absurd h (by show ¬ (9 : Int) = 0; omega)) he, doS_1]
  cases hl : lea zs xs M with
  | none => rw [lea_full.1 hl]; exact if_pos rfl
  | some o =>
    rw [lea_not hl]
    exact if_neg (fun h => absurd (congrArg Prod.fst h) (by show ¬ (9 : Int) = 0; omega))
end
end Go.Proofs.YtmakbmmnjbnfiaaDoor
