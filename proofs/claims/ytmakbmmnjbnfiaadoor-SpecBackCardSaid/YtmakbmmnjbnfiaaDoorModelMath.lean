/-
  Sets as rising lists of integers: an offset put in, or taken away, is told by what is in alone; where an offset stands; when a list is a set that may be, and all of it; the set that a test tells. No program in it.
-/
import Derived.Test.YtmakbmmnjbnfiaaDoorModelLib
namespace Go.Proofs.YtmakbmmnjbnfiaaDoor
def Ris (xs : List Int) : Prop := xs.Pairwise (· < ·)
theorem Ris.ext {xs ys : List Int} (hx : Ris xs) (hy : Ris ys) (h : ∀ z, z ∈ xs ↔ z ∈ ys) : xs = ys := by
  induction xs generalizing ys with
  | nil =>
    cases ys with
    | nil => rfl
    | cons y t => have := (h y).2 (by simp); cases this
  | cons x r ih =>
    cases ys with
    | nil => have := (h x).1 (by simp); cases this
    | cons y t =>
      obtain ⟨hx1, hx2⟩ := List.pairwise_cons.1 hx
      obtain ⟨hy1, hy2⟩ := List.pairwise_cons.1 hy
      have e : x = y := by
        have h1 := (h x).1 (by simp)
        have h2 := (h y).2 (by simp)
        rcases List.mem_cons.1 h1 with h1 | h1
        · exact h1
        · rcases List.mem_cons.1 h2 with h2 | h2
          · exact h2.symm
          · have := hx1 _ h2
            have := hy1 _ h1
            omega
      subst e
      congr 1
      refine ih hx2 hy2 fun z => ⟨fun hz => ?_, fun hz => ?_⟩
      · rcases List.mem_cons.1 ((h z).1 (List.mem_cons_of_mem _ hz)) with e | g
        · have := hx1 _ hz; omega
        · exact g
      · rcases List.mem_cons.1 ((h z).2 (List.mem_cons_of_mem _ hz)) with e | g
        · have := hy1 _ hz; omega
        · exact g
theorem Ris.lt {xs : List Int} (h : Ris xs) {i j : Nat} (hij : i < j) (hj : j < xs.length) : gi xs i < gi xs j := by
  rw [gi_at (by omega), gi_at hj]
  exact List.pairwise_iff_getElem.1 h i j (by omega) hj hij
theorem Ris.le {xs : List Int} (h : Ris xs) {i j : Nat} (hij : i ≤ j) (hj : j < xs.length) : gi xs i ≤ gi xs j := by
  rcases Nat.lt_or_ge i j with g | g
  · have := h.lt g hj; omega
  · obtain rfl : i = j := by omega
    exact Int.le_refl _
theorem Ris.nil : Ris [] := List.Pairwise.nil
/-- Those below x, and those above it. -/
def lo_ (xs : List Int) (x : Int) : List Int := xs.filter fun y => decide (y < x)
def hi_ (xs : List Int) (x : Int) : List Int := xs.filter fun y => decide (x < y)
def ins (xs : List Int) (x : Int) : List Int := lo_ xs x ++ x :: hi_ xs x
def del (xs : List Int) (x : Int) : List Int := xs.filter fun y => decide (y ≠ x)
def at_ (xs : List Int) (x : Int) : Nat := (lo_ xs x).length
theorem mem_lo {xs : List Int} {x z : Int} : z ∈ lo_ xs x ↔ z ∈ xs ∧ z < x := by unfold lo_; simp
theorem mem_hi {xs : List Int} {x z : Int} : z ∈ hi_ xs x ↔ z ∈ xs ∧ x < z := by unfold hi_; simp
theorem mem_del {xs : List Int} {x z : Int} : z ∈ del xs x ↔ z ∈ xs ∧ z ≠ x := by unfold del; simp
theorem mem_ins {xs : List Int} {x z : Int} : z ∈ ins xs x ↔ z = x ∨ z ∈ xs := by
  unfold ins
  rw [List.mem_append, List.mem_cons, mem_lo, mem_hi]
  constructor
  · rintro (⟨h, _⟩ | h | ⟨h, _⟩)
    · exact .inr h
    · exact .inl h
    · exact .inr h
  · rintro (h | h)
    · exact .inr (.inl h)
    · rcases Int.lt_trichotomy z x with g | g | g
      · exact .inl ⟨h, g⟩
      · exact .inr (.inl g)
      · exact .inr (.inr ⟨h, g⟩)
theorem Ris.lo {xs : List Int} (h : Ris xs) (x : Int) : Ris (lo_ xs x) := List.Pairwise.filter _ h
theorem Ris.hi {xs : List Int} (h : Ris xs) (x : Int) : Ris (hi_ xs x) := List.Pairwise.filter _ h
theorem Ris.del {xs : List Int} (h : Ris xs) (x : Int) : Ris (del xs x) := List.Pairwise.filter _ h
theorem Ris.two {xs ys : List Int} (hx : Ris xs) (hy : Ris ys) (h : ∀ a ∈ xs, ∀ b ∈ ys, a < b) : Ris (xs ++ ys) := List.pairwise_append.2 ⟨hx, hy, h⟩
theorem Ris.cons {x : Int} {ys : List Int} (hy : Ris ys) (h : ∀ b ∈ ys, x < b) : Ris (x :: ys) := List.pairwise_cons.2 ⟨h, hy⟩
theorem Ris.ins {xs : List Int} (h : Ris xs) (x : Int) : Ris (ins xs x) := by
  refine Ris.two (h.lo x) (Ris.cons (h.hi x) fun b hb => (mem_hi.1 hb).2) fun a ha b hb => ?_
  have h1 := (mem_lo.1 ha).2
  rcases List.mem_cons.1 hb with rfl | hb
  · exact h1
  · have := (mem_hi.1 hb).2; omega
theorem Ris.lohi {xs : List Int} (h : Ris xs) (x : Int) : Ris (lo_ xs x ++ hi_ xs x) :=
  Ris.two (h.lo x) (h.hi x) fun a ha b hb => by
    have h1 := (mem_lo.1 ha).2
    have h2 := (mem_hi.1 hb).2
    omega
theorem ins_in {xs : List Int} (h : Ris xs) {x : Int} (hx : hasB xs x = true) : ins xs x = xs :=
  (h.ins x).ext h fun z => by
    rw [mem_ins]
    have := of_decide_eq_true hx
    constructor
    · rintro (rfl | g)
      · exact this
      · exact g
    · exact .inr
theorem del_out {xs : List Int} (h : Ris xs) {x : Int} (hx : hasB xs x = false) : del xs x = xs :=
  (h.del x).ext h fun z => by
    rw [mem_del]
    have := of_decide_eq_false hx
    exact ⟨fun g => g.1, fun g => ⟨g, fun e => this (e ▸ g)⟩⟩
theorem del_is {xs : List Int} (h : Ris xs) (x : Int) : del xs x = lo_ xs x ++ hi_ xs x :=
  (h.del x).ext (h.lohi x) fun z => by
    rw [mem_del, List.mem_append, mem_lo, mem_hi]
    constructor
    · rintro ⟨g, e⟩
      rcases Int.lt_or_le z x with k | k
      · exact .inl ⟨g, k⟩
      · exact .inr ⟨g, by omega⟩
    · rintro (⟨g, e⟩ | ⟨g, e⟩)
      · exact ⟨g, by omega⟩
      · exact ⟨g, by omega⟩
theorem split_in {xs : List Int} (h : Ris xs) {x : Int} (hx : hasB xs x = true) : xs = lo_ xs x ++ x :: hi_ xs x := (ins_in h hx).symm
theorem split_out {xs : List Int} (h : Ris xs) {x : Int} (hx : hasB xs x = false) : xs = lo_ xs x ++ hi_ xs x := by
  rw [← del_is h, del_out h hx]
theorem at_le (xs : List Int) (x : Int) : at_ xs x ≤ xs.length := List.length_filter_le _ _
theorem with_cut {xs : List Int} (h : Ris xs) {x : Int} (hx : hasB xs x = false) : xs.take (at_ xs x) ++ [x] ++ xs.drop (at_ xs x) = ins xs x := by
  have e := split_out h hx
  have e1 : xs.take (at_ xs x) = lo_ xs x := (congrArg (List.take (at_ xs x)) e).trans (List.take_left' rfl)
  have e2 : xs.drop (at_ xs x) = hi_ xs x := (congrArg (List.drop (at_ xs x)) e).trans (List.drop_left' rfl)
  rw [e1, e2, List.append_assoc]; rfl
theorem without_cut {xs : List Int} (h : Ris xs) {x : Int} (hx : hasB xs x = true) : at_ xs x < xs.length ∧ xs.take (at_ xs x) ++ (xs.drop (at_ xs x)).drop 1 = del xs x := by
  have e := split_in h hx
  have e1 : xs.take (at_ xs x) = lo_ xs x := (congrArg (List.take (at_ xs x)) e).trans (List.take_left' rfl)
  have e2 : xs.drop (at_ xs x) = x :: hi_ xs x := (congrArg (List.drop (at_ xs x)) e).trans (List.drop_left' rfl)
  refine ⟨?_, by rw [e1, e2, del_is h]; rfl⟩
  rcases Nat.lt_or_ge (at_ xs x) xs.length with g | g
  · exact g
  · rw [List.drop_eq_nil_of_le g] at e2; cases e2
/-- What a search comes to. -/
theorem at_of {xs : List Int} {x : Int} {i : Nat} (hi : i ≤ xs.length) (h1 : ∀ k, k < i → gi xs k < x) (h2 : ∀ k, i ≤ k → k < xs.length → x ≤ gi xs k) : at_ xs x = i := by
  have e : lo_ xs x = xs.take i := by
    unfold lo_
    conv => lhs; rw [← List.take_append_drop i xs]
    rw [List.filter_append, List.filter_eq_self.2 ?_, List.filter_eq_nil_iff.2 ?_, List.append_nil]
    · intro y hy
      obtain ⟨j, hj, rfl⟩ := List.getElem_of_mem hy
      have hj' : i + j < xs.length := by rw [List.length_drop] at hj; omega
      have := h2 (i + j) (by omega) hj'
      rw [gi_at hj'] at this
      rw [List.getElem_drop]
      simpa using this
    · intro y hy
      obtain ⟨j, hj, rfl⟩ := List.getElem_of_mem hy
      have hj' : j < i := by rw [List.length_take] at hj; omega
      have := h1 j hj'
      rw [gi_at (by omega)] at this
      rw [List.getElem_take]
      simpa using this
  unfold at_
  rw [e, List.length_take]
  omega
theorem has_of {xs : List Int} (h : Ris xs) {x : Int} {i : Nat} (hi : i < xs.length) (h1 : ∀ k, k < i → gi xs k < x) (h2 : x ≤ gi xs i) : hasB xs x = decide (gi xs i = x) := by
  unfold hasB
  rw [decide_eq_decide]
  constructor
  · intro g
    obtain ⟨k, hk, e⟩ := mem_gi.1 g
    rcases Nat.lt_or_ge k i with q | q
    · have := h1 k q; omega
    · have := h.le q hk; omega
  · intro g
    exact g ▸ gi_mem hi
theorem has_end {xs : List Int} {x : Int} (h1 : ∀ k, k < xs.length → gi xs k < x) : hasB xs x = false :=
  decide_eq_false fun g => by
    obtain ⟨k, hk, e⟩ := mem_gi.1 g
    have := h1 k hk
    omega
theorem hasB_iff {xs : List Int} {x : Int} : hasB xs x = true ↔ x ∈ xs := by unfold hasB; simp
theorem hasB_congr {xs ys : List Int} {x y : Int} (h : x ∈ xs ↔ y ∈ ys) : hasB xs x = hasB ys y := by unfold hasB; rw [decide_eq_decide]; exact h
theorem len_ins {xs : List Int} (x : Int) : (ins xs x).length ≤ xs.length + 1 := by
  have key : ∀ ys : List Int, (lo_ ys x).length + (hi_ ys x).length ≤ ys.length := by
    intro ys
    induction ys with
    | nil => simp [lo_, hi_]
    | cons y t ih =>
      unfold lo_ hi_ at ih ⊢
      rw [List.filter_cons, List.filter_cons]
      by_cases h1 : y < x
      · rw [if_pos (by simpa using h1), if_neg (by simp; omega)]; simp only [List.length_cons]; omega
      · rw [if_neg (by simpa using h1)]
        split
        · simp only [List.length_cons]; omega
        · simp only [List.length_cons]; omega
  have := key xs
  unfold ins
  rw [List.length_append, List.length_cons]
  omega
theorem len_del (xs : List Int) (x : Int) : (del xs x).length ≤ xs.length := List.length_filter_le _ _
theorem len_both {xs : List Int} (h : Ris xs) (x : Int) : (ins xs x).length = (del xs x).length + 1 := by
  rw [del_is h]
  unfold ins
  simp only [List.length_append, List.length_cons]
  omega
/-- May the list be a set, from lo on? -/
def mayR (m : Int) (hs : List Int) : Int → List Int → Bool
  | _, [] => true
  | lo, x :: r => if x < lo ∨ m ≤ x ∨ hasB hs x = true then false else mayR m hs (x + 1) r
theorem mayR_iff {m : Int} {hs : List Int} {lo : Int} {xs : List Int} : mayR m hs lo xs = true ↔ Ris xs ∧ ∀ x ∈ xs, lo ≤ x ∧ x < m ∧ hasB hs x = false := by
  induction xs generalizing lo with
  | nil => exact ⟨fun _ => ⟨Ris.nil, by simp⟩, fun _ => rfl⟩
  | cons x r ih =>
    unfold mayR
    split
    · rename_i h
      refine ⟨fun e => (by cases e), fun ⟨_, g⟩ => ?_⟩
      obtain ⟨g1, g2, g3⟩ := g x (by simp)
      rw [g3] at h
      rcases h with h | h | h
      · omega
      · omega
      · cases h
    · rename_i h
      rw [ih]
      constructor
      · rintro ⟨h1, h2⟩
        refine ⟨Ris.cons h1 fun b hb => by have := (h2 b hb).1; omega, fun y hy => ?_⟩
        rcases List.mem_cons.1 hy with rfl | hy
        · refine ⟨by omega, by omega, ?_⟩
          cases e : hasB hs y with
          | false => rfl
          | true => exact absurd (.inr (.inr e)) h
        · have := h2 y hy
          exact ⟨by omega, this.2⟩
      · rintro ⟨h1, h2⟩
        obtain ⟨p1, p2⟩ := List.pairwise_cons.1 h1
        exact ⟨p2, fun y hy => ⟨by have := p1 y hy; omega, (h2 y (List.mem_cons_of_mem _ hy)).2⟩⟩
theorem mayR_bad {m : Int} {hs : List Int} {lo x : Int} {r : List Int} (h : x < lo ∨ m ≤ x ∨ hasB hs x = true) : mayR m hs lo (x :: r) = false := by unfold mayR; rw [if_pos h]
theorem mayR_good {m : Int} {hs : List Int} {lo x : Int} {r : List Int} (h1 : ¬ x < lo) (h2 : ¬ m ≤ x) (h3 : hasB hs x = false) : mayR m hs lo (x :: r) = mayR m hs (x + 1) r := by
  rw [mayR, if_neg]
  rintro (h | h | h)
  · exact h1 h
  · exact h2 h
  · rw [h3] at h; cases h
theorem risB_ris {m lo : Int} {xs : List Int} (h : risB m lo xs = true) : Ris xs := by
  induction xs generalizing lo with
  | nil => exact Ris.nil
  | cons x r ih =>
    obtain ⟨h1, h2, h3⟩ := risB_cons h
    exact Ris.cons (ih h3) fun b hb => by have := (risB_mem h3 hb).1; omega
theorem risB_of {m lo : Int} {xs : List Int} (h : Ris xs) (h2 : ∀ x ∈ xs, lo ≤ x ∧ x < m) : risB m lo xs = true := by
  induction xs generalizing lo with
  | nil => rfl
  | cons x r ih =>
    obtain ⟨p1, p2⟩ := List.pairwise_cons.1 h
    have := h2 x (by simp)
    exact risB_mk this.1 this.2 (ih p2 fun y hy => ⟨by have := p1 y hy; omega, (h2 y (List.mem_cons_of_mem _ hy)).2⟩)
/-- Are all that aren't reserved in it? -/
def fullB (M : Nat) (hs xs : List Int) : Bool := (List.range M).all fun i => hasB hs i || hasB xs i
theorem fullB_iff {M : Nat} {hs xs : List Int} : fullB M hs xs = true ↔ ∀ i : Nat, i < M → hasB hs i = true ∨ hasB xs i = true := by
  unfold fullB
  simp
theorem cn_two {hs xs : List Int} (hd : ∀ x ∈ xs, hasB hs x = false) (k : Nat) : cn xs k + cn hs k ≤ k ∧ (cn xs k + cn hs k = k ↔ ∀ i : Nat, i < k → hasB hs i = true ∨ hasB xs i = true) := by
  induction k with
  | zero => exact ⟨Nat.le_refl _, fun _ i hi => by omega, fun _ => rfl⟩
  | succ k ih =>
    obtain ⟨h1, h2⟩ := ih
    have step : (∀ i : Nat, i < k + 1 → hasB hs i = true ∨ hasB xs i = true) ↔ (∀ i : Nat, i < k → hasB hs i = true ∨ hasB xs i = true) ∧ (hasB hs k = true ∨ hasB xs k = true) := by
      constructor
      · exact fun h => ⟨fun i hi => h i (by omega), h k (by omega)⟩
      · rintro ⟨h, h'⟩ i hi
        rcases Nat.lt_or_ge i k with g | g
        · exact h i g
        · obtain rfl : i = k := by omega
          exact h'
    rw [step, ← h2]
    cases ex : hasB xs k with
    | true =>
      have eh : hasB hs k = false := hd _ (hasB_iff.1 ex)
      rw [cn_yes ex, cn_no eh, eh]
      exact ⟨by omega, fun h => ⟨by omega, .inr rfl⟩, fun h => by omega⟩
    | false =>
      rw [cn_no ex]
      cases eh : hasB hs k with
      | true =>
        rw [cn_yes eh]
        exact ⟨by omega, fun h => ⟨by omega, .inl rfl⟩, fun h => by omega⟩
      | false =>
        rw [cn_no eh]
        refine ⟨by omega, fun h => by omega, fun h => ?_⟩
        rcases h.2 with g | g <;> cases g
theorem may_ris {M : Nat} {hs xs : List Int} (h : mayR M hs 0 xs = true) : risB M 0 xs = true := by
  obtain ⟨h1, h2⟩ := mayR_iff.1 h
  exact risB_of h1 fun x hx => ⟨(h2 x hx).1, (h2 x hx).2.1⟩
theorem may_len {M : Nat} {hs xs : List Int} (hr : risB M 0 hs = true) (h : mayR M hs 0 xs = true) : xs.length + hs.length ≤ M ∧ (xs.length + hs.length = M ↔ fullB M hs xs = true) := by
  have hd : ∀ x ∈ xs, hasB hs x = false := fun x hx => ((mayR_iff.1 h).2 x hx).2.2
  have k := cn_two hd M
  rw [cn_len (may_ris h) (Int.le_refl _) rfl, cn_len hr (Int.le_refl _) rfl] at k
  exact ⟨k.1, by rw [k.2, fullB_iff]⟩
theorem full_is {M : Nat} {hs xs : List Int} (hr : risB M 0 hs = true) (h : mayR M hs 0 xs = true) : (((xs.length : Nat) : Int) == (M : Int) - ((hs.length : Nat) : Int)) = fullB M hs xs := by
  have k := may_len hr h
  rw [Bool.eq_iff_iff, ← k.2]
  simp only [beq_iff_eq]
  omega
/-- The set that a test tells, below k. -/
def os (f : Nat → Bool) : Nat → List Int
  | 0 => []
  | k + 1 => os f k ++ (if f k = true then [(k : Int)] else [])
theorem os_yes {f : Nat → Bool} {k : Nat} (h : f k = true) : os f (k + 1) = os f k ++ [(k : Int)] := by rw [os, if_pos h]
theorem os_no {f : Nat → Bool} {k : Nat} (h : f k = false) : os f (k + 1) = os f k := by rw [os, h]; simp
theorem mem_os {f : Nat → Bool} {k : Nat} {z : Int} : z ∈ os f k ↔ ∃ i : Nat, i < k ∧ f i = true ∧ z = (i : Int) := by
  induction k with
  | zero => exact ⟨fun h => (by cases h), fun ⟨i, hi, _⟩ => by omega⟩
  | succ k ih =>
    rw [os, List.mem_append, ih]
    constructor
    · rintro (⟨i, h1, h2, h3⟩ | h)
      · exact ⟨i, by omega, h2, h3⟩
      · split at h
        · rename_i e
          exact ⟨k, by omega, e, by simpa using h⟩
        · cases h
    · rintro ⟨i, h1, h2, h3⟩
      rcases Nat.lt_or_ge i k with g | g
      · exact .inl ⟨i, g, h2, h3⟩
      · obtain rfl : i = k := by omega
        rw [if_pos h2]
        exact .inr (by simpa using h3)
theorem ris_os (f : Nat → Bool) (k : Nat) : Ris (os f k) := by
  induction k with
  | zero => exact Ris.nil
  | succ k ih =>
    rw [os]
    refine Ris.two ih ?_ ?_
    · split
      · exact List.pairwise_singleton _ _
      · exact Ris.nil
    · intro a ha b hb
      obtain ⟨i, h1, _, rfl⟩ := mem_os.1 ha
      split at hb
      · have : b = (k : Int) := by simpa using hb
        omega
      · cases hb
theorem len_os (f : Nat → Bool) (k : Nat) : (os f k).length ≤ k := by
  induction k with
  | zero => exact Nat.le_refl _
  | succ k ih =>
    rw [os, List.length_append]
    split
    · simp; omega
    · simp; omega
theorem os_congr {f g : Nat → Bool} {k m : Nat} (h : ∀ i, (i < k ∧ f i = true) ↔ (i < m ∧ g i = true)) : os f k = os g m :=
  (ris_os f k).ext (ris_os g m) fun z => by
    rw [mem_os, mem_os]
    constructor
    · rintro ⟨i, h1, h2, h3⟩
      have := (h i).1 ⟨h1, h2⟩
      exact ⟨i, this.1, this.2, h3⟩
    · rintro ⟨i, h1, h2, h3⟩
      have := (h i).2 ⟨h1, h2⟩
      exact ⟨i, this.1, this.2, h3⟩
/-- Which offsets are used: bit set, not reserved. -/
def uf (hs : List Int) (ys : List Nat) (i : Nat) : Bool := (gt ys (i / 32)).testBit (i % 32) && !hasB hs (i : Int)
theorem os_may (M : Nat) (hs : List Int) (ys : List Nat) : mayR M hs 0 (os (uf hs ys) M) = true := by
  refine mayR_iff.2 ⟨ris_os _ _, fun x hx => ?_⟩
  obtain ⟨i, h1, h2, rfl⟩ := mem_os.1 hx
  unfold uf at h2
  simp only [Bool.and_eq_true, Bool.not_eq_true'] at h2
  exact ⟨by omega, by omega, h2.2⟩
end Go.Proofs.YtmakbmmnjbnfiaaDoor

