/-
  A block of words of the call's own that is written into, cell by cell, and read then. No condition on the program.
-/
import Derived.Test.YtlaejiephpmniaaSeekWalk
namespace Go.Proofs.Ytlaejiephpmniaa
open Go.RowKit
set_option linter.unusedVariables false
/-- A block that is known whole, in memory that is new. -/
theorem Loc.own {w0 w w' : World} {bs : List Bl} {fs : List Fct} {g : Nat} {t : TypeId} {l : Array Value} (h : Loc w0 w bs fs) (K' : Below w.heap.size w w') (hg : w.heap.size ≤ g) (hB : Bk w' g t l) : Loc w0 w' ((g, t, l) :: bs) fs := by
  have h' := h.over K'
  refine ⟨h'.K, fun i b e => ?_, fun i j b b' e e' hij => ?_, fun f e => ?_⟩
  · match i, e with
    | 0, e => injection e with e; subst e; exact ⟨hB, Nat.le_trans h.K.size hg⟩
    | i + 1, e => exact h'.bk i b e
  · match i, j, e, e', hij with
    | 0, 0, _, _, hij => exact absurd rfl hij
    | 0, j + 1, e, e', _ =>
      injection e with e; subst e
      have := h.lts j b' e'
      show g ≠ b'.1
      omega
    | i + 1, 0, e, e', _ =>
      injection e' with e'; subst e'
      have := h.lts i b e
      show b.1 ≠ g
      omega
    | i + 1, j + 1, e, e', hij => exact h'.ne i j b b' e e' (by omega)
  · obtain ⟨p, ok, d⟩ := h'.fc f e
    refine ⟨p, ok, fun i b e' => ?_⟩
    match i, e' with
    | 0, e' =>
      injection e' with e'; subst e'
      intro hf
      have := ok.inb _ _ (h.fc f e).1 hf
      simp at this
      omega
    | i + 1, e' => exact d i b e'
/-- A block holds these words ahead of its room. -/
def Cw (cw : Array Value) (n : Nat) (xs : List Nat) : Prop := ∀ j, j < n → cw[j]? = some (.int .u64 (gt xs j : Nat))
theorem own_block {w : World} {base g n c : Nat} {t : TypeId} {xs : List Nat} (h : Own w base g n c t xs) : ∃ cw, Bk w g t cw ∧ Cw cw n xs ∧ n ≤ c ∧ c ≤ maxLen := by
  have hl : xs.length = n := by have := h.1; simpa using this
  have hc := fun (i : Nat) (hi : i < n) => Own.cell h hi
  rcases h.2 with ⟨hv, _⟩ | ⟨g', cap, cur, hv, hb, hh, hnc, hcm, hcs, ht⟩
  · cases hv
  · injection hv with h1 h2 h3
    injection h1 with h1
    injection h1 with h1
    subst h1; subst h3
    exact ⟨cur, hh, fun j hj => by rw [← hc j hj]; exact (cell_of_row w g j _ _ (0, 0) hh).symm, hnc, hcm⟩
theorem Cw.us {w : World} {g n c : Nat} {t : TypeId} {cw : Array Value} {xs : List Nat} (h : Cw cw n xs) (hB : Bk w g t cw) (hl : xs.length = n) (hf : ∀ x ∈ xs, x < U64) (hn : n ≤ c) (hc : c ≤ maxLen) : US w (some ⟨g, 0, none⟩) n c xs :=
  ⟨hl, hn, hc, (fun e => by cases e), hf, fun _ => ⟨g, 0, rfl, hB.lt, fun j hj => by rw [Nat.zero_add]; exact hB.at_ j (h j hj)⟩⟩
theorem Cw.set_ {n i v : Nat} {cw : Array Value} {xs : List Nat} (h : Cw cw n xs) (hl : xs.length = n) (hi : i < n) : Cw (cw.setIfInBounds i (.int .u64 (v : Nat))) n (xs.set i v) := fun j hj => by
  rw [Array.getElem?_setIfInBounds, gt_set (by omega)]
  by_cases e : i = j
  · subst e
    have := h i hi
    rw [if_pos rfl, if_pos rfl, if_pos (by rcases Nat.lt_or_ge i cw.size with h1 | h1; exact h1; rw [Array.getElem?_eq_none h1] at this; cases this)]
  · rw [if_neg e, if_neg e]
    exact h j hj
theorem cw_here {cw : Array Value} {n : Nat} {xs : List Nat} (h : Cw cw n xs) {j x : Nat} (hj : j < n) (hx : x = gt xs j) : cw[j]? = some (.int .u64 ((x : Nat) : Int)) := by rw [hx]; exact h j hj
/-- The words with j of them, from the L-th on, turned to 0. -/
def zr (L : Nat) (ys : List Nat) : Nat → List Nat
  | 0 => ys
  | j + 1 => (zr L ys j).set (L + j) 0
theorem zr_len {L : Nat} {ys : List Nat} : ∀ j, (zr L ys j).length = ys.length
  | 0 => rfl
  | j + 1 => by unfold zr; rw [List.length_set, zr_len j]
theorem zr_at {L : Nat} {ys : List Nat} : ∀ j x, L + j ≤ ys.length → gt (zr L ys j) x = if L ≤ x ∧ x < L + j then 0 else gt ys x
  | 0, x, _ => by rw [if_neg (by omega)]; rfl
  | j + 1, x, h => by
    show gt ((zr L ys j).set (L + j) 0) x = _
    rw [gt_set (by rw [zr_len]; omega)]
    by_cases e : L + j = x
    · rw [if_pos e, if_pos (by omega)]
    · rw [if_neg e, zr_at j x (by omega)]
      by_cases e2 : L ≤ x ∧ x < L + j
      · rw [if_pos e2, if_pos (by omega)]
      · rw [if_neg e2, if_neg (by omega)]
theorem zr_fit {L : Nat} {ys : List Nat} (hf : ∀ x ∈ ys, x < U64) : ∀ j, ∀ x ∈ zr L ys j, x < U64
  | 0, x, hx => hf x hx
  | j + 1, x, hx => by
    rcases List.mem_or_eq_of_mem_set hx with h | h
    · exact zr_fit hf j x h
    · rw [h]; decide
/-- All hints say that all is free. -/
theorem sk_free2 {M ns hd k t : Nat} {ys : List Nat} {s : Sc} (hns : 1 ≤ ns) (hhd : hd < ns) (hL : 0 < lv M) (hfr : ∀ i, i < lv M → hf M ys i = false) (hx : gt ys (lv M + tv M) < 18446744073709551616) {st : Nat} (hA : SkA M ns hd ys s k t) (hst : st = k + (if t = 0 then 0 else 1)) :
    (∃ k' t', SkA M ns hd ys (skS (ns : Int) M ys (sa M ns hd k) (sb M ns hd k) s) k' t' ∧ st + 1 = k' + (if t' = 0 then 0 else 1)) ∨ SkB M ns hd ys (skS (ns : Int) M ys (sa M ns hd k) (sb M ns hd k) s) k (sa M ns hd k) := by
  have pasno : ∀ {k2 : Nat}, Pas M ns hd ys k2 → ∀ j, j < k2 → ∀ i, sa M ns hd j ≤ i → ¬ i < sb M ns hd j := fun h j hj i h1 h2 => by have := h j hj i h1 h2; rw [hfr i (Nat.lt_of_lt_of_le h2 (sab hns).2)] at this; cases this
  rcases sk_step hns hx hA with ⟨u, hu, h⟩ | h | ⟨i, h⟩ | h
  · rcases Nat.eq_zero_or_pos t with rfl | htp
    · rw [if_pos rfl] at hst
      exact .inl ⟨k, u, h, by rw [if_neg (by omega)]; omega⟩
    · obtain ⟨hx1, hr, hin, hl⟩ := hA.on (by omega)
      have hc := cnt_top.1 hin
      exfalso
      have h2 := (h.on (by omega)).2.2.2 (max (sa M ns hd k) (64 * (t - 1))) (by omega) (by omega) (by omega)
      rw [hfr _ (by have := (sab (M := M) (hd := hd) (k := k) hns).2; omega)] at h2; cases h2
  · rcases Nat.eq_zero_or_pos t with rfl | htp
    · rw [if_pos rfl] at hst
      exact .inl ⟨k + 1, 0, h, by rw [if_pos rfl]; omega⟩
    · obtain ⟨hx1, hr, hin, hl⟩ := hA.on (by omega)
      have hc := cnt_top.1 hin
      exact absurd hc.1 (pasno h.pas k (by omega) _ (Nat.le_refl _))
  · have e : i = sa M ns hd k := by
      have h1 := h.lo
      rcases Nat.lt_or_ge (sa M ns hd k) i with h2 | h2
      · have := h.fst _ (Nat.le_refl _) h2; rw [hfr _ (by have := h.hi; have := (sab (M := M) (hd := hd) (k := k) hns).2; omega)] at this; cases this
      · omega
    subst e
    exact .inr h
  · have := sk_done hns hhd h hL
    rw [hfr _ hL] at this; cases this
theorem zr_hf {M : Nat} {ys : List Nat} (hl : ys.length = lv M + tv M + 1) {i : Nat} (hi : i < lv M) : hf M (zr (lv M) ys (tv M + 1)) i = false := by
  have ht : i / 64 < tv M := by unfold tv tq; omega
  unfold hf
  rw [zr_at _ _ (by omega), zr_at _ _ (by omega), if_pos (by omega), if_pos (by omega)]
  simp
end Go.Proofs.Ytlaejiephpmniaa
