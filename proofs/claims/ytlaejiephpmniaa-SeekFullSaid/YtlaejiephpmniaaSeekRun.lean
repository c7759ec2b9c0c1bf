/-
  A seek, step by step: which leaves it has passed, where it is, how far it can go on. No program in it.
-/
import Derived.Test.YtlaejiephpmniaaSeekMath2
import Derived.Test.YtlaejiephpmniaaSeekStep
namespace Go.Proofs.Ytlaejiephpmniaa
set_option linter.unusedVariables false
theorem hit_iff {at_ x t : Nat} : hit at_ x t = true ↔ at_ ≤ t ∧ x.testBit t = false := by
  unfold hit
  simp
theorem nxt_cases (a b at_ x : Nat) : (∃ t, nxt a b at_ x = some t ∧ a / 64 ≤ t ∧ t < a / 64 + cnt_ a b ∧ at_ ≤ t ∧ x.testBit t = false ∧ ∀ u, a / 64 ≤ u → u < t → at_ ≤ u → x.testBit u = true) ∨
    (nxt a b at_ x = none ∧ ∀ u, a / 64 ≤ u → u < a / 64 + cnt_ a b → at_ ≤ u → x.testBit u = true) := by
  have aux : ∀ m, m ≤ cnt_ a b → (∀ j, j < m → hit at_ x (a / 64 + j) = false) ∨ ∃ k, k < m ∧ (∀ j, j < k → hit at_ x (a / 64 + j) = false) ∧ hit at_ x (a / 64 + k) = true := fun m => by
    induction m with
    | zero => intro _; exact .inl fun j h => absurd h (by omega)
    | succ m ih =>
      intro h
      rcases ih (by omega) with h1 | ⟨k, hk, h1, h2⟩
      · cases hb : hit at_ x (a / 64 + m) with
        | true => exact .inr ⟨m, by omega, h1, hb⟩
        | false =>
          refine .inl fun j hj => ?_
          by_cases e : j = m
          · rw [e]; exact hb
          · exact h1 j (by omega)
      · exact .inr ⟨k, by omega, h1, h2⟩
  have bit : ∀ u, hit at_ x u = false → at_ ≤ u → x.testBit u = true := fun u h hu => by
    cases hx : x.testBit u with
    | true => rfl
    | false => have := hit_iff.2 ⟨hu, hx⟩; rw [h] at this; cases this
  rcases aux _ (Nat.le_refl _) with h | ⟨k, hk, h1, h2⟩
  · refine .inr ⟨nxt_none h, fun u h1 h2 h3 => bit u ?_ h3⟩
    have := h (u - a / 64) (by omega)
    rwa [show a / 64 + (u - a / 64) = u by omega] at this
  · have hh := hit_iff.1 h2
    refine .inl ⟨a / 64 + k, nxt_some hk h1 h2, by omega, by omega, hh.1, hh.2, fun u g1 g2 g3 => bit u ?_ g3⟩
    have := h1 (u - a / 64) (by omega)
    rwa [show a / 64 + (u - a / 64) = u by omega] at this
theorem in_top {a b i : Nat} (h1 : a ≤ i) (h2 : i < b) : a / 64 ≤ i / 64 ∧ i / 64 < a / 64 + cnt_ a b := cnt_top.2 ⟨by omega, by omega, by omega⟩
theorem fre_cases (a b x t : Nat) : (∃ i, fre a b x t = some i ∧ a ≤ i ∧ i < b ∧ i / 64 = t ∧ x.testBit (i % 64) = false ∧ ∀ j, a ≤ j → j < i → j / 64 = t → x.testBit (j % 64) = true) ∨
    (fre a b x t = none ∧ ∀ j, a ≤ j → j < b → j / 64 = t → x.testBit (j % 64) = true) := by
  by_cases hin : a / 64 ≤ t ∧ t < a / 64 + cnt_ a b
  · have hc := cnt_top.1 hin
    have e1 : bfr a t = max a (64 * t) - 64 * t := rfl
    have e2 : bto b t = min b (64 * t + 64) - 64 * t := rfl
    have out : ∀ j, a ≤ j → j / 64 = t → ¬ (j % 64 < bfr a t) := fun j h1 h2 => by omega
    cases hf : fb (fl_ x (bfr a t)) (bto b t) with
    | true =>
      have hy := f_yes hf
      generalize hfi : fi (fl_ x (bfr a t)) (bto b t) = f at hy
      have hb := hy.2.1
      rw [fl_bit, Bool.or_eq_false_iff, decide_eq_false_iff_not] at hb
      refine .inl ⟨64 * t + f, ?_, by omega, by omega, by omega, ?_, fun j h1 h2 h3 => ?_⟩
      · unfold fre
        rw [inT_yes hin, if_pos rfl, hf, if_pos rfl, hfi]
      · rw [show (64 * t + f) % 64 = f by omega]; exact hb.1
      · have := hy.2.2 (j % 64) (by omega)
        rw [fl_bit, decide_eq_false (out j h1 h3), Bool.or_false] at this
        exact this
    | false =>
      have hn := (f_no hf).2
      refine .inr ⟨?_, fun j h1 h2 h3 => ?_⟩
      · unfold fre
        rw [inT_yes hin, if_pos rfl, hf, if_neg Bool.false_ne_true]
      · have := hn (j % 64) (by omega)
        rw [fl_bit, decide_eq_false (out j h1 h3), Bool.or_false] at this
        exact this
  · refine .inr ⟨?_, fun j h1 h2 h3 => ?_⟩
    · unfold fre
      rw [inT_no hin, if_neg Bool.false_ne_true]
    · have := in_top h1 h2
      rw [h3] at this
      exact absurd this hin
/-- Is the leaf hinted to be full? -/
def hf (M : Nat) (ys : List Nat) (i : Nat) : Bool := (gt ys (lv M + i / 64)).testBit (i % 64) || (gt ys (lv M + tv M)).testBit (i / 64)
/-- The leaves of the k-th shard that is sought. -/
def sa (M ns hd k : Nat) : Nat := ct (lv M) ns ((hd + k) % ns)
def sb (M ns hd k : Nat) : Nat := ct (lv M) ns ((hd + k) % ns + 1)
theorem sab {M ns hd k : Nat} (h : 1 ≤ ns) : sa M ns hd k ≤ sb M ns hd k ∧ sb M ns hd k ≤ lv M := by
  refine ⟨ct_mono (by omega), ?_⟩
  have := ct_mono (L := lv M) (p := ns) (show (hd + k) % ns + 1 ≤ ns by have := Nat.mod_lt (hd + k) h; omega)
  rwa [ct_all h] at this
def Pas (M ns hd : Nat) (ys : List Nat) (k : Nat) : Prop := ∀ j, j < k → ∀ i, sa M ns hd j ≤ i → i < sb M ns hd j → hf M ys i = true
structure SkA (M ns hd : Nat) (ys : List Nat) (s : Sc) (k t : Nat) : Prop where
  ph : s.phase = 1
  sd : s.shard = (hd : Int)
  so : s.sought = (k : Int)
  at' : s.at_ = (t : Int)
  hk : k < ns
  ht : t ≤ tv M
  hw : s.word < 18446744073709551616
  pas : Pas M ns hd ys k
  on : t ≠ 0 → s.word = gt ys (lv M + tv M) ∧ (gt ys (lv M + tv M)).testBit (t - 1) = false ∧ (sa M ns hd k / 64 ≤ t - 1 ∧ t - 1 < sa M ns hd k / 64 + cnt_ (sa M ns hd k) (sb M ns hd k)) ∧ ∀ i, sa M ns hd k ≤ i → i < sb M ns hd k → i / 64 < t - 1 → hf M ys i = true
structure SkB (M ns hd : Nat) (ys : List Nat) (s : Sc) (k i : Nat) : Prop where
  ph : s.phase = 2
  sd : s.shard = (hd : Int)
  so : s.sought = (k : Int)
  lf : s.leaf = (i : Int)
  hk : k < ns
  pas : Pas M ns hd ys k
  lo : sa M ns hd k ≤ i
  hi : i < sb M ns hd k
  un : hf M ys i = false
  fst : ∀ j, sa M ns hd k ≤ j → j < i → hf M ys j = true
structure SkC (M ns hd : Nat) (ys : List Nat) (s : Sc) : Prop where
  ph : s.phase = 6
  sd : s.shard = (hd : Int)
  so : s.sought = (ns : Int)
  pas : Pas M ns hd ys ns
section
variable {M ns hd k t : Nat} {ys : List Nat} {s : Sc}
theorem Pas.succ (h : Pas M ns hd ys k) (h2 : ∀ i, sa M ns hd k ≤ i → i < sb M ns hd k → hf M ys i = true) : Pas M ns hd ys (k + 1) := fun j hj i h3 h4 => by
  by_cases e : j = k
  · subst e; exact h2 i h3 h4
  · exact h j (by omega) i h3 h4
/-- Nothing is left in the shard. -/
theorem sk_else (h1 : s.shard = (hd : Int)) (h2 : s.sought = (k : Int)) (hk : k < ns) (hp : Pas M ns hd ys (k + 1)) : SkA M ns hd ys (elsS (ns : Int) s) (k + 1) 0 ∨ SkC M ns hd ys (elsS (ns : Int) s) := by
  unfold elsS
  split
  · rename_i h
    exact .inl ⟨rfl, h1, by show s.sought + 1 = _; omega, rfl, by omega, Nat.zero_le _, by show 0 < _; omega, hp, fun h => absurd rfl h⟩
  · rename_i h
    have e : k + 1 = ns := by omega
    subst e
    exact .inr ⟨rfl, h1, by show s.sought + 1 = _; omega, hp⟩
theorem sk_on (hns : 1 ≤ ns) (hx : s.word = gt ys (lv M + tv M)) (hwd : s.word < 18446744073709551616) (h0 : s.phase = 1) (h1 : s.shard = (hd : Int)) (h2 : s.sought = (k : Int)) (h3 : s.at_ = (t : Int)) (hk : k < ns) (hp : Pas M ns hd ys k)
    (hl : ∀ i, sa M ns hd k ≤ i → i < sb M ns hd k → i / 64 < t → hf M ys i = true) :
    (∃ u, t < u ∧ SkA M ns hd ys (onS (ns : Int) (sa M ns hd k) (sb M ns hd k) s) k u) ∨ SkA M ns hd ys (onS (ns : Int) (sa M ns hd k) (sb M ns hd k) s) (k + 1) 0 ∨ SkC M ns hd ys (onS (ns : Int) (sa M ns hd k) (sb M ns hd k) s) := by
  obtain ⟨hab, hbl⟩ := sab (M := M) (hd := hd) (k := k) hns
  unfold onS
  rw [h3, Int.toNat_natCast]
  have root : ∀ i, (gt ys (lv M + tv M)).testBit (i / 64) = true → hf M ys i = true := fun i h => by unfold hf; rw [h, Bool.or_true]
  rcases nxt_cases (sa M ns hd k) (sb M ns hd k) t s.word with ⟨u, e, g1, g2, g3, g4, g5⟩ | ⟨e, g⟩
  · rw [e]
    refine .inl ⟨u + 1, by omega, h0, h1, h2, rfl, hk, ?_, hwd, hp, fun _ => ⟨hx, by rw [Nat.add_sub_cancel, ← hx]; exact g4, by rw [Nat.add_sub_cancel]; exact ⟨g1, g2⟩, fun i i1 i2 i3 => ?_⟩⟩
    · have := cnt_top.1 ⟨g1, g2⟩
      unfold tv tq
      omega
    · rw [Nat.add_sub_cancel] at i3
      by_cases hit : i / 64 < t
      · exact hl i i1 i2 hit
      · have := g5 (i / 64) (in_top i1 i2).1 i3 (by omega)
        rw [hx] at this
        exact root i this
  · rw [e]
    refine .inr (sk_else h1 h2 hk (hp.succ fun i i1 i2 => ?_))
    by_cases hit : i / 64 < t
    · exact hl i i1 i2 hit
    · have := g (i / 64) (in_top i1 i2).1 (in_top i1 i2).2 (by omega)
      rw [hx] at this
      exact root i this
theorem sk_step (hns : 1 ≤ ns) (hf64 : gt ys (lv M + tv M) < 18446744073709551616) (hA : SkA M ns hd ys s k t) :
    (∃ u, t < u ∧ SkA M ns hd ys (skS (ns : Int) M ys (sa M ns hd k) (sb M ns hd k) s) k u) ∨ SkA M ns hd ys (skS (ns : Int) M ys (sa M ns hd k) (sb M ns hd k) s) (k + 1) 0 ∨ (∃ i, SkB M ns hd ys (skS (ns : Int) M ys (sa M ns hd k) (sb M ns hd k) s) k i) ∨ SkC M ns hd ys (skS (ns : Int) M ys (sa M ns hd k) (sb M ns hd k) s) := by
  have put : ∀ {p q r : Prop} {P : Nat → Prop}, p ∨ q ∨ r → p ∨ q ∨ (∃ i, P i) ∨ r := fun h => h.elim .inl fun h => .inr (h.elim .inl fun h => .inr (.inr h))
  obtain ⟨h0, h1, h2, h3, hk, ht, hw, hp, hon⟩ := hA
  unfold skS
  rcases Nat.eq_zero_or_pos t with rfl | htp
  · rw [if_pos (show s.at_ = 0 from h3)]
    exact put (sk_on (t := 0) hns rfl hf64 h0 h1 h2 h3 hk hp (fun i _ _ h => absurd h (by omega)))
  · obtain ⟨hx, hr, hin, hl⟩ := hon (by omega)
    rw [if_neg (by omega), h3, Int.toNat_natCast]
    rcases fre_cases (sa M ns hd k) (sb M ns hd k) (gt ys (lv M + (t - 1))) (t - 1) with ⟨i, e, g1, g2, g3, g4, g5⟩ | ⟨e, g⟩
    · rw [e]
      refine .inr (.inr (.inl ⟨i, rfl, h1, h2, rfl, hk, hp, g1, g2, ?_, fun j j1 j2 => ?_⟩))
      · unfold hf; rw [g3, g4, hr]; rfl
      · by_cases hj : j / 64 < t - 1
        · exact hl j j1 (by omega) hj
        · have := g5 j j1 j2 (by omega)
          unfold hf; rw [show j / 64 = t - 1 by omega, this]; rfl
    · rw [e]
      refine put (sk_on hns hx hw h0 h1 h2 h3 hk hp fun i i1 i2 i3 => ?_)
      by_cases hj : i / 64 < t - 1
      · exact hl i i1 i2 hj
      · have := g i i1 i2 (by omega)
        unfold hf; rw [show i / 64 = t - 1 by omega, this]; rfl
/-- Each leaf is of a shard that is sought. -/
theorem sk_cover (hns : 1 ≤ ns) (hhd : hd < ns) {i : Nat} (hi : i < lv M) : ∃ s j, s < ns ∧ j < ns ∧ (hd + j) % ns = s ∧ (s + ns - hd) % ns = j ∧ sa M ns hd j ≤ i ∧ i < sb M ns hd j ∧ sa M ns hd j = ct (lv M) ns s ∧ sb M ns hd j = ct (lv M) ns (s + 1) := by
  have aux : ∀ m, m ≤ ns → (∃ s, s < m ∧ ct (lv M) ns s ≤ i ∧ i < ct (lv M) ns (s + 1)) ∨ ct (lv M) ns m ≤ i := fun m => by
    induction m with
    | zero => intro _; exact .inr (by rw [ct_zero]; exact Nat.zero_le _)
    | succ m ih =>
      intro h
      rcases ih (by omega) with ⟨s, h1, h2⟩ | h1
      · exact .inl ⟨s, by omega, h2⟩
      · by_cases h2 : i < ct (lv M) ns (m + 1)
        · exact .inl ⟨m, by omega, h1, h2⟩
        · exact .inr (by omega)
  rcases aux ns (Nat.le_refl _) with ⟨s, hs, h1, h2⟩ | h
  · have e1 : (hd + (s + ns - hd) % ns) % ns = s := by
      rw [Nat.add_mod_mod, show hd + (s + ns - hd) = s + ns by omega, Nat.add_mod_right, Nat.mod_eq_of_lt hs]
    refine ⟨s, (s + ns - hd) % ns, hs, Nat.mod_lt _ hns, e1, rfl, ?_, ?_, ?_, ?_⟩
    · unfold sa; rw [e1]; exact h1
    · unfold sb; rw [e1]; exact h2
    · unfold sa; rw [e1]
    · unfold sb; rw [e1]
  · rw [ct_all hns] at h; omega
theorem sk_done (hns : 1 ≤ ns) (hhd : hd < ns) (hC : SkC M ns hd ys s) {i : Nat} (hi : i < lv M) : hf M ys i = true := by
  obtain ⟨u, j, h1, h2, h3, h4, h5, h6, _⟩ := sk_cover hns hhd hi
  exact hC.pas j h2 i h5 h6
/-- How many steps are left at most. -/
def mu (M ns k t : Nat) : Nat := (ns - k) * (2 + tv M) - t
theorem mu_on {M ns k t u : Nat} (hk : k < ns) (hu : u ≤ tv M) (h : t < u) : mu M ns k u + 1 ≤ mu M ns k t := by
  unfold mu
  have : 2 + tv M ≤ (ns - k) * (2 + tv M) := Nat.le_mul_of_pos_left _ (by omega)
  omega
theorem mu_next {M ns k t : Nat} (hk : k < ns) (ht : t ≤ tv M) : mu M ns (k + 1) 0 + 1 ≤ mu M ns k t := by
  unfold mu
  have : (ns - k) * (2 + tv M) = (ns - (k + 1)) * (2 + tv M) + (2 + tv M) := by
    rw [show ns - k = ns - (k + 1) + 1 by omega, Nat.add_mul, Nat.one_mul]
  omega
theorem mu_pos {M ns k t : Nat} (hk : k < ns) (ht : t ≤ tv M) : 2 ≤ mu M ns k t := by
  unfold mu
  have : 2 + tv M ≤ (ns - k) * (2 + tv M) := Nat.le_mul_of_pos_left _ (by omega)
  omega
/-- Where a seek may be, when st steps at most are left. -/
def SkI (M ns hd : Nat) (ys : List Nat) (s : Sc) (left : Nat) : Prop := (∃ k t, SkA M ns hd ys s k t ∧ mu M ns k t ≤ left) ∨ (∃ k i, SkB M ns hd ys s k i) ∨ SkC M ns hd ys s
theorem ski_step (hns : 1 ≤ ns) (hf64 : gt ys (lv M + tv M) < 18446744073709551616) {left : Nat} (hA : SkA M ns hd ys s k t) (hl : mu M ns k t ≤ left) :
    1 ≤ left ∧ SkI M ns hd ys (skS (ns : Int) M ys (sa M ns hd k) (sb M ns hd k) s) (left - 1) := by
  have hp := mu_pos hA.hk hA.ht
  refine ⟨by omega, ?_⟩
  rcases sk_step hns hf64 hA with ⟨u, hu, h⟩ | h | ⟨i, h⟩ | h
  · have := mu_on hA.hk h.ht hu
    exact .inl ⟨k, u, h, by omega⟩
  · have := mu_next hA.hk hA.ht
    exact .inl ⟨k + 1, 0, h, by omega⟩
  · exact .inr (.inl ⟨k, i, h⟩)
  · exact .inr (.inr h)
theorem ski_end (h : SkI M ns hd ys s 0) : (∃ k i, SkB M ns hd ys s k i) ∨ SkC M ns hd ys s := by
  rcases h with ⟨k, t, h, h2⟩ | h
  · have := mu_pos h.hk h.ht; omega
  · exact h
/-- The root says that all is full. -/
theorem sk_full (hns : 1 ≤ ns) (hr : gt ys (lv M + tv M) = 18446744073709551615) (ht : tv M ≤ 64) (hA : SkA M ns hd ys s k 0) :
    (k + 1 < ns ∧ SkA M ns hd ys (skS (ns : Int) M ys (sa M ns hd k) (sb M ns hd k) s) (k + 1) 0) ∨ (k + 1 = ns ∧ SkC M ns hd ys (skS (ns : Int) M ys (sa M ns hd k) (sb M ns hd k) s)) := by
  have ones : ∀ u, u < 64 → (gt ys (lv M + tv M)).testBit u = true := fun u hu => by
    rw [hr, show (18446744073709551615 : Nat) = 2 ^ 64 - 1 by decide, Nat.testBit_two_pow_sub_one]; simpa using hu
  rcases sk_step hns (by rw [hr]; omega) hA with ⟨u, hu, h⟩ | h | ⟨i, h⟩ | h
  · have := h.on (by omega)
    have h64 := h.ht
    rw [ones (u - 1) (by omega)] at this
    exact absurd this.2.1 (by simp)
  · exact .inl ⟨h.hk, h⟩
  · have h1 := h.un
    unfold hf at h1
    have := (sab (M := M) (hd := hd) (k := k) hns).2
    have hi := h.hi
    have : i / 64 < tv M := by unfold tv tq; omega
    rw [ones (i / 64) (by omega), Bool.or_true] at h1
    cases h1
  · refine .inr ⟨?_, h⟩
    have h1 := h.so
    unfold skS at h1
    rw [if_pos (show s.at_ = 0 from hA.at')] at h1
    unfold onS at h1
    split at h1
    · have h2 : s.sought = (ns : Int) := h1
      have := hA.so; have := hA.hk; omega
    · unfold elsS at h1
      split at h1
      · have h2 : s.sought + 1 = (ns : Int) := h1
        have := hA.so; omega
      · have h2 : s.sought + 1 = (ns : Int) := h1
        have := hA.so; omega
/-- All hints say that all is free. -/
theorem sk_free (hns : 1 ≤ ns) (hhd : hd < ns) (hL : 0 < lv M) (hfr : ∀ i, hf M ys i = false) (hx : gt ys (lv M + tv M) < 18446744073709551616) {st : Nat} (hA : SkA M ns hd ys s k t) (hst : st = k + (if t = 0 then 0 else 1)) :
    (∃ k' t', SkA M ns hd ys (skS (ns : Int) M ys (sa M ns hd k) (sb M ns hd k) s) k' t' ∧ st + 1 = k' + (if t' = 0 then 0 else 1)) ∨ SkB M ns hd ys (skS (ns : Int) M ys (sa M ns hd k) (sb M ns hd k) s) k (sa M ns hd k) := by
  have pasno : ∀ {k2 : Nat}, Pas M ns hd ys k2 → ∀ j, j < k2 → ∀ i, sa M ns hd j ≤ i → ¬ i < sb M ns hd j := fun h j hj i h1 h2 => by have := h j hj i h1 h2; rw [hfr] at this; cases this
  rcases sk_step hns hx hA with ⟨u, hu, h⟩ | h | ⟨i, h⟩ | h
  · rcases Nat.eq_zero_or_pos t with rfl | htp
    · rw [if_pos rfl] at hst
      exact .inl ⟨k, u, h, by rw [if_neg (by omega)]; omega⟩
    · obtain ⟨hx1, hr, hin, hl⟩ := hA.on (by omega)
      have hc := cnt_top.1 hin
      exfalso
      have h2 := (h.on (by omega)).2.2.2 (max (sa M ns hd k) (64 * (t - 1))) (by omega) (by omega) (by omega)
      rw [hfr] at h2; cases h2
  · rcases Nat.eq_zero_or_pos t with rfl | htp
    · rw [if_pos rfl] at hst
      exact .inl ⟨k + 1, 0, h, by rw [if_pos rfl]; omega⟩
    · obtain ⟨hx1, hr, hin, hl⟩ := hA.on (by omega)
      have hc := cnt_top.1 hin
      exact absurd hc.1 (pasno h.pas k (by omega) _ (Nat.le_refl _))
  · have e : i = sa M ns hd k := by
      have h1 := h.lo
      rcases Nat.lt_or_ge (sa M ns hd k) i with h2 | h2
      · have := h.fst _ (Nat.le_refl _) h2; rw [hfr] at this; cases this
      · omega
    subst e
    exact .inr h
  · have := sk_done hns hhd h hL
    rw [hfr] at this; cases this
end
end Go.Proofs.Ytlaejiephpmniaa
