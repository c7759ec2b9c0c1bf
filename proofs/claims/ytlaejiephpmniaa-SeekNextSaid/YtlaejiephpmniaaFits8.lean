/-
  What the document's Fits and Whole tell: where they answer true, the configuration may be, the cells are as many as there are, and the operation is one of it. Conditions: none but what a law's arguments are.
-/
import Derived.Test.YtlaejiephpmniaaShardCalls
namespace Go.Proofs.Ytlaejiephpmniaa
open Go.RowKit
set_option linter.unusedVariables false
def RetW (P : Prop) (w : World) (e : Ending) (w' : World) : Prop := ∃ b, e = .returned (.bool b) ∧ (b = true → P) ∧ Below w.heap.size w w'
section
variable {w : World} {lo lo2 a M m d : Nat} {p sh wo qu tr : Int} {A B : Option Addr} {n c : Nat} {zs : List Int} {xs : List Int} {h : Hd} {s : Sc}
theorem fits0 (ha : a < 4294967296) (h0 : IS .i64 lo w A n c zs) (hb : confB a p n zs sh wo qu tr = false) :
    Calls Try.prog 8 #[.agg #[.int .u32 a, .int .i64 p, .slice A n c, .int .i64 sh, .int .i64 wo, .int .i64 qu, .int .i64 tr], .slice B m d] w (RetBo false w) := by
  have hb := Lib.hid hb
  go_enter Try.func8, Try.ntmps8
  go_upto_region 1 with (fail)
  have K := below_alloc w (.cells #[.int .u32 a, .int .i64 p, .slice A n c, .int .i64 sh, .int .i64 wo, .int .i64 qu, .int .i64 tr] 27)
  have H : Bk (World.alloc (w) (.cells #[.int .u32 a, .int .i64 p, .slice A n c, .int .i64 sh, .int .i64 wo, .int .i64 qu, .int .i64 tr] 27)) (World.heap (w)).size 27 (#[.int .u32 a, .int .i64 p, .slice A n c, .int .i64 sh, .int .i64 wo, .int .i64 qu, .int .i64 tr]) := Bk.new _ _ _
  try simp only [World.size_alloc] at H
  generalize (w).alloc (.cells #[.int .u32 a, .int .i64 p, .slice A n c, .int .i64 sh, .int .i64 wo, .int .i64 qu, .int .i64 tr] 27) = w1 at H K ⊢
  obtain ⟨gH, hgH⟩ : ∃ g, g = w.heap.size := ⟨_, rfl⟩
  rw [← hgH] at H ⊢
  have H_b : w.heap.size ≤ gH := by omega
  clear hgH
  go_wp2_with (refine wpList_load_row rfl 27 (.tmp 2) rfl gH rfl _ _ (0, 0) _ H Try.underlying27 rfl cf_sz ?_)
  refine (rmay_is ha (h0.below K) hb.out).mono ?_
  rintro e w2 ⟨rfl, K'⟩
  replace H := H.below K'
  replace K := Below.then_ K K'
  clear K'
  go_wp2
  go_ret
  exact ⟨rfl, K⟩
theorem fits1 (ha : a < 4294967296) (h0 : IS .i64 lo w A n c zs) (hb : confB a p n zs sh wo qu tr = true) (hM : Much a p M) (hm : ¬ M ≤ 4096) :
    Calls Try.prog 8 #[.agg #[.int .u32 a, .int .i64 p, .slice A n c, .int .i64 sh, .int .i64 wo, .int .i64 qu, .int .i64 tr], .slice B m d] w (RetBo false w) := by
  have hb := Lib.hid hb
  have T := fun w => Lib.hid (rcells_any M hM.most w)
  have f1 : decide ((M : Int) ≤ 4096) = false := by simp; omega
  clear hm
  go_enter Try.func8, Try.ntmps8
  go_upto_region 1 with (fail)
  have K := below_alloc w (.cells #[.int .u32 a, .int .i64 p, .slice A n c, .int .i64 sh, .int .i64 wo, .int .i64 qu, .int .i64 tr] 27)
  have H : Bk (World.alloc (w) (.cells #[.int .u32 a, .int .i64 p, .slice A n c, .int .i64 sh, .int .i64 wo, .int .i64 qu, .int .i64 tr] 27)) (World.heap (w)).size 27 (#[.int .u32 a, .int .i64 p, .slice A n c, .int .i64 sh, .int .i64 wo, .int .i64 qu, .int .i64 tr]) := Bk.new _ _ _
  try simp only [World.size_alloc] at H
  generalize (w).alloc (.cells #[.int .u32 a, .int .i64 p, .slice A n c, .int .i64 sh, .int .i64 wo, .int .i64 qu, .int .i64 tr] 27) = w1 at H K ⊢
  obtain ⟨gH, hgH⟩ : ∃ g, g = w.heap.size := ⟨_, rfl⟩
  rw [← hgH] at H ⊢
  have H_b : w.heap.size ≤ gH := by omega
  clear hgH
  go_wp2_with (refine wpList_load_row rfl 27 (.tmp 2) rfl gH rfl _ _ (0, 0) _ H Try.underlying27 rfl cf_sz ?_)
  refine (rmay_is ha (h0.below K) hb.out).mono ?_
  rintro e w2 ⟨rfl, K'⟩
  replace H := H.below K'
  replace K := Below.then_ K K'
  clear K'
  have H_0 := H.at_ (v := .int .u32 a) 0 rfl
  have H_1 := H.at_ (v := .int .i64 p) 1 rfl
  have H_z := H.lt
  go_wp2_with fail
  refine (rmany_yes hM).mono ?_
  rintro e w3 ⟨rfl, K'⟩
  clear H_0 H_1 H_z
  replace H := H.below K'
  replace K := Below.then_ K K'
  clear K'
  go_wp2
  go_ret
  exact ⟨rfl, K⟩
theorem fits2 (ha : a < 4294967296) (h0 : IS .i64 lo w A n c zs) (hb : confB a p n zs sh wo qu tr = true) (hM : Much a p M) (hm : M ≤ 4096) (hc : m ≠ lv M + tv M + 1) :
    Calls Try.prog 8 #[.agg #[.int .u32 a, .int .i64 p, .slice A n c, .int .i64 sh, .int .i64 wo, .int .i64 qu, .int .i64 tr], .slice B m d] w (RetBo false w) := by
  have hb := Lib.hid hb
  have T := fun w => Lib.hid (rcells_any M hM.most w)
  have f1 : decide ((M : Int) ≤ 4096) = true := by simp; omega
  clear hm
  have f2 : ((m : Int) == ((lv M + tv M + 1 : Nat) : Int)) = false := by simp; omega
  clear hc
  generalize hC : lv M + tv M + 1 = C at *
  clear hC
  go_enter Try.func8, Try.ntmps8
  go_upto_region 1 with (fail)
  have K := below_alloc w (.cells #[.int .u32 a, .int .i64 p, .slice A n c, .int .i64 sh, .int .i64 wo, .int .i64 qu, .int .i64 tr] 27)
  have H : Bk (World.alloc (w) (.cells #[.int .u32 a, .int .i64 p, .slice A n c, .int .i64 sh, .int .i64 wo, .int .i64 qu, .int .i64 tr] 27)) (World.heap (w)).size 27 (#[.int .u32 a, .int .i64 p, .slice A n c, .int .i64 sh, .int .i64 wo, .int .i64 qu, .int .i64 tr]) := Bk.new _ _ _
  try simp only [World.size_alloc] at H
  generalize (w).alloc (.cells #[.int .u32 a, .int .i64 p, .slice A n c, .int .i64 sh, .int .i64 wo, .int .i64 qu, .int .i64 tr] 27) = w1 at H K ⊢
  obtain ⟨gH, hgH⟩ : ∃ g, g = w.heap.size := ⟨_, rfl⟩
  rw [← hgH] at H ⊢
  have H_b : w.heap.size ≤ gH := by omega
  clear hgH
  go_wp2_with (refine wpList_load_row rfl 27 (.tmp 2) rfl gH rfl _ _ (0, 0) _ H Try.underlying27 rfl cf_sz ?_)
  refine (rmay_is ha (h0.below K) hb.out).mono ?_
  rintro e w2 ⟨rfl, K'⟩
  replace H := H.below K'
  replace K := Below.then_ K K'
  clear K'
  have H_0 := H.at_ (v := .int .u32 a) 0 rfl
  have H_1 := H.at_ (v := .int .i64 p) 1 rfl
  have H_z := H.lt
  go_wp2_with fail
  refine (rmany_yes hM).mono ?_
  rintro e w3 ⟨rfl, K'⟩
  clear H_0 H_1 H_z
  replace H := H.below K'
  replace K := Below.then_ K K'
  clear K'
  have H_0 := H.at_ (v := .int .u32 a) 0 rfl
  have H_1 := H.at_ (v := .int .i64 p) 1 rfl
  have H_z := H.lt
  go_wp2_with fail
  refine (rmany_yes hM).mono ?_
  rintro e w4 ⟨rfl, K'⟩
  clear H_0 H_1 H_z
  replace H := H.below K'
  replace K := Below.then_ K K'
  clear K'
  go_wp2_with ((with_reducible refine ((T _).out).mono ?_); rintro e w' ⟨rfl, rfl⟩)
  go_ret
  exact ⟨rfl, K⟩
theorem fits3 (ha : a < 4294967296) (h0 : IS .i64 lo w A n c zs) (hb : confB a p n zs sh wo qu tr = true) (hM : Much a p M) (hm : M ≤ 4096) (hc : m = lv M + tv M + 1) :
    Calls Try.prog 8 #[.agg #[.int .u32 a, .int .i64 p, .slice A n c, .int .i64 sh, .int .i64 wo, .int .i64 qu, .int .i64 tr], .slice B m d] w (RetBo true w) := by
  have hb := Lib.hid hb
  have T := fun w => Lib.hid (rcells_any M hM.most w)
  have f1 : decide ((M : Int) ≤ 4096) = true := by simp; omega
  clear hm
  have f2 : ((m : Int) == ((lv M + tv M + 1 : Nat) : Int)) = true := by simp; omega
  clear hc
  generalize hC : lv M + tv M + 1 = C at *
  clear hC
  go_enter Try.func8, Try.ntmps8
  go_upto_region 1 with (fail)
  have K := below_alloc w (.cells #[.int .u32 a, .int .i64 p, .slice A n c, .int .i64 sh, .int .i64 wo, .int .i64 qu, .int .i64 tr] 27)
  have H : Bk (World.alloc (w) (.cells #[.int .u32 a, .int .i64 p, .slice A n c, .int .i64 sh, .int .i64 wo, .int .i64 qu, .int .i64 tr] 27)) (World.heap (w)).size 27 (#[.int .u32 a, .int .i64 p, .slice A n c, .int .i64 sh, .int .i64 wo, .int .i64 qu, .int .i64 tr]) := Bk.new _ _ _
  try simp only [World.size_alloc] at H
  generalize (w).alloc (.cells #[.int .u32 a, .int .i64 p, .slice A n c, .int .i64 sh, .int .i64 wo, .int .i64 qu, .int .i64 tr] 27) = w1 at H K ⊢
  obtain ⟨gH, hgH⟩ : ∃ g, g = w.heap.size := ⟨_, rfl⟩
  rw [← hgH] at H ⊢
  have H_b : w.heap.size ≤ gH := by omega
  clear hgH
  go_wp2_with (refine wpList_load_row rfl 27 (.tmp 2) rfl gH rfl _ _ (0, 0) _ H Try.underlying27 rfl cf_sz ?_)
  refine (rmay_is ha (h0.below K) hb.out).mono ?_
  rintro e w2 ⟨rfl, K'⟩
  replace H := H.below K'
  replace K := Below.then_ K K'
  clear K'
  have H_0 := H.at_ (v := .int .u32 a) 0 rfl
  have H_1 := H.at_ (v := .int .i64 p) 1 rfl
  have H_z := H.lt
  go_wp2_with fail
  refine (rmany_yes hM).mono ?_
  rintro e w3 ⟨rfl, K'⟩
  clear H_0 H_1 H_z
  replace H := H.below K'
  replace K := Below.then_ K K'
  clear K'
  have H_0 := H.at_ (v := .int .u32 a) 0 rfl
  have H_1 := H.at_ (v := .int .i64 p) 1 rfl
  have H_z := H.lt
  go_wp2_with fail
  refine (rmany_yes hM).mono ?_
  rintro e w4 ⟨rfl, K'⟩
  clear H_0 H_1 H_z
  replace H := H.below K'
  replace K := Below.then_ K K'
  clear K'
  go_wp2_with ((with_reducible refine ((T _).out).mono ?_); rintro e w' ⟨rfl, rfl⟩)
  go_ret
  exact ⟨rfl, K⟩
/-- What Fits tells. -/
def FitP (a : Nat) (p : Int) (m : Nat) : Prop := Much a p (2 ^ (32 - p.toNat)) ∧ 2 ^ (32 - p.toNat) ≤ 4096 ∧ m = lv (2 ^ (32 - p.toNat)) + tv (2 ^ (32 - p.toNat)) + 1
theorem RetBo.no {P : Prop} {w w' : World} {e : Ending} (h : RetBo false w e w') : RetW P w e w' := ⟨false, h.1, (fun e => by cases e), h.2⟩
theorem RetBo.yes {P : Prop} {w w' : World} {e : Ending} (h : RetBo true w e w') (hp : P) : RetW P w e w' := ⟨true, h.1, fun _ => hp, h.2⟩
theorem fits_any (ha : a < 4294967296) (h0 : IS .i64 lo w A n c zs) :
    Calls Try.prog 8 #[.agg #[.int .u32 a, .int .i64 p, .slice A n c, .int .i64 sh, .int .i64 wo, .int .i64 qu, .int .i64 tr], .slice B m d] w (RetW (FitP a p m) w) := by
  cases hb : confB a p n zs sh wo qu tr with
  | false => exact (fits0 ha h0 hb).mono fun _ _ h => h.no
  | true =>
    have hM := Much.of (confB_no hb).1
    by_cases hm : 2 ^ (32 - p.toNat) ≤ 4096
    · by_cases hc : m = lv (2 ^ (32 - p.toNat)) + tv (2 ^ (32 - p.toNat)) + 1
      · exact (fits3 ha h0 hb hM hm hc).mono fun _ _ h => h.yes ⟨hM, hm, hc⟩
      · exact (fits2 ha h0 hb hM hm hc).mono fun _ _ h => h.no
    · exact (fits1 ha h0 hb hM hm).mono fun _ _ h => h.no
/-- What Whole tells. -/
def WhP (a M : Nat) (h : Hd) (s : Sc) (xs : List Int) : Prop := (0 ≤ s.leaf ∧ s.leaf < (lv M : Int)) ∧ (0 ≤ s.item ∧ s.item ≤ 1000) ∧ (0 ≤ s.at_ ∧ s.at_ ≤ 1) ∧ (h.n0 ≤ 100 ∧ h.n1 ≤ 300 ∧ h.n2 ≤ 300 ∧ h.n3 ≤ 300) ∧ InB a M h.n0 xs
theorem ofE_zero {a M x : Nat} (h : ofE a M x = 0) : a ≤ x ∧ x < a + M := by
  unfold ofE at h
  by_cases h1 : a ≤ x ∧ x < a + M
  · exact h1
  · rw [if_neg h1] at h; cases h
end
end Go.Proofs.Ytlaejiephpmniaa

