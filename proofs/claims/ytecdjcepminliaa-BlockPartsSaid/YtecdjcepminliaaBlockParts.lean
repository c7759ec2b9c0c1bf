/-
  The walk of the law BlockParts: for every block and address it answers true.
-/
import Derived.Test.YtecdjcepminliaaBlockAwake
namespace Go.Proofs.Ytecdjcepminliaa.blockParts
open Go.RowKit
theorem half {a M : Nat} {p : Int} (h : Much a p M) (ha : a < 4294967296) (hp : p ≠ 32) : ∃ N, M = 2 * N ∧ Much a (p + 1) N ∧ Much (a + N) (p + 1) N ∧ a + N < 4294967296 ∧ 0 < N := by
  obtain ⟨h1, h2⟩ := mayB_rng h.may
  obtain ⟨P, rfl⟩ : ∃ P : Nat, p = P := ⟨p.toNat, by omega⟩
  have hm := mayB_mod h.may
  have f := h.fits ha
  have hM := h.is
  rw [Int.toNat_natCast] at hm hM
  have e : 2 ^ (32 - P) = 2 * 2 ^ (32 - (P + 1)) := by rw [show 32 - P = 32 - (P + 1) + 1 by omega, Nat.pow_succ]; omega
  have hN : 0 < 2 ^ (32 - (P + 1)) := Nat.two_pow_pos _
  have m1 : a % 2 ^ (32 - (P + 1)) = 0 := by
    rw [e] at hm
    exact Nat.mod_eq_zero_of_dvd (Nat.dvd_trans (Nat.dvd_mul_left _ _) (Nat.dvd_of_mod_eq_zero hm))
  refine ⟨2 ^ (32 - (P + 1)), by rw [hM, e], ⟨?_, rfl⟩, ⟨?_, rfl⟩, by omega, hN⟩
  · exact decide_eq_true ⟨by omega, by omega, m1⟩
  · refine decide_eq_true ⟨by omega, by omega, ?_⟩
    show (a + 2 ^ (32 - (P + 1))) % 2 ^ (32 - (P + 1)) = 0
    rw [Nat.add_mod_right]; exact m1
section
variable {w : World} {a N x o q : Nat} {p : Int}
theorem not_may (ha : a < 4294967296) (hb : mayB a p = false) :
    Calls Try.prog 7 #[.agg #[.int .u32 a, .int .i64 p], .int .u32 x] w fun e w' => e = .returned (.bool true) ∧ Below w.heap.size w w' := by
  have hb := Lib.hid hb
  have K := below_alloc w (.cells #[.int .u32 a, .int .i64 p] 24)
  have H := Bk.new w #[.int .u32 a, .int .i64 p] 24
  go_enter Try.func7, Try.ntmps7
  go_wp2_with fail
  generalize w.alloc (.cells #[.int .u32 a, .int .i64 p] 24) = w1 at H K ⊢
  generalize w.heap.size = g at H ⊢
  refine (awake_any _).mono ?_
  rintro e w2 ⟨rfl, K'⟩
  replace H := H.below K'
  replace K := Below.then_ K K'
  clear K'
  have H_0 := H.at_ (v := .int .u32 a) 0 rfl
  have H_1 := H.at_ (v := .int .i64 p) 1 rfl
  have H_z := H.lt
  go_wp2_with fail
  refine (ramay_is ha hb.out).mono ?_
  rintro e w3 ⟨rfl, K'⟩
  clear H_0 H_1 H_z
  replace H := H.below K'
  replace K := Below.then_ K K'
  clear K'
  go_wp2_with fail
  refine (awake_any _).mono ?_
  rintro e w4 ⟨rfl, K'⟩
  replace H := H.below K'
  replace K := Below.then_ K K'
  clear K'
  go_wp2
  go_ret
  exact ⟨rfl, K⟩
theorem one (ha : a < 4294967296) (hb : mayB a p = true) (hp : p = 32) :
    Calls Try.prog 7 #[.agg #[.int .u32 a, .int .i64 p], .int .u32 x] w fun e w' => e = .returned (.bool true) ∧ Below w.heap.size w w' := by
  have hb := Lib.hid hb
  have e32 : (p == 32) = true := by simpa using hp
  clear hp
  have K := below_alloc w (.cells #[.int .u32 a, .int .i64 p] 24)
  have H := Bk.new w #[.int .u32 a, .int .i64 p] 24
  go_enter Try.func7, Try.ntmps7
  go_wp2_with fail
  generalize w.alloc (.cells #[.int .u32 a, .int .i64 p] 24) = w1 at H K ⊢
  generalize w.heap.size = g at H ⊢
  refine (awake_any _).mono ?_
  rintro e w2 ⟨rfl, K'⟩
  replace H := H.below K'
  replace K := Below.then_ K K'
  clear K'
  have H_0 := H.at_ (v := .int .u32 a) 0 rfl
  have H_1 := H.at_ (v := .int .i64 p) 1 rfl
  have H_z := H.lt
  go_wp2_with fail
  refine (ramay_is ha hb.out).mono ?_
  rintro e w3 ⟨rfl, K'⟩
  clear H_0 H_1 H_z
  replace H := H.below K'
  replace K := Below.then_ K K'
  clear K'
  have H_0 := H.at_ (v := .int .u32 a) 0 rfl
  have H_1 := H.at_ (v := .int .i64 p) 1 rfl
  have H_z := H.lt
  go_wp2_with fail
  refine (awake_any _).mono ?_
  rintro e w4 ⟨rfl, K'⟩
  clear H_0 H_1 H_z
  replace H := H.below K'
  replace K := Below.then_ K K'
  clear K'
  go_wp2
  go_ret
  exact ⟨rfl, K⟩
theorem off_out {w : World} {a M : Nat} {p : Int} (x : Nat) (hx : x < 4294967296) (ha : a < 4294967296) (hM : Much a p M) (hh : ¬ (a ≤ x ∧ x < a + M)) :
    Calls Try.prog 11 #[.agg #[.int .u32 a, .int .i64 p], .int .u32 x] w fun e w' => e = .returned (.tuple #[.int .i64 0, .int .i64 3]) ∧ Below w.heap.size w w' := by
  have := offset_any (w := w) (p := p) x hx ha hM
  unfold ofO ofE at this
  rwa [if_neg hh, if_neg hh] at this
set_option maxRecDepth 100000 in
set_option maxHeartbeats 1000000 in
theorem out_ (ha : a < 4294967296) (hp : p ≠ 32) (hM : Much a p (2 * N)) (hL : Much a (p + 1) N) (hH : Much (a + N) (p + 1) N) (hB : a + N < 4294967296) (hx : x < 4294967296) (h1 : ¬ (a ≤ x ∧ x < a + 2 * N)) :
    Calls Try.prog 7 #[.agg #[.int .u32 a, .int .i64 p], .int .u32 x] w fun e w' => e = .returned (.bool true) ∧ Below w.heap.size w w' := by
  have hb := Lib.hid hM.may
  have e32 : (p == 32) = false := by simpa using hp
  have rg := mayB_rng hM.may
  have hN := hL.pos
  have hm := hL.most
  have r0 := hp
  clear hp
  have eh : (((2 * N : Nat) : Int)).tdiv 2 = (N : Int) := by rw [Int.tdiv_eq_ediv_of_nonneg (by omega)]; omega
  have ep : IntKind.i64.wrap (p + 1) = p + 1 := IntWalk.i64_in _ (by omega)
  have eN : IntKind.u32.wrap (N : Int) = (N : Int) := IntWalk.u32_in _ (by omega)
  have eB : IntKind.u32.wrap ((a : Int) + (N : Int)) = (a : Int) + (N : Int) := IntWalk.u32_in _ (by omega)
  have T1 : ∀ w2 : World, Hid (Calls Try.prog 11 #[.agg #[.int .u32 a, .int .i64 p], .int .u32 x] w2 fun e w' => e = .returned (.tuple #[.int .i64 0, .int .i64 3]) ∧ Below w2.heap.size w2 w') := fun w2 => off_out x hx ha hM h1
  have T2 : ∀ w2 : World, Hid (Calls Try.prog 11 #[.agg #[.int .u32 a, .int .i64 (p + 1)], .int .u32 x] w2 fun e w' => e = .returned (.tuple #[.int .i64 0, .int .i64 3]) ∧ Below w2.heap.size w2 w') := fun w2 => off_out x hx ha hL (by omega)
  have T3 : ∀ w2 : World, Hid (Calls Try.prog 11 #[.agg #[.int .u32 ((a : Int) + (N : Int)), .int .i64 (p + 1)], .int .u32 x] w2 fun e w' => e = .returned (.tuple #[.int .i64 0, .int .i64 3]) ∧ Below w2.heap.size w2 w') := fun w2 => off_out x hx hB hH (by omega)
  have T4 : ∀ w2 : World, Hid (Calls Try.prog 15 #[.agg #[.int .u32 ((a : Int) + (N : Int)), .int .i64 (p + 1)]] w2 fun e w' => e = .returned (.int .i64 N) ∧ Below w2.heap.size w2 w') := fun w2 => many_yes (w := w2) hB hH
  have T5 : ∀ w2 : World, Hid (Calls Try.prog 15 #[.agg #[.int .u32 a, .int .i64 p]] w2 fun e w' => e = .returned (.int .i64 ((2 * N : Nat) : Int)) ∧ Below w2.heap.size w2 w') := fun w2 => many_yes (w := w2) ha hM
  have T6 : ∀ w2 : World, Hid (Calls Try.prog 15 #[.agg #[.int .u32 a, .int .i64 (p + 1)]] w2 fun e w' => e = .returned (.int .i64 N) ∧ Below w2.heap.size w2 w') := fun w2 => many_yes (w := w2) ha hL
  have K := below_alloc w (.cells #[.int .u32 a, .int .i64 p] 24)
  have H := Bk.new w #[.int .u32 a, .int .i64 p] 24
  go_enter Try.func7, Try.ntmps7
  go_wp2_with fail
  generalize w.alloc (.cells #[.int .u32 a, .int .i64 p] 24) = w1 at H K ⊢
  generalize w.heap.size = g at H ⊢
  refine (awake_any _).mono ?_
  rintro e w2 ⟨rfl, K'⟩
  replace H := H.below K'
  replace K := Below.then_ K K'
  clear K'
  have H_0 := H.at_ (v := .int .u32 a) 0 rfl
  have H_1 := H.at_ (v := .int .i64 p) 1 rfl
  have H_z := H.lt
  go_wp2_with fail
  refine (ramay_is ha hb.out).mono ?_
  rintro e w3 ⟨rfl, K'⟩
  clear H_0 H_1 H_z
  replace H := H.below K'
  replace K := Below.then_ K K'
  clear K'
  have H_0 := H.at_ (v := .int .u32 a) 0 rfl
  have H_1 := H.at_ (v := .int .i64 p) 1 rfl
  have H_z := H.lt
  go_wp2_with fail
  refine ((T5 _).out).mono ?_
  rintro e w4 ⟨rfl, K'⟩
  clear H_0 H_1 H_z
  replace H := H.below K'
  replace K := Below.then_ K K'
  clear K'
  have H_0 := H.at_ (v := .int .u32 a) 0 rfl
  have H_1 := H.at_ (v := .int .i64 p) 1 rfl
  have H_z := H.lt
  go_wp2_with fail
  clear H_0 H_1 H_z
  replace H := H.alloc (.cells #[.int .u32 a, .int .i64 (p + 1)] 24)
  replace K := Below.then_ K (below_alloc _ (.cells #[.int .u32 a, .int .i64 (p + 1)] 24))
  have Hl := Bk.new (w4) #[.int .u32 a, .int .i64 (p + 1)] 24
  replace H := H.alloc (.cells #[.int .u32 ((a : Int) + (N : Int)), .int .i64 (p + 1)] 24)
  replace Hl := Hl.alloc (.cells #[.int .u32 ((a : Int) + (N : Int)), .int .i64 (p + 1)] 24)
  replace K := Below.then_ K (below_alloc _ (.cells #[.int .u32 ((a : Int) + (N : Int)), .int .i64 (p + 1)] 24))
  have Hh := Bk.new ((w4).alloc (.cells #[.int .u32 a, .int .i64 (p + 1)] 24)) #[.int .u32 ((a : Int) + (N : Int)), .int .i64 (p + 1)] 24
  try simp only [World.size_alloc] at Hl Hh
  generalize ((w4).alloc (.cells #[.int .u32 a, .int .i64 (p + 1)] 24)).alloc (.cells #[.int .u32 ((a : Int) + (N : Int)), .int .i64 (p + 1)] 24) = w5 at H Hl Hh K ⊢
  generalize w4.heap.size + 1 = gHh at Hl Hh ⊢
  generalize w4.heap.size = gHl at Hl Hh ⊢
  refine ((T1 _).out).mono ?_
  rintro e w6 ⟨rfl, K'⟩
  replace H := H.below K'
  replace Hl := Hl.below K'
  replace Hh := Hh.below K'
  replace K := Below.then_ K K'
  clear K'
  have Hl_0 := Hl.at_ (v := .int .u32 a) 0 rfl
  have Hl_1 := Hl.at_ (v := .int .i64 (p + 1)) 1 rfl
  have Hl_z := Hl.lt
  go_wp2_with fail
  refine ((T2 _).out).mono ?_
  rintro e w7 ⟨rfl, K'⟩
  clear Hl_0 Hl_1 Hl_z
  replace H := H.below K'
  replace Hl := Hl.below K'
  replace Hh := Hh.below K'
  replace K := Below.then_ K K'
  clear K'
  have Hh_0 := Hh.at_ (v := .int .u32 ((a : Int) + (N : Int))) 0 rfl
  have Hh_1 := Hh.at_ (v := .int .i64 (p + 1)) 1 rfl
  have Hh_z := Hh.lt
  go_wp2_with fail
  refine ((T3 _).out).mono ?_
  rintro e w8 ⟨rfl, K'⟩
  clear Hh_0 Hh_1 Hh_z
  replace H := H.below K'
  replace Hl := Hl.below K'
  replace Hh := Hh.below K'
  replace K := Below.then_ K K'
  clear K'
  go_wp2
  go_ret
  exact ⟨rfl, K⟩
set_option maxRecDepth 100000 in
set_option maxHeartbeats 1000000 in
theorem low_ (ha : a < 4294967296) (hp : p ≠ 32) (hM : Much a p (2 * N)) (hL : Much a (p + 1) N) (hH : Much (a + N) (p + 1) N) (hB : a + N < 4294967296) (hx : x < 4294967296) (h1 : a ≤ x) (h2 : x < a + N) (ho : o = x - a) :
    Calls Try.prog 7 #[.agg #[.int .u32 a, .int .i64 p], .int .u32 x] w fun e w' => e = .returned (.bool true) ∧ Below w.heap.size w w' := by
  have hb := Lib.hid hM.may
  have e32 : (p == 32) = false := by simpa using hp
  have rg := mayB_rng hM.may
  have hN := hL.pos
  have hm := hL.most
  have r0 := hp
  clear hp
  have eh : (((2 * N : Nat) : Int)).tdiv 2 = (N : Int) := by rw [Int.tdiv_eq_ediv_of_nonneg (by omega)]; omega
  have ep : IntKind.i64.wrap (p + 1) = p + 1 := IntWalk.i64_in _ (by omega)
  have eN : IntKind.u32.wrap (N : Int) = (N : Int) := IntWalk.u32_in _ (by omega)
  have eB : IntKind.u32.wrap ((a : Int) + (N : Int)) = (a : Int) + (N : Int) := IntWalk.u32_in _ (by omega)
  have e2N : IntKind.i64.wrap ((N : Int) + (N : Int)) = ((2 * N : Nat) : Int) := by rw [IntWalk.i64_in _ (by omega)]; omega
  have eqN : ((((2 * N : Nat) : Int)) == (((2 * N : Nat) : Int))) = true := by simp
  have eo : ((o : Int) == (o : Int)) = true := by simp
  have T1 : ∀ w2 : World, Hid (Calls Try.prog 11 #[.agg #[.int .u32 a, .int .i64 p], .int .u32 x] w2 fun e w' => e = .returned (.tuple #[.int .i64 o, .int .i64 0]) ∧ Below w2.heap.size w2 w') := fun w2 => by rw [ho]; exact offset_in x hx ha hM h1 (by omega)
  have T2 : ∀ w2 : World, Hid (Calls Try.prog 11 #[.agg #[.int .u32 a, .int .i64 (p + 1)], .int .u32 x] w2 fun e w' => e = .returned (.tuple #[.int .i64 o, .int .i64 0]) ∧ Below w2.heap.size w2 w') := fun w2 => by rw [ho]; exact offset_in x hx ha hL h1 h2
  have T3 : ∀ w2 : World, Hid (Calls Try.prog 11 #[.agg #[.int .u32 ((a : Int) + (N : Int)), .int .i64 (p + 1)], .int .u32 x] w2 fun e w' => e = .returned (.tuple #[.int .i64 0, .int .i64 3]) ∧ Below w2.heap.size w2 w') := fun w2 => off_out x hx hB hH (by omega)
  have T4 : ∀ w2 : World, Hid (Calls Try.prog 15 #[.agg #[.int .u32 ((a : Int) + (N : Int)), .int .i64 (p + 1)]] w2 fun e w' => e = .returned (.int .i64 N) ∧ Below w2.heap.size w2 w') := fun w2 => many_yes (w := w2) hB hH
  have T5 : ∀ w2 : World, Hid (Calls Try.prog 15 #[.agg #[.int .u32 a, .int .i64 p]] w2 fun e w' => e = .returned (.int .i64 ((2 * N : Nat) : Int)) ∧ Below w2.heap.size w2 w') := fun w2 => many_yes (w := w2) ha hM
  have T6 : ∀ w2 : World, Hid (Calls Try.prog 15 #[.agg #[.int .u32 a, .int .i64 (p + 1)]] w2 fun e w' => e = .returned (.int .i64 N) ∧ Below w2.heap.size w2 w') := fun w2 => many_yes (w := w2) ha hL
  clear ho
  have K := below_alloc w (.cells #[.int .u32 a, .int .i64 p] 24)
  have H := Bk.new w #[.int .u32 a, .int .i64 p] 24
  go_enter Try.func7, Try.ntmps7
  go_wp2_with fail
  generalize w.alloc (.cells #[.int .u32 a, .int .i64 p] 24) = w1 at H K ⊢
  generalize w.heap.size = g at H ⊢
  refine (awake_any _).mono ?_
  rintro e w2 ⟨rfl, K'⟩
  replace H := H.below K'
  replace K := Below.then_ K K'
  clear K'
  have H_0 := H.at_ (v := .int .u32 a) 0 rfl
  have H_1 := H.at_ (v := .int .i64 p) 1 rfl
  have H_z := H.lt
  go_wp2_with fail
  refine (ramay_is ha hb.out).mono ?_
  rintro e w3 ⟨rfl, K'⟩
  clear H_0 H_1 H_z
  replace H := H.below K'
  replace K := Below.then_ K K'
  clear K'
  have H_0 := H.at_ (v := .int .u32 a) 0 rfl
  have H_1 := H.at_ (v := .int .i64 p) 1 rfl
  have H_z := H.lt
  go_wp2_with fail
  refine ((T5 _).out).mono ?_
  rintro e w4 ⟨rfl, K'⟩
  clear H_0 H_1 H_z
  replace H := H.below K'
  replace K := Below.then_ K K'
  clear K'
  have H_0 := H.at_ (v := .int .u32 a) 0 rfl
  have H_1 := H.at_ (v := .int .i64 p) 1 rfl
  have H_z := H.lt
  go_wp2_with fail
  clear H_0 H_1 H_z
  replace H := H.alloc (.cells #[.int .u32 a, .int .i64 (p + 1)] 24)
  replace K := Below.then_ K (below_alloc _ (.cells #[.int .u32 a, .int .i64 (p + 1)] 24))
  have Hl := Bk.new (w4) #[.int .u32 a, .int .i64 (p + 1)] 24
  replace H := H.alloc (.cells #[.int .u32 ((a : Int) + (N : Int)), .int .i64 (p + 1)] 24)
  replace Hl := Hl.alloc (.cells #[.int .u32 ((a : Int) + (N : Int)), .int .i64 (p + 1)] 24)
  replace K := Below.then_ K (below_alloc _ (.cells #[.int .u32 ((a : Int) + (N : Int)), .int .i64 (p + 1)] 24))
  have Hh := Bk.new ((w4).alloc (.cells #[.int .u32 a, .int .i64 (p + 1)] 24)) #[.int .u32 ((a : Int) + (N : Int)), .int .i64 (p + 1)] 24
  try simp only [World.size_alloc] at Hl Hh
  generalize ((w4).alloc (.cells #[.int .u32 a, .int .i64 (p + 1)] 24)).alloc (.cells #[.int .u32 ((a : Int) + (N : Int)), .int .i64 (p + 1)] 24) = w5 at H Hl Hh K ⊢
  generalize w4.heap.size + 1 = gHh at Hl Hh ⊢
  generalize w4.heap.size = gHl at Hl Hh ⊢
  refine ((T1 _).out).mono ?_
  rintro e w6 ⟨rfl, K'⟩
  replace H := H.below K'
  replace Hl := Hl.below K'
  replace Hh := Hh.below K'
  replace K := Below.then_ K K'
  clear K'
  have Hl_0 := Hl.at_ (v := .int .u32 a) 0 rfl
  have Hl_1 := Hl.at_ (v := .int .i64 (p + 1)) 1 rfl
  have Hl_z := Hl.lt
  go_wp2_with fail
  refine ((T2 _).out).mono ?_
  rintro e w7 ⟨rfl, K'⟩
  clear Hl_0 Hl_1 Hl_z
  replace H := H.below K'
  replace Hl := Hl.below K'
  replace Hh := Hh.below K'
  replace K := Below.then_ K K'
  clear K'
  have Hh_0 := Hh.at_ (v := .int .u32 ((a : Int) + (N : Int))) 0 rfl
  have Hh_1 := Hh.at_ (v := .int .i64 (p + 1)) 1 rfl
  have Hh_z := Hh.lt
  go_wp2_with fail
  refine ((T3 _).out).mono ?_
  rintro e w8 ⟨rfl, K'⟩
  clear Hh_0 Hh_1 Hh_z
  replace H := H.below K'
  replace Hl := Hl.below K'
  replace Hh := Hh.below K'
  replace K := Below.then_ K K'
  clear K'
  go_wp2_with fail
  refine wp_region_held_drew (S := fun w' => Below w8.heap.size w8 w') (by kernel_rfl) (Below.refl _ _).drew (fun hHeld => ?_)
  refine wpAnyH_take (i := 0) (oi := ⟨some 71, _, _, _, _, _⟩) (v := ?_) rfl (by kernel_rfl) (by kernel_rfl) (by kernel_rfl) (fun _ _ _ h => h) (Or.inl ⟨by rfl, ?_⟩) hHeld ?_
  rotate_left
  · intro ww hSw
    try dsimp only at hSw
    go_simp
    try with_reducible rfl
    try omega
  try simp only [Act.put, List.setIfInBounds_toArray, List.set_cons_zero, List.set_cons_succ]
  refine wpAnyH_take (i := 1) (oi := ⟨some 72, _, _, _, _, _⟩) (v := .bool true) rfl (by kernel_rfl) (by kernel_rfl) (by kernel_rfl) (fun _ _ _ h => h) (Or.inl ⟨by rfl, ?_⟩) hHeld ?_
  · intro ww hSw
    try dsimp only at hSw
    go_simp
    try with_reducible rfl
    try omega
  try simp only [Act.put, List.setIfInBounds_toArray, List.set_cons_zero, List.set_cons_succ]
  refine wpAnyH_take (i := 2) (oi := ⟨some 73, _, _, _, _, _⟩) (v := ?_) rfl (by kernel_rfl) (by kernel_rfl) (by kernel_rfl) (fun _ _ _ h => h) (Or.inl ⟨by rfl, ?_⟩) hHeld ?_
  rotate_left
  · intro ww hSw
    try dsimp only at hSw
    go_simp
    try with_reducible rfl
    try omega
  try simp only [Act.put, List.setIfInBounds_toArray, List.set_cons_zero, List.set_cons_succ]
  refine wpAnyH_take (i := 3) (oi := ⟨some 74, _, _, _, _, _⟩) (v := .bool false) rfl (by kernel_rfl) (by kernel_rfl) (by kernel_rfl) (fun _ _ _ h => h) (Or.inl ⟨by rfl, ?_⟩) hHeld ?_
  · intro ww hSw
    try dsimp only at hSw
    go_simp
    try with_reducible rfl
    try omega
  try simp only [Act.put, List.setIfInBounds_toArray, List.set_cons_zero, List.set_cons_succ]
  refine wpAnyH_take (i := 4) (oi := ⟨some 75, _, _, _, _, _⟩) (v := .bool true) rfl (by kernel_rfl) (by kernel_rfl) (by kernel_rfl) (fun _ _ _ h => h) (Or.inl ⟨by rfl, ?_⟩) hHeld ?_
  · intro ww hSw
    try dsimp only at hSw
    go_simp
    try with_reducible rfl
    try omega
  try simp only [Act.put, List.setIfInBounds_toArray, List.set_cons_zero, List.set_cons_succ]
  refine wpAnyH_take (i := 5) (oi := ⟨some 76, _, _, _, _, _⟩) (v := .bool true) rfl (by kernel_rfl) (by kernel_rfl) (by kernel_rfl) (fun _ _ _ h => h) (Or.inl ⟨by rfl, ?_⟩) hHeld ?_
  · intro ww hSw
    try dsimp only at hSw
    go_simp
    try with_reducible rfl
    try omega
  try simp only [Act.put, List.setIfInBounds_toArray, List.set_cons_zero, List.set_cons_succ]
  refine wpAnyH_take (i := 6) (oi := ⟨some 77, _, _, _, _, _⟩) (v := ?_) rfl (by kernel_rfl) (by kernel_rfl) (by kernel_rfl) (fun _ _ _ h => h) (Or.inl ⟨by rfl, ?_⟩) hHeld ?_
  rotate_left
  · intro ww hSw
    try dsimp only at hSw
    go_simp
    try with_reducible rfl
    try omega
  try simp only [Act.put, List.setIfInBounds_toArray, List.set_cons_zero, List.set_cons_succ]
  refine wpAnyH_take (i := 7) (oi := ⟨some 78, _, _, _, _, _⟩) (v := .bool false) rfl (by kernel_rfl) (by kernel_rfl) (by kernel_rfl) (fun _ _ _ h => h) (Or.inl ⟨by rfl, ?_⟩) hHeld ?_
  · intro ww hSw
    try dsimp only at hSw
    go_simp
    try with_reducible rfl
    try omega
  try simp only [Act.put, List.setIfInBounds_toArray, List.set_cons_zero, List.set_cons_succ]
  refine wpAnyH_take (i := 8) (oi := ⟨some 79, _, _, _, _, _⟩) (v := .bool false) rfl (by kernel_rfl) (by kernel_rfl) (by kernel_rfl) (fun _ _ _ h => h) (Or.inl ⟨by rfl, ?_⟩) hHeld ?_
  · intro ww hSw
    try dsimp only at hSw
    go_simp
    try with_reducible rfl
    try omega
  try simp only [Act.put, List.setIfInBounds_toArray, List.set_cons_zero, List.set_cons_succ]
  refine wpAnyH_take (i := 9) (oi := ⟨some 80, _, _, _, _, _⟩) (v := ?_) rfl (by kernel_rfl) (by kernel_rfl) (by kernel_rfl) (fun _ _ _ h => h) (Or.inl ⟨by rfl, ?_⟩) hHeld ?_
  rotate_left
  · intro ww hSw
    try dsimp only at hSw
    go_simp
    try with_reducible rfl
    try omega
  try simp only [Act.put, List.setIfInBounds_toArray, List.set_cons_zero, List.set_cons_succ]
  refine wpAnyH_take (i := 10) (oi := ⟨some 81, _, _, _, _, _⟩) (v := ?_) rfl (by kernel_rfl) (by kernel_rfl) (by kernel_rfl) (fun _ _ _ h => h) (Or.inl ⟨by rfl, ?_⟩) hHeld ?_
  rotate_left
  · intro ww hSw
    try dsimp only at hSw
    go_simp
    try with_reducible rfl
    try omega
  try simp only [Act.put, List.setIfInBounds_toArray, List.set_cons_zero, List.set_cons_succ]
  refine wpAnyH_take (i := 11) (oi := ⟨some 82, _, _, _, _, _⟩) (v := .bool true) rfl (by kernel_rfl) (by kernel_rfl) (by kernel_rfl) (fun _ _ _ h => h) (Or.inl ⟨by rfl, ?_⟩) hHeld ?_
  · intro ww hSw
    try dsimp only at hSw
    go_simp
    try with_reducible rfl
    try omega
  try simp only [Act.put, List.setIfInBounds_toArray, List.set_cons_zero, List.set_cons_succ]
  refine wpAnyH_take (i := 12) (oi := ⟨some 83, _, _, _, _, _⟩) (v := .bool true) rfl (by kernel_rfl) (by kernel_rfl) (by kernel_rfl) (fun _ _ _ h => h) (Or.inl ⟨by rfl, ?_⟩) hHeld ?_
  · intro ww hSw
    try dsimp only at hSw
    go_simp
    try with_reducible rfl
    try omega
  try simp only [Act.put, List.setIfInBounds_toArray, List.set_cons_zero, List.set_cons_succ]
  refine wpAnyH_take (i := 13) (oi := ⟨some 84, _, _, _, _, _⟩) (v := .bool true) rfl (by kernel_rfl) (by kernel_rfl) (by kernel_rfl) (fun _ _ _ h => h) (Or.inl ⟨by rfl, ?_⟩) hHeld ?_
  · intro ww hSw
    try dsimp only at hSw
    go_simp
    try with_reducible rfl
    try omega
  try simp only [Act.put, List.setIfInBounds_toArray, List.set_cons_zero, List.set_cons_succ]
  refine wpAnyH_take (i := 14) (oi := ⟨some 85, _, _, _, _, _⟩) (v := .bool true) rfl (by kernel_rfl) (by kernel_rfl) (by kernel_rfl) (fun _ _ _ h => h) (Or.inl ⟨by rfl, ?_⟩) hHeld ?_
  · intro ww hSw
    try dsimp only at hSw
    go_simp
    try with_reducible rfl
    try omega
  try simp only [Act.put, List.setIfInBounds_toArray, List.set_cons_zero, List.set_cons_succ]
  refine wpAnyH_take (i := 15) (oi := ⟨some 86, _, _, _, _, _⟩) (v := ?_) rfl (by kernel_rfl) (by kernel_rfl) (by kernel_rfl) (fun _ _ _ h => h) (Or.inl ⟨by rfl, ?_⟩) hHeld ?_
  rotate_left
  · intro ww hSw
    try dsimp only at hSw
    go_simp
    try with_reducible rfl
    try omega
  try simp only [Act.put, List.setIfInBounds_toArray, List.set_cons_zero, List.set_cons_succ]
  refine wpAnyH_take (i := 16) (oi := ⟨some 87, _, _, _, _, _⟩) (v := .bool true) rfl (by kernel_rfl) (by kernel_rfl) (by kernel_rfl) (fun _ _ _ h => h) (Or.inl ⟨by rfl, ?_⟩) hHeld ?_
  · intro ww hSw
    try dsimp only at hSw
    go_simp
    try with_reducible rfl
    try omega
  try simp only [Act.put, List.setIfInBounds_toArray, List.set_cons_zero, List.set_cons_succ]
  refine wpAnyH_take (i := 17) (oi := ⟨some 88, _, _, _, _, _⟩) (v := .bool true) rfl (by kernel_rfl) (by kernel_rfl) (by kernel_rfl) (fun _ _ _ h => h) (Or.inl ⟨by rfl, ?_⟩) hHeld ?_
  · intro ww hSw
    try dsimp only at hSw
    go_simp
    try with_reducible rfl
    try omega
  try simp only [Act.put, List.setIfInBounds_toArray, List.set_cons_zero, List.set_cons_succ]
  refine wpAnyH_take (i := 18) (oi := ⟨some 89, _, _, _, _, _⟩) (v := undef) rfl (by kernel_rfl) (by kernel_rfl) (by kernel_rfl) (fun _ _ _ h => h) (Or.inr ⟨by rfl, rfl⟩) hHeld ?_
  try simp only [Act.put, List.setIfInBounds_toArray, List.set_cons_zero, List.set_cons_succ]
  refine wpAnyH_take (i := 19) (oi := ⟨some 90, _, _, _, _, _⟩) (v := undef) rfl (by kernel_rfl) (by kernel_rfl) (by kernel_rfl) (fun _ _ _ h => h) (Or.inr ⟨by rfl, rfl⟩) hHeld ?_
  try simp only [Act.put, List.setIfInBounds_toArray, List.set_cons_zero, List.set_cons_succ]
  refine wpAnyH_take (i := 20) (oi := ⟨some 91, _, _, _, _, _⟩) (v := undef) rfl (by kernel_rfl) (by kernel_rfl) (by kernel_rfl) (fun _ _ _ h => h) (Or.inr ⟨by rfl, rfl⟩) hHeld ?_
  try simp only [Act.put, List.setIfInBounds_toArray, List.set_cons_zero, List.set_cons_succ]
  refine wpAnyH_take (i := 21) (oi := ⟨some 92, _, _, _, _, _⟩) (v := undef) rfl (by kernel_rfl) (by kernel_rfl) (by kernel_rfl) (fun _ _ _ h => h) (Or.inr ⟨by rfl, rfl⟩) hHeld ?_
  try simp only [Act.put, List.setIfInBounds_toArray, List.set_cons_zero, List.set_cons_succ]
  refine wpAnyH_take (i := 22) (oi := ⟨some 93, _, _, _, _, _⟩) (v := undef) rfl (by kernel_rfl) (by kernel_rfl) (by kernel_rfl) (fun _ _ _ h => h) (Or.inr ⟨by rfl, rfl⟩) hHeld ?_
  try simp only [Act.put, List.setIfInBounds_toArray, List.set_cons_zero, List.set_cons_succ]
  refine wpAnyH_take (i := 23) (oi := ⟨some 94, _, _, _, _, _⟩) (v := undef) rfl (by kernel_rfl) (by kernel_rfl) (by kernel_rfl) (fun _ _ _ h => h) (Or.inr ⟨by rfl, rfl⟩) hHeld ?_
  try simp only [Act.put, List.setIfInBounds_toArray, List.set_cons_zero, List.set_cons_succ]
  refine wpAnyH_take (i := 24) (oi := ⟨some 95, _, _, _, _, _⟩) (v := .bool true) rfl (by kernel_rfl) (by kernel_rfl) (by kernel_rfl) (fun _ _ _ h => h) (Or.inl ⟨by rfl, ?_⟩) hHeld ?_
  · intro ww hSw
    try dsimp only at hSw
    go_simp
    try with_reducible rfl
    try omega
  try simp only [Act.put, List.setIfInBounds_toArray, List.set_cons_zero, List.set_cons_succ]
  refine wpAnyH_take (i := 25) (oi := ⟨some 96, _, _, _, _, _⟩) (v := .bool true) rfl (by kernel_rfl) (by kernel_rfl) (by kernel_rfl) (fun _ _ _ h => h) (Or.inl ⟨by rfl, ?_⟩) hHeld ?_
  · intro ww hSw
    try dsimp only at hSw
    go_simp
    try with_reducible rfl
    try omega
  try simp only [Act.put, List.setIfInBounds_toArray, List.set_cons_zero, List.set_cons_succ]
  refine wpAnyH_take (i := 26) (oi := ⟨some 97, _, _, _, _, _⟩) (v := .bool true) rfl (by kernel_rfl) (by kernel_rfl) (by kernel_rfl) (fun _ _ _ h => h) (Or.inl ⟨by rfl, ?_⟩) hHeld ?_
  · intro ww hSw
    try dsimp only at hSw
    go_simp
    try with_reducible rfl
    try omega
  try simp only [Act.put, List.setIfInBounds_toArray, List.set_cons_zero, List.set_cons_succ]
  refine wpAnyH_take (i := 27) (oi := ⟨some 98, _, _, _, _, _⟩) (v := ?_) rfl (by kernel_rfl) (by kernel_rfl) (by kernel_rfl) (fun _ _ _ h => h) (Or.inl ⟨by rfl, ?_⟩) hHeld ?_
  rotate_left
  · intro ww hSw
    try dsimp only at hSw
    have H_0 := (H.below hSw).at_ (v := .int .u32 a) 0 rfl
    have H_1 := (H.below hSw).at_ (v := .int .i64 p) 1 rfl
    have Hl_0 := (Hl.below hSw).at_ (v := .int .u32 a) 0 rfl
    have Hl_1 := (Hl.below hSw).at_ (v := .int .i64 (p + 1)) 1 rfl
    have Hh_0 := (Hh.below hSw).at_ (v := .int .u32 ((a : Int) + (N : Int))) 0 rfl
    have Hh_1 := (Hh.below hSw).at_ (v := .int .i64 (p + 1)) 1 rfl
    go_simp
    try with_reducible rfl
    try omega
  try simp only [Act.put, List.setIfInBounds_toArray, List.set_cons_zero, List.set_cons_succ]
  refine wpAnyH_take (i := 29) (oi := ⟨some 100, _, _, _, _, _⟩) (v := ?_) rfl (by kernel_rfl) (by kernel_rfl) (by kernel_rfl) (fun _ _ _ h => h) (Or.inl ⟨by rfl, ?_⟩) hHeld ?_
  rotate_left
  · intro ww hSw
    try dsimp only at hSw
    have H_0 := (H.below hSw).at_ (v := .int .u32 a) 0 rfl
    have H_1 := (H.below hSw).at_ (v := .int .i64 p) 1 rfl
    have Hl_0 := (Hl.below hSw).at_ (v := .int .u32 a) 0 rfl
    have Hl_1 := (Hl.below hSw).at_ (v := .int .i64 (p + 1)) 1 rfl
    have Hh_0 := (Hh.below hSw).at_ (v := .int .u32 ((a : Int) + (N : Int))) 0 rfl
    have Hh_1 := (Hh.below hSw).at_ (v := .int .i64 (p + 1)) 1 rfl
    go_simp
    try with_reducible rfl
    try omega
  try simp only [Act.put, List.setIfInBounds_toArray, List.set_cons_zero, List.set_cons_succ]
  refine wpAnyH_take (i := 32) (oi := ⟨some 103, _, _, _, _, _⟩) (v := ?_) rfl (by kernel_rfl) (by kernel_rfl) (by kernel_rfl) (fun _ _ _ h => h) (Or.inl ⟨by rfl, ?_⟩) hHeld ?_
  rotate_left
  · intro ww hSw
    try dsimp only at hSw
    have H_0 := (H.below hSw).at_ (v := .int .u32 a) 0 rfl
    have H_1 := (H.below hSw).at_ (v := .int .i64 p) 1 rfl
    have Hl_0 := (Hl.below hSw).at_ (v := .int .u32 a) 0 rfl
    have Hl_1 := (Hl.below hSw).at_ (v := .int .i64 (p + 1)) 1 rfl
    have Hh_0 := (Hh.below hSw).at_ (v := .int .u32 ((a : Int) + (N : Int))) 0 rfl
    have Hh_1 := (Hh.below hSw).at_ (v := .int .i64 (p + 1)) 1 rfl
    go_simp
    try with_reducible rfl
    try omega
  try simp only [Act.put, List.setIfInBounds_toArray, List.set_cons_zero, List.set_cons_succ]
  refine wpAnyH_ready (rs := [28]) (by kernel_rfl) (by simp) ?_
  refine AllReadyH.cons (o := ⟨some 99, _, _, _, _, _⟩) rfl (fun K0 hK => ?_) AllReadyH.nil
  go_simp
  refine ((T6 _).out).mono ?_
  rintro e ww ⟨rfl, K'⟩
  refine hK.out _ _ (Below.then_ hHeld K') (fun hHeld' => ?_)
  clear hHeld K' hK K0
  have hHeld := hHeld'
  clear hHeld'
  try simp only [Act.put, List.setIfInBounds_toArray, List.set_cons_zero, List.set_cons_succ]
  refine wpAnyH_ready (rs := [30]) (by kernel_rfl) (by simp) ?_
  refine AllReadyH.cons (o := ⟨some 101, _, _, _, _, _⟩) rfl (fun K0 hK => ?_) AllReadyH.nil
  go_simp
  refine ((T4 _).out).mono ?_
  rintro e ww ⟨rfl, K'⟩
  refine hK.out _ _ (Below.then_ hHeld K') (fun hHeld' => ?_)
  clear hHeld K' hK K0
  have hHeld := hHeld'
  clear hHeld'
  try simp only [Act.put, List.setIfInBounds_toArray, List.set_cons_zero, List.set_cons_succ]
  refine wpAnyH_take (i := 31) (oi := ⟨some 102, _, _, _, _, _⟩) (v := .int .i64 ((2 * N : Nat) : Int)) rfl (by kernel_rfl) (by kernel_rfl) (by kernel_rfl) (fun _ _ _ h => h) (Or.inl ⟨by rfl, ?_⟩) hHeld ?_
  · intro ww hSw
    try dsimp only at hSw
    go_simp
    try with_reducible rfl
    try omega
  try simp only [Act.put, List.setIfInBounds_toArray, List.set_cons_zero, List.set_cons_succ]
  refine wpAnyH_ready (rs := [33]) (by kernel_rfl) (by simp) ?_
  refine AllReadyH.cons (o := ⟨some 104, _, _, _, _, _⟩) rfl (fun K0 hK => ?_) AllReadyH.nil
  go_simp
  refine ((T5 _).out).mono ?_
  rintro e ww ⟨rfl, K'⟩
  refine hK.out _ _ (Below.then_ hHeld K') (fun hHeld' => ?_)
  clear hHeld K' hK K0
  have hHeld := hHeld'
  clear hHeld'
  try simp only [Act.put, List.setIfInBounds_toArray, List.set_cons_zero, List.set_cons_succ]
  refine wpAnyH_take (i := 34) (oi := ⟨some 105, _, _, _, _, _⟩) (v := .bool true) rfl (by kernel_rfl) (by kernel_rfl) (by kernel_rfl) (fun _ _ _ h => h) (Or.inl ⟨by rfl, ?_⟩) hHeld ?_
  · intro ww hSw
    try dsimp only at hSw
    go_simp
    try with_reducible rfl
    try omega
  try simp only [Act.put, List.setIfInBounds_toArray, List.set_cons_zero, List.set_cons_succ]
  refine wpAnyH_take (i := 35) (oi := ⟨some 106, _, _, _, _, _⟩) (v := .bool true) rfl (by kernel_rfl) (by kernel_rfl) (by kernel_rfl) (fun _ _ _ h => h) (Or.inl ⟨by rfl, ?_⟩) hHeld ?_
  · intro ww hSw
    try dsimp only at hSw
    go_simp
    try with_reducible rfl
    try omega
  try simp only [Act.put, List.setIfInBounds_toArray, List.set_cons_zero, List.set_cons_succ]
  refine wpAnyH_take (i := 36) (oi := ⟨some 4, _, _, _, _, _⟩) (v := ?_) rfl (by kernel_rfl) (by kernel_rfl) (by kernel_rfl) (fun _ _ _ h => h) (Or.inl ⟨by rfl, ?_⟩) hHeld ?_
  rotate_left
  · intro ww hSw
    try dsimp only at hSw
    go_simp
    try with_reducible rfl
    try omega
  try simp only [Act.put, List.setIfInBounds_toArray, List.set_cons_zero, List.set_cons_succ]
  refine wpAnyH_done (by kernel_rfl) ?_ _
  replace K := Below.then_ K hHeld
  go_wp2
  go_ret
  exact ⟨rfl, K⟩
set_option maxRecDepth 100000 in
set_option maxHeartbeats 1000000 in
theorem high_ (ha : a < 4294967296) (hp : p ≠ 32) (hM : Much a p (2 * N)) (hL : Much a (p + 1) N) (hH : Much (a + N) (p + 1) N) (hB : a + N < 4294967296) (hx : x < 4294967296) (h1 : a + N ≤ x) (h2 : x < a + 2 * N) (ho : o = x - a) (hq : q = x - (a + N)) :
    Calls Try.prog 7 #[.agg #[.int .u32 a, .int .i64 p], .int .u32 x] w fun e w' => e = .returned (.bool true) ∧ Below w.heap.size w w' := by
  have hb := Lib.hid hM.may
  have e32 : (p == 32) = false := by simpa using hp
  have rg := mayB_rng hM.may
  have hN := hL.pos
  have hm := hL.most
  have r0 := hp
  clear hp
  have eh : (((2 * N : Nat) : Int)).tdiv 2 = (N : Int) := by rw [Int.tdiv_eq_ediv_of_nonneg (by omega)]; omega
  have ep : IntKind.i64.wrap (p + 1) = p + 1 := IntWalk.i64_in _ (by omega)
  have eN : IntKind.u32.wrap (N : Int) = (N : Int) := IntWalk.u32_in _ (by omega)
  have eB : IntKind.u32.wrap ((a : Int) + (N : Int)) = (a : Int) + (N : Int) := IntWalk.u32_in _ (by omega)
  have e2N : IntKind.i64.wrap ((N : Int) + (N : Int)) = ((2 * N : Nat) : Int) := by rw [IntWalk.i64_in _ (by omega)]; omega
  have eqN : ((((2 * N : Nat) : Int)) == (((2 * N : Nat) : Int))) = true := by simp
  have eo : ((q : Int) == (q : Int)) = true := by simp
  have es : IntKind.i64.wrap ((o : Int) - (N : Int)) = (q : Int) := by rw [IntWalk.i64_in _ (by omega)]; omega
  have ec : IntKind.i64.wrap (N : Int) = (N : Int) := IntWalk.i64_in _ (by omega)
  have T1 : ∀ w2 : World, Hid (Calls Try.prog 11 #[.agg #[.int .u32 a, .int .i64 p], .int .u32 x] w2 fun e w' => e = .returned (.tuple #[.int .i64 o, .int .i64 0]) ∧ Below w2.heap.size w2 w') := fun w2 => by rw [ho]; exact offset_in x hx ha hM (by omega) h2
  have T2 : ∀ w2 : World, Hid (Calls Try.prog 11 #[.agg #[.int .u32 a, .int .i64 (p + 1)], .int .u32 x] w2 fun e w' => e = .returned (.tuple #[.int .i64 0, .int .i64 3]) ∧ Below w2.heap.size w2 w') := fun w2 => off_out x hx ha hL (by omega)
  have T3 : ∀ w2 : World, Hid (Calls Try.prog 11 #[.agg #[.int .u32 ((a : Int) + (N : Int)), .int .i64 (p + 1)], .int .u32 x] w2 fun e w' => e = .returned (.tuple #[.int .i64 q, .int .i64 0]) ∧ Below w2.heap.size w2 w') := fun w2 => by rw [hq]; exact offset_in x hx hB hH h1 (by omega)
  have T4 : ∀ w2 : World, Hid (Calls Try.prog 15 #[.agg #[.int .u32 ((a : Int) + (N : Int)), .int .i64 (p + 1)]] w2 fun e w' => e = .returned (.int .i64 N) ∧ Below w2.heap.size w2 w') := fun w2 => many_yes (w := w2) hB hH
  have T5 : ∀ w2 : World, Hid (Calls Try.prog 15 #[.agg #[.int .u32 a, .int .i64 p]] w2 fun e w' => e = .returned (.int .i64 ((2 * N : Nat) : Int)) ∧ Below w2.heap.size w2 w') := fun w2 => many_yes (w := w2) ha hM
  have T6 : ∀ w2 : World, Hid (Calls Try.prog 15 #[.agg #[.int .u32 a, .int .i64 (p + 1)]] w2 fun e w' => e = .returned (.int .i64 N) ∧ Below w2.heap.size w2 w') := fun w2 => many_yes (w := w2) ha hL
  clear ho hq
  have K := below_alloc w (.cells #[.int .u32 a, .int .i64 p] 24)
  have H := Bk.new w #[.int .u32 a, .int .i64 p] 24
  go_enter Try.func7, Try.ntmps7
  go_wp2_with fail
  generalize w.alloc (.cells #[.int .u32 a, .int .i64 p] 24) = w1 at H K ⊢
  generalize w.heap.size = g at H ⊢
  refine (awake_any _).mono ?_
  rintro e w2 ⟨rfl, K'⟩
  replace H := H.below K'
  replace K := Below.then_ K K'
  clear K'
  have H_0 := H.at_ (v := .int .u32 a) 0 rfl
  have H_1 := H.at_ (v := .int .i64 p) 1 rfl
  have H_z := H.lt
  go_wp2_with fail
  refine (ramay_is ha hb.out).mono ?_
  rintro e w3 ⟨rfl, K'⟩
  clear H_0 H_1 H_z
  replace H := H.below K'
  replace K := Below.then_ K K'
  clear K'
  have H_0 := H.at_ (v := .int .u32 a) 0 rfl
  have H_1 := H.at_ (v := .int .i64 p) 1 rfl
  have H_z := H.lt
  go_wp2_with fail
  refine ((T5 _).out).mono ?_
  rintro e w4 ⟨rfl, K'⟩
  clear H_0 H_1 H_z
  replace H := H.below K'
  replace K := Below.then_ K K'
  clear K'
  have H_0 := H.at_ (v := .int .u32 a) 0 rfl
  have H_1 := H.at_ (v := .int .i64 p) 1 rfl
  have H_z := H.lt
  go_wp2_with fail
  clear H_0 H_1 H_z
  replace H := H.alloc (.cells #[.int .u32 a, .int .i64 (p + 1)] 24)
  replace K := Below.then_ K (below_alloc _ (.cells #[.int .u32 a, .int .i64 (p + 1)] 24))
  have Hl := Bk.new (w4) #[.int .u32 a, .int .i64 (p + 1)] 24
  replace H := H.alloc (.cells #[.int .u32 ((a : Int) + (N : Int)), .int .i64 (p + 1)] 24)
  replace Hl := Hl.alloc (.cells #[.int .u32 ((a : Int) + (N : Int)), .int .i64 (p + 1)] 24)
  replace K := Below.then_ K (below_alloc _ (.cells #[.int .u32 ((a : Int) + (N : Int)), .int .i64 (p + 1)] 24))
  have Hh := Bk.new ((w4).alloc (.cells #[.int .u32 a, .int .i64 (p + 1)] 24)) #[.int .u32 ((a : Int) + (N : Int)), .int .i64 (p + 1)] 24
  try simp only [World.size_alloc] at Hl Hh
  generalize ((w4).alloc (.cells #[.int .u32 a, .int .i64 (p + 1)] 24)).alloc (.cells #[.int .u32 ((a : Int) + (N : Int)), .int .i64 (p + 1)] 24) = w5 at H Hl Hh K ⊢
  generalize w4.heap.size + 1 = gHh at Hl Hh ⊢
  generalize w4.heap.size = gHl at Hl Hh ⊢
  refine ((T1 _).out).mono ?_
  rintro e w6 ⟨rfl, K'⟩
  replace H := H.below K'
  replace Hl := Hl.below K'
  replace Hh := Hh.below K'
  replace K := Below.then_ K K'
  clear K'
  have Hl_0 := Hl.at_ (v := .int .u32 a) 0 rfl
  have Hl_1 := Hl.at_ (v := .int .i64 (p + 1)) 1 rfl
  have Hl_z := Hl.lt
  go_wp2_with fail
  refine ((T2 _).out).mono ?_
  rintro e w7 ⟨rfl, K'⟩
  clear Hl_0 Hl_1 Hl_z
  replace H := H.below K'
  replace Hl := Hl.below K'
  replace Hh := Hh.below K'
  replace K := Below.then_ K K'
  clear K'
  have Hh_0 := Hh.at_ (v := .int .u32 ((a : Int) + (N : Int))) 0 rfl
  have Hh_1 := Hh.at_ (v := .int .i64 (p + 1)) 1 rfl
  have Hh_z := Hh.lt
  go_wp2_with fail
  refine ((T3 _).out).mono ?_
  rintro e w8 ⟨rfl, K'⟩
  clear Hh_0 Hh_1 Hh_z
  replace H := H.below K'
  replace Hl := Hl.below K'
  replace Hh := Hh.below K'
  replace K := Below.then_ K K'
  clear K'
  go_wp2_with fail
  refine wp_region_held_drew (S := fun w' => Below w8.heap.size w8 w') (by kernel_rfl) (Below.refl _ _).drew (fun hHeld => ?_)
  refine wpAnyH_take (i := 0) (oi := ⟨some 71, _, _, _, _, _⟩) (v := ?_) rfl (by kernel_rfl) (by kernel_rfl) (by kernel_rfl) (fun _ _ _ h => h) (Or.inl ⟨by rfl, ?_⟩) hHeld ?_
  rotate_left
  · intro ww hSw
    try dsimp only at hSw
    go_simp
    try with_reducible rfl
    try omega
  try simp only [Act.put, List.setIfInBounds_toArray, List.set_cons_zero, List.set_cons_succ]
  refine wpAnyH_take (i := 1) (oi := ⟨some 72, _, _, _, _, _⟩) (v := .bool false) rfl (by kernel_rfl) (by kernel_rfl) (by kernel_rfl) (fun _ _ _ h => h) (Or.inl ⟨by rfl, ?_⟩) hHeld ?_
  · intro ww hSw
    try dsimp only at hSw
    go_simp
    try with_reducible rfl
    try omega
  try simp only [Act.put, List.setIfInBounds_toArray, List.set_cons_zero, List.set_cons_succ]
  refine wpAnyH_take (i := 2) (oi := ⟨some 73, _, _, _, _, _⟩) (v := ?_) rfl (by kernel_rfl) (by kernel_rfl) (by kernel_rfl) (fun _ _ _ h => h) (Or.inl ⟨by rfl, ?_⟩) hHeld ?_
  rotate_left
  · intro ww hSw
    try dsimp only at hSw
    go_simp
    try with_reducible rfl
    try omega
  try simp only [Act.put, List.setIfInBounds_toArray, List.set_cons_zero, List.set_cons_succ]
  refine wpAnyH_take (i := 3) (oi := ⟨some 74, _, _, _, _, _⟩) (v := .bool true) rfl (by kernel_rfl) (by kernel_rfl) (by kernel_rfl) (fun _ _ _ h => h) (Or.inl ⟨by rfl, ?_⟩) hHeld ?_
  · intro ww hSw
    try dsimp only at hSw
    go_simp
    try with_reducible rfl
    try omega
  try simp only [Act.put, List.setIfInBounds_toArray, List.set_cons_zero, List.set_cons_succ]
  refine wpAnyH_take (i := 4) (oi := ⟨some 75, _, _, _, _, _⟩) (v := .bool true) rfl (by kernel_rfl) (by kernel_rfl) (by kernel_rfl) (fun _ _ _ h => h) (Or.inl ⟨by rfl, ?_⟩) hHeld ?_
  · intro ww hSw
    try dsimp only at hSw
    go_simp
    try with_reducible rfl
    try omega
  try simp only [Act.put, List.setIfInBounds_toArray, List.set_cons_zero, List.set_cons_succ]
  refine wpAnyH_take (i := 5) (oi := ⟨some 76, _, _, _, _, _⟩) (v := .bool true) rfl (by kernel_rfl) (by kernel_rfl) (by kernel_rfl) (fun _ _ _ h => h) (Or.inl ⟨by rfl, ?_⟩) hHeld ?_
  · intro ww hSw
    try dsimp only at hSw
    go_simp
    try with_reducible rfl
    try omega
  try simp only [Act.put, List.setIfInBounds_toArray, List.set_cons_zero, List.set_cons_succ]
  refine wpAnyH_take (i := 6) (oi := ⟨some 77, _, _, _, _, _⟩) (v := ?_) rfl (by kernel_rfl) (by kernel_rfl) (by kernel_rfl) (fun _ _ _ h => h) (Or.inl ⟨by rfl, ?_⟩) hHeld ?_
  rotate_left
  · intro ww hSw
    try dsimp only at hSw
    go_simp
    try with_reducible rfl
    try omega
  try simp only [Act.put, List.setIfInBounds_toArray, List.set_cons_zero, List.set_cons_succ]
  refine wpAnyH_take (i := 7) (oi := ⟨some 78, _, _, _, _, _⟩) (v := .bool true) rfl (by kernel_rfl) (by kernel_rfl) (by kernel_rfl) (fun _ _ _ h => h) (Or.inl ⟨by rfl, ?_⟩) hHeld ?_
  · intro ww hSw
    try dsimp only at hSw
    go_simp
    try with_reducible rfl
    try omega
  try simp only [Act.put, List.setIfInBounds_toArray, List.set_cons_zero, List.set_cons_succ]
  refine wpAnyH_take (i := 8) (oi := ⟨some 79, _, _, _, _, _⟩) (v := .bool true) rfl (by kernel_rfl) (by kernel_rfl) (by kernel_rfl) (fun _ _ _ h => h) (Or.inl ⟨by rfl, ?_⟩) hHeld ?_
  · intro ww hSw
    try dsimp only at hSw
    go_simp
    try with_reducible rfl
    try omega
  try simp only [Act.put, List.setIfInBounds_toArray, List.set_cons_zero, List.set_cons_succ]
  refine wpAnyH_take (i := 9) (oi := ⟨some 80, _, _, _, _, _⟩) (v := undef) rfl (by kernel_rfl) (by kernel_rfl) (by kernel_rfl) (fun _ _ _ h => h) (Or.inr ⟨by rfl, rfl⟩) hHeld ?_
  try simp only [Act.put, List.setIfInBounds_toArray, List.set_cons_zero, List.set_cons_succ]
  refine wpAnyH_take (i := 10) (oi := ⟨some 81, _, _, _, _, _⟩) (v := undef) rfl (by kernel_rfl) (by kernel_rfl) (by kernel_rfl) (fun _ _ _ h => h) (Or.inr ⟨by rfl, rfl⟩) hHeld ?_
  try simp only [Act.put, List.setIfInBounds_toArray, List.set_cons_zero, List.set_cons_succ]
  refine wpAnyH_take (i := 11) (oi := ⟨some 82, _, _, _, _, _⟩) (v := undef) rfl (by kernel_rfl) (by kernel_rfl) (by kernel_rfl) (fun _ _ _ h => h) (Or.inr ⟨by rfl, rfl⟩) hHeld ?_
  try simp only [Act.put, List.setIfInBounds_toArray, List.set_cons_zero, List.set_cons_succ]
  refine wpAnyH_take (i := 12) (oi := ⟨some 83, _, _, _, _, _⟩) (v := .bool true) rfl (by kernel_rfl) (by kernel_rfl) (by kernel_rfl) (fun _ _ _ h => h) (Or.inl ⟨by rfl, ?_⟩) hHeld ?_
  · intro ww hSw
    try dsimp only at hSw
    go_simp
    try with_reducible rfl
    try omega
  try simp only [Act.put, List.setIfInBounds_toArray, List.set_cons_zero, List.set_cons_succ]
  refine wpAnyH_take (i := 13) (oi := ⟨some 84, _, _, _, _, _⟩) (v := .bool true) rfl (by kernel_rfl) (by kernel_rfl) (by kernel_rfl) (fun _ _ _ h => h) (Or.inl ⟨by rfl, ?_⟩) hHeld ?_
  · intro ww hSw
    try dsimp only at hSw
    go_simp
    try with_reducible rfl
    try omega
  try simp only [Act.put, List.setIfInBounds_toArray, List.set_cons_zero, List.set_cons_succ]
  refine wpAnyH_take (i := 14) (oi := ⟨some 85, _, _, _, _, _⟩) (v := .bool true) rfl (by kernel_rfl) (by kernel_rfl) (by kernel_rfl) (fun _ _ _ h => h) (Or.inl ⟨by rfl, ?_⟩) hHeld ?_
  · intro ww hSw
    try dsimp only at hSw
    go_simp
    try with_reducible rfl
    try omega
  try simp only [Act.put, List.setIfInBounds_toArray, List.set_cons_zero, List.set_cons_succ]
  refine wpAnyH_take (i := 15) (oi := ⟨some 86, _, _, _, _, _⟩) (v := ?_) rfl (by kernel_rfl) (by kernel_rfl) (by kernel_rfl) (fun _ _ _ h => h) (Or.inl ⟨by rfl, ?_⟩) hHeld ?_
  rotate_left
  · intro ww hSw
    try dsimp only at hSw
    go_simp
    try with_reducible rfl
    try omega
  try simp only [Act.put, List.setIfInBounds_toArray, List.set_cons_zero, List.set_cons_succ]
  refine wpAnyH_take (i := 16) (oi := ⟨some 87, _, _, _, _, _⟩) (v := .bool false) rfl (by kernel_rfl) (by kernel_rfl) (by kernel_rfl) (fun _ _ _ h => h) (Or.inl ⟨by rfl, ?_⟩) hHeld ?_
  · intro ww hSw
    try dsimp only at hSw
    go_simp
    try with_reducible rfl
    try omega
  try simp only [Act.put, List.setIfInBounds_toArray, List.set_cons_zero, List.set_cons_succ]
  refine wpAnyH_take (i := 17) (oi := ⟨some 88, _, _, _, _, _⟩) (v := .bool false) rfl (by kernel_rfl) (by kernel_rfl) (by kernel_rfl) (fun _ _ _ h => h) (Or.inl ⟨by rfl, ?_⟩) hHeld ?_
  · intro ww hSw
    try dsimp only at hSw
    go_simp
    try with_reducible rfl
    try omega
  try simp only [Act.put, List.setIfInBounds_toArray, List.set_cons_zero, List.set_cons_succ]
  refine wpAnyH_take (i := 18) (oi := ⟨some 89, _, _, _, _, _⟩) (v := ?_) rfl (by kernel_rfl) (by kernel_rfl) (by kernel_rfl) (fun _ _ _ h => h) (Or.inl ⟨by rfl, ?_⟩) hHeld ?_
  rotate_left
  · intro ww hSw
    try dsimp only at hSw
    go_simp
    try with_reducible rfl
    try omega
  try simp only [Act.put, List.setIfInBounds_toArray, List.set_cons_zero, List.set_cons_succ]
  refine wpAnyH_take (i := 19) (oi := ⟨some 90, _, _, _, _, _⟩) (v := ?_) rfl (by kernel_rfl) (by kernel_rfl) (by kernel_rfl) (fun _ _ _ h => h) (Or.inl ⟨by rfl, ?_⟩) hHeld ?_
  rotate_left
  · intro ww hSw
    try dsimp only at hSw
    go_simp
    try with_reducible rfl
    try omega
  try simp only [Act.put, List.setIfInBounds_toArray, List.set_cons_zero, List.set_cons_succ]
  refine wpAnyH_take (i := 20) (oi := ⟨some 91, _, _, _, _, _⟩) (v := ?_) rfl (by kernel_rfl) (by kernel_rfl) (by kernel_rfl) (fun _ _ _ h => h) (Or.inl ⟨by rfl, ?_⟩) hHeld ?_
  rotate_left
  · intro ww hSw
    try dsimp only at hSw
    go_simp
    try with_reducible rfl
    try omega
  try simp only [Act.put, List.setIfInBounds_toArray, List.set_cons_zero, List.set_cons_succ]
  refine wpAnyH_take (i := 21) (oi := ⟨some 92, _, _, _, _, _⟩) (v := .int .i64 N) rfl (by kernel_rfl) (by kernel_rfl) (by kernel_rfl) (fun _ _ _ h => h) (Or.inl ⟨by rfl, ?_⟩) hHeld ?_
  · intro ww hSw
    try dsimp only at hSw
    go_simp
    try with_reducible rfl
    try omega
  try simp only [Act.put, List.setIfInBounds_toArray, List.set_cons_zero, List.set_cons_succ]
  refine wpAnyH_take (i := 22) (oi := ⟨some 93, _, _, _, _, _⟩) (v := .int .i64 q) rfl (by kernel_rfl) (by kernel_rfl) (by kernel_rfl) (fun _ _ _ h => h) (Or.inl ⟨by rfl, ?_⟩) hHeld ?_
  · intro ww hSw
    try dsimp only at hSw
    go_simp
    try with_reducible rfl
    try omega
  try simp only [Act.put, List.setIfInBounds_toArray, List.set_cons_zero, List.set_cons_succ]
  refine wpAnyH_take (i := 23) (oi := ⟨some 94, _, _, _, _, _⟩) (v := .bool true) rfl (by kernel_rfl) (by kernel_rfl) (by kernel_rfl) (fun _ _ _ h => h) (Or.inl ⟨by rfl, ?_⟩) hHeld ?_
  · intro ww hSw
    try dsimp only at hSw
    go_simp
    try with_reducible rfl
    try omega
  try simp only [Act.put, List.setIfInBounds_toArray, List.set_cons_zero, List.set_cons_succ]
  refine wpAnyH_take (i := 24) (oi := ⟨some 95, _, _, _, _, _⟩) (v := .bool true) rfl (by kernel_rfl) (by kernel_rfl) (by kernel_rfl) (fun _ _ _ h => h) (Or.inl ⟨by rfl, ?_⟩) hHeld ?_
  · intro ww hSw
    try dsimp only at hSw
    go_simp
    try with_reducible rfl
    try omega
  try simp only [Act.put, List.setIfInBounds_toArray, List.set_cons_zero, List.set_cons_succ]
  refine wpAnyH_take (i := 25) (oi := ⟨some 96, _, _, _, _, _⟩) (v := .bool true) rfl (by kernel_rfl) (by kernel_rfl) (by kernel_rfl) (fun _ _ _ h => h) (Or.inl ⟨by rfl, ?_⟩) hHeld ?_
  · intro ww hSw
    try dsimp only at hSw
    go_simp
    try with_reducible rfl
    try omega
  try simp only [Act.put, List.setIfInBounds_toArray, List.set_cons_zero, List.set_cons_succ]
  refine wpAnyH_take (i := 26) (oi := ⟨some 97, _, _, _, _, _⟩) (v := .bool true) rfl (by kernel_rfl) (by kernel_rfl) (by kernel_rfl) (fun _ _ _ h => h) (Or.inl ⟨by rfl, ?_⟩) hHeld ?_
  · intro ww hSw
    try dsimp only at hSw
    go_simp
    try with_reducible rfl
    try omega
  try simp only [Act.put, List.setIfInBounds_toArray, List.set_cons_zero, List.set_cons_succ]
  refine wpAnyH_take (i := 27) (oi := ⟨some 98, _, _, _, _, _⟩) (v := ?_) rfl (by kernel_rfl) (by kernel_rfl) (by kernel_rfl) (fun _ _ _ h => h) (Or.inl ⟨by rfl, ?_⟩) hHeld ?_
  rotate_left
  · intro ww hSw
    try dsimp only at hSw
    have H_0 := (H.below hSw).at_ (v := .int .u32 a) 0 rfl
    have H_1 := (H.below hSw).at_ (v := .int .i64 p) 1 rfl
    have Hl_0 := (Hl.below hSw).at_ (v := .int .u32 a) 0 rfl
    have Hl_1 := (Hl.below hSw).at_ (v := .int .i64 (p + 1)) 1 rfl
    have Hh_0 := (Hh.below hSw).at_ (v := .int .u32 ((a : Int) + (N : Int))) 0 rfl
    have Hh_1 := (Hh.below hSw).at_ (v := .int .i64 (p + 1)) 1 rfl
    go_simp
    try with_reducible rfl
    try omega
  try simp only [Act.put, List.setIfInBounds_toArray, List.set_cons_zero, List.set_cons_succ]
  refine wpAnyH_take (i := 29) (oi := ⟨some 100, _, _, _, _, _⟩) (v := ?_) rfl (by kernel_rfl) (by kernel_rfl) (by kernel_rfl) (fun _ _ _ h => h) (Or.inl ⟨by rfl, ?_⟩) hHeld ?_
  rotate_left
  · intro ww hSw
    try dsimp only at hSw
    have H_0 := (H.below hSw).at_ (v := .int .u32 a) 0 rfl
    have H_1 := (H.below hSw).at_ (v := .int .i64 p) 1 rfl
    have Hl_0 := (Hl.below hSw).at_ (v := .int .u32 a) 0 rfl
    have Hl_1 := (Hl.below hSw).at_ (v := .int .i64 (p + 1)) 1 rfl
    have Hh_0 := (Hh.below hSw).at_ (v := .int .u32 ((a : Int) + (N : Int))) 0 rfl
    have Hh_1 := (Hh.below hSw).at_ (v := .int .i64 (p + 1)) 1 rfl
    go_simp
    try with_reducible rfl
    try omega
  try simp only [Act.put, List.setIfInBounds_toArray, List.set_cons_zero, List.set_cons_succ]
  refine wpAnyH_take (i := 32) (oi := ⟨some 103, _, _, _, _, _⟩) (v := ?_) rfl (by kernel_rfl) (by kernel_rfl) (by kernel_rfl) (fun _ _ _ h => h) (Or.inl ⟨by rfl, ?_⟩) hHeld ?_
  rotate_left
  · intro ww hSw
    try dsimp only at hSw
    have H_0 := (H.below hSw).at_ (v := .int .u32 a) 0 rfl
    have H_1 := (H.below hSw).at_ (v := .int .i64 p) 1 rfl
    have Hl_0 := (Hl.below hSw).at_ (v := .int .u32 a) 0 rfl
    have Hl_1 := (Hl.below hSw).at_ (v := .int .i64 (p + 1)) 1 rfl
    have Hh_0 := (Hh.below hSw).at_ (v := .int .u32 ((a : Int) + (N : Int))) 0 rfl
    have Hh_1 := (Hh.below hSw).at_ (v := .int .i64 (p + 1)) 1 rfl
    go_simp
    try with_reducible rfl
    try omega
  try simp only [Act.put, List.setIfInBounds_toArray, List.set_cons_zero, List.set_cons_succ]
  refine wpAnyH_ready (rs := [28]) (by kernel_rfl) (by simp) ?_
  refine AllReadyH.cons (o := ⟨some 99, _, _, _, _, _⟩) rfl (fun K0 hK => ?_) AllReadyH.nil
  go_simp
  refine ((T6 _).out).mono ?_
  rintro e ww ⟨rfl, K'⟩
  refine hK.out _ _ (Below.then_ hHeld K') (fun hHeld' => ?_)
  clear hHeld K' hK K0
  have hHeld := hHeld'
  clear hHeld'
  try simp only [Act.put, List.setIfInBounds_toArray, List.set_cons_zero, List.set_cons_succ]
  refine wpAnyH_ready (rs := [30]) (by kernel_rfl) (by simp) ?_
  refine AllReadyH.cons (o := ⟨some 101, _, _, _, _, _⟩) rfl (fun K0 hK => ?_) AllReadyH.nil
  go_simp
  refine ((T4 _).out).mono ?_
  rintro e ww ⟨rfl, K'⟩
  refine hK.out _ _ (Below.then_ hHeld K') (fun hHeld' => ?_)
  clear hHeld K' hK K0
  have hHeld := hHeld'
  clear hHeld'
  try simp only [Act.put, List.setIfInBounds_toArray, List.set_cons_zero, List.set_cons_succ]
  refine wpAnyH_take (i := 31) (oi := ⟨some 102, _, _, _, _, _⟩) (v := .int .i64 ((2 * N : Nat) : Int)) rfl (by kernel_rfl) (by kernel_rfl) (by kernel_rfl) (fun _ _ _ h => h) (Or.inl ⟨by rfl, ?_⟩) hHeld ?_
  · intro ww hSw
    try dsimp only at hSw
    go_simp
    try with_reducible rfl
    try omega
  try simp only [Act.put, List.setIfInBounds_toArray, List.set_cons_zero, List.set_cons_succ]
  refine wpAnyH_ready (rs := [33]) (by kernel_rfl) (by simp) ?_
  refine AllReadyH.cons (o := ⟨some 104, _, _, _, _, _⟩) rfl (fun K0 hK => ?_) AllReadyH.nil
  go_simp
  refine ((T5 _).out).mono ?_
  rintro e ww ⟨rfl, K'⟩
  refine hK.out _ _ (Below.then_ hHeld K') (fun hHeld' => ?_)
  clear hHeld K' hK K0
  have hHeld := hHeld'
  clear hHeld'
  try simp only [Act.put, List.setIfInBounds_toArray, List.set_cons_zero, List.set_cons_succ]
  refine wpAnyH_take (i := 34) (oi := ⟨some 105, _, _, _, _, _⟩) (v := .bool true) rfl (by kernel_rfl) (by kernel_rfl) (by kernel_rfl) (fun _ _ _ h => h) (Or.inl ⟨by rfl, ?_⟩) hHeld ?_
  · intro ww hSw
    try dsimp only at hSw
    go_simp
    try with_reducible rfl
    try omega
  try simp only [Act.put, List.setIfInBounds_toArray, List.set_cons_zero, List.set_cons_succ]
  refine wpAnyH_take (i := 35) (oi := ⟨some 106, _, _, _, _, _⟩) (v := .bool true) rfl (by kernel_rfl) (by kernel_rfl) (by kernel_rfl) (fun _ _ _ h => h) (Or.inl ⟨by rfl, ?_⟩) hHeld ?_
  · intro ww hSw
    try dsimp only at hSw
    go_simp
    try with_reducible rfl
    try omega
  try simp only [Act.put, List.setIfInBounds_toArray, List.set_cons_zero, List.set_cons_succ]
  refine wpAnyH_take (i := 36) (oi := ⟨some 4, _, _, _, _, _⟩) (v := ?_) rfl (by kernel_rfl) (by kernel_rfl) (by kernel_rfl) (fun _ _ _ h => h) (Or.inl ⟨by rfl, ?_⟩) hHeld ?_
  rotate_left
  · intro ww hSw
    try dsimp only at hSw
    go_simp
    try with_reducible rfl
    try omega
  try simp only [Act.put, List.setIfInBounds_toArray, List.set_cons_zero, List.set_cons_succ]
  refine wpAnyH_done (by kernel_rfl) ?_ _
  replace K := Below.then_ K hHeld
  go_wp2
  go_ret
  exact ⟨rfl, K⟩
end
theorem walk (a p x : Int) (w : World) (wa : (Lit.int .u32 a).wf = true) (_wp : (Lit.int .i64 p).wf = true) (wx : (Lit.int .u32 x).wf = true) :
    Calls Try.prog 7 #[.agg #[.int .u32 a, .int .i64 p], .int .u32 x] w fun e w' => e = .returned (.bool true) ∧ Below w.heap.size w w' := by
  obtain ⟨a, rfl, ha⟩ := wf_u32 wa
  obtain ⟨x, rfl, hx⟩ := wf_u32 wx
  cases hb : mayB a p with
  | false => exact not_may ha hb
  | true =>
    by_cases hp : p = 32
    · exact one ha hb hp
    · obtain ⟨N, e, hL, hH, hB, _⟩ := half (Much.of hb) ha hp
      have hM := Much.of hb
      rw [e] at hM
      by_cases h1 : a ≤ x ∧ x < a + 2 * N
      · by_cases h2 : x < a + N
        · exact low_ ha hp hM hL hH hB hx h1.1 h2 rfl
        · exact high_ ha hp hM hL hH hB hx (by omega) h1.2 rfl rfl
      · exact out_ ha hp hM hL hH hB hx h1
end Go.Proofs.Ytecdjcepminliaa.blockParts
