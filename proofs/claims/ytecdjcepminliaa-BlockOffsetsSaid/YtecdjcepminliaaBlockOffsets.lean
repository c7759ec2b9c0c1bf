/-
  The walk of the law BlockOffsets: for every configuration, address and two offsets it answers true.
-/
import Derived.Test.YtecdjcepminliaaBlockAwake
namespace Go.Proofs.Ytecdjcepminliaa.blockOffsets
open Go.RowKit
section
variable {w : World} {lo a M x u v f k i j s t o : Nat} {p sh wo qu tr : Int} {A : Option Addr} {n c : Nat} {xs : List Int} {q : Bool}
theorem off_out (x : Nat) (hx : x < 4294967296) (ha : a < 4294967296) (hM : Much a p M) (hh : ¬ (a ≤ x ∧ x < a + M)) :
    Calls Try.prog 11 #[.agg #[.int .u32 a, .int .i64 p], .int .u32 x] w fun e w' => e = .returned (.tuple #[.int .i64 0, .int .i64 3]) ∧ Below w.heap.size w w' := by
  have := offset_any (w := w) (p := p) x hx ha hM
  unfold ofO ofE at this
  rwa [if_neg hh, if_neg hh] at this
theorem off_in (hx : x < 4294967296) (ha : a < 4294967296) (hM : Much a p M) (e : x = a + o) (ho : o < M) :
    Calls Try.prog 11 #[.agg #[.int .u32 a, .int .i64 p], .int .u32 x] w fun e w' => e = .returned (.tuple #[.int .i64 o, .int .i64 0]) ∧ Below w.heap.size w w' := by
  obtain rfl : o = x - a := by omega
  exact offset_in x hx ha hM (by omega) (by omega)
theorem addr_at (hx : x < 4294967296) (ho : o ≤ 65536) (e : x = a + o) :
    Calls Try.prog 20 #[.agg #[.int .u32 a, .int .i64 p], .int .i64 o] w fun e w' => e = .returned (.int .u32 x) ∧ Below w.heap.size w w' := by
  have := address_any (w := w) (a := a) (p := p) o ho
  rwa [← e, Nat.mod_eq_of_lt hx] at this
theorem not_may (ha : a < 4294967296) (h : IS .i64 lo w A n c xs) (hb : confB a p n xs sh wo qu tr = false) :
    Calls Try.prog 5 #[.agg #[.int .u32 a, .int .i64 p, .slice A n c, .int .i64 sh, .int .i64 wo, .int .i64 qu, .int .i64 tr], .int .u32 x, .int .u16 f, .int .u16 k] w fun e w' => e = .returned (.bool true) ∧ Below w.heap.size w w' := by
  have hb := Lib.hid hb
  have K := below_alloc w (.cells #[.int .u32 a, .int .i64 p, .slice A n c, .int .i64 sh, .int .i64 wo, .int .i64 qu, .int .i64 tr] 27)
  have H := Bk.new w #[.int .u32 a, .int .i64 p, .slice A n c, .int .i64 sh, .int .i64 wo, .int .i64 qu, .int .i64 tr] 27
  replace h := h.below K
  go_enter Try.func5, Try.ntmps5
  go_wp2_with fail
  generalize w.alloc (.cells #[.int .u32 a, .int .i64 p, .slice A n c, .int .i64 sh, .int .i64 wo, .int .i64 qu, .int .i64 tr] 27) = w1 at H K h ⊢
  generalize w.heap.size = g at H ⊢
  refine (awake_any _).mono ?_
  rintro e w2 ⟨rfl, K'⟩
  replace H := H.below K'
  replace h := h.below K'
  replace K := Below.then_ K K'
  clear K'
  have H_0 := H.at_ (v := .int .u32 a) 0 rfl
  have H_1 := H.at_ (v := .int .i64 p) 1 rfl
  have H_2 := H.at_ (v := .slice A n c) 2 rfl
  have H_3 := H.at_ (v := .int .i64 sh) 3 rfl
  have H_4 := H.at_ (v := .int .i64 wo) 4 rfl
  have H_5 := H.at_ (v := .int .i64 qu) 5 rfl
  have H_6 := H.at_ (v := .int .i64 tr) 6 rfl
  have H_z := H.lt
  go_wp2_with fail
  refine (rmay_is ha h hb.out).mono ?_
  rintro e w3 ⟨rfl, K'⟩
  clear H_0 H_1 H_2 H_3 H_4 H_5 H_6 H_z
  replace H := H.below K'
  replace h := h.below K'
  replace K := Below.then_ K K'
  clear K'
  go_wp2_with fail
  refine (awake_any _).mono ?_
  rintro e w4 ⟨rfl, K'⟩
  replace H := H.below K'
  replace h := h.below K'
  replace K := Below.then_ K K'
  clear K'
  go_wp2
  go_ret
  exact ⟨rfl, K⟩
theorem find_at4 (ha : a < 4294967296) (hM : Much a p M) (hx : x < 4294967296) (e : x = a + o) (ho : o < M) (h : IS .i64 lo w A n c xs) (hn : n ≤ 65536) (hh : hasB xs (o : Int) = true) :
    Calls Try.prog 13 #[.agg #[.int .u32 a, .int .i64 p, .slice A n c, .int .i64 sh, .int .i64 wo, .int .i64 qu, .int .i64 tr], .int .u32 x] w fun e w' => e = .returned (.tuple #[.int .i64 0, .int .i64 4]) ∧ Below w.heap.size w w' := by
  obtain rfl : o = x - a := by omega
  exact find_held x hx ha hM (by omega) (by omega) h hn hh
theorem find_at0 (ha : a < 4294967296) (hM : Much a p M) (hx : x < 4294967296) (e : x = a + o) (ho : o < M) (h : IS .i64 lo w A n c xs) (hn : n ≤ 65536) (hh : hasB xs (o : Int) = false) :
    Calls Try.prog 13 #[.agg #[.int .u32 a, .int .i64 p, .slice A n c, .int .i64 sh, .int .i64 wo, .int .i64 qu, .int .i64 tr], .int .u32 x] w fun e w' => e = .returned (.tuple #[.int .i64 o, .int .i64 0]) ∧ Below w.heap.size w w' := by
  obtain rfl : o = x - a := by omega
  exact find_ok x hx ha hM (by omega) (by omega) h hn hh
set_option maxRecDepth 100000 in
set_option maxHeartbeats 1000000 in
theorem out_ (ha : a < 4294967296) (h : IS .i64 lo w A n c xs) (_hn : n ≤ 64) (hx : x < 4294967296) (hf : f < 65536) (hk : k < 65536) (hM : Much a p M) (hb : confB a p n xs sh wo qu tr = true) (hi : i = f % M) (hj : j = k % M) (hs : s = a + i) (ht2 : t = a + j) (hu : u = (a + 4294967295) % 4294967296) (hv : v = (a + M) % 4294967296) (hq : decide (i = j) = q) (hh : ¬ (a ≤ x ∧ x < a + M)) :
    Calls Try.prog 5 #[.agg #[.int .u32 a, .int .i64 p, .slice A n c, .int .i64 sh, .int .i64 wo, .int .i64 qu, .int .i64 tr], .int .u32 x, .int .u16 f, .int .u16 k] w fun e w' => e = .returned (.bool true) ∧ Below w.heap.size w w' := by
  have hb := Lib.hid hb
  have hm := hM.most
  have hp := hM.pos
  have ht := hM.fits ha
  have i1 : (f : Int).tmod (M : Int) = (i : Int) := by rw [Int.tmod_eq_emod_of_nonneg (by omega), hi, Int.natCast_emod]
  have i2 : (f : Int) % (M : Int) = (i : Int) := by rw [hi, Int.natCast_emod]
  have j1 : (k : Int).tmod (M : Int) = (j : Int) := by rw [Int.tmod_eq_emod_of_nonneg (by omega), hj, Int.natCast_emod]
  have j2 : (k : Int) % (M : Int) = (j : Int) := by rw [hj, Int.natCast_emod]
  have li : i < M := by rw [hi]; exact Nat.mod_lt _ hp
  have lj : j < M := by rw [hj]; exact Nat.mod_lt _ hp
  clear hi hj
  have t3 : ((M : Int) == 0) = false := by simp; omega
  have t4 : ¬ (M : Int) = 0 := by omega
  have t5 : IntKind.i64.wrap (i : Int) = (i : Int) := IntWalk.i64_in _ (by omega)
  have t6 : IntKind.i64.wrap (j : Int) = (j : Int) := IntWalk.i64_in _ (by omega)
  have eM : IntKind.u32.wrap (M : Int) = (M : Int) := IntWalk.u32_in _ (by omega)
  have eu : IntKind.u32.wrap ((a : Int) - 1) = (u : Int) := by rw [IntKind.wrap_u32, hu]; omega
  have ev : IntKind.u32.wrap ((a : Int) + (M : Int)) = (v : Int) := by rw [IntKind.wrap_u32, hv]; omega
  have T1 : ∀ w2 : World, Hid (Calls Try.prog 20 #[.agg #[.int .u32 a, .int .i64 p], .int .i64 i] w2 fun e w' => e = .returned (.int .u32 s) ∧ Below w2.heap.size w2 w') := fun w2 => addr_at (by omega) (by omega) hs
  have T2 : ∀ w2 : World, Hid (Calls Try.prog 11 #[.agg #[.int .u32 a, .int .i64 p], .int .u32 s] w2 fun e w' => e = .returned (.tuple #[.int .i64 i, .int .i64 0]) ∧ Below w2.heap.size w2 w') := fun w2 => off_in (by omega) ha hM hs li
  have T3 : ∀ w2 : World, Hid (Calls Try.prog 20 #[.agg #[.int .u32 a, .int .i64 p], .int .i64 j] w2 fun e w' => e = .returned (.int .u32 t) ∧ Below w2.heap.size w2 w') := fun w2 => addr_at (by omega) (by omega) ht2
  have T4 : ∀ w2 : World, Hid (Calls Try.prog 11 #[.agg #[.int .u32 a, .int .i64 p], .int .u32 u] w2 fun e w' => e = .returned (.tuple #[.int .i64 0, .int .i64 3]) ∧ Below w2.heap.size w2 w') := fun w2 => off_out u (by omega) ha hM (by omega)
  have T5 : ∀ w2 : World, Hid (Calls Try.prog 11 #[.agg #[.int .u32 a, .int .i64 p], .int .u32 v] w2 fun e w' => e = .returned (.tuple #[.int .i64 0, .int .i64 3]) ∧ Below w2.heap.size w2 w') := fun w2 => off_out v (by omega) ha hM (by omega)
  have b1 : ((s : Int) == (t : Int)) = q := by rw [← hq, Bool.eq_iff_iff]; simp; omega
  have b2 : ((i : Int) == (j : Int)) = q := by rw [← hq, Bool.eq_iff_iff]; simp; omega
  have b3 : ((i : Int) != (i : Int)) = false := by simp
  have b4 : (q != q) = false := by simp
  have T6 : ∀ w2 : World, Hid (Calls Try.prog 11 #[.agg #[.int .u32 a, .int .i64 p], .int .u32 x] w2 fun e w' => e = .returned (.tuple #[.int .i64 0, .int .i64 3]) ∧ Below w2.heap.size w2 w') := fun w2 => off_out x hx ha hM hh
  clear hu hv hs ht2 hq
  have K := below_alloc w (.cells #[.int .u32 a, .int .i64 p, .slice A n c, .int .i64 sh, .int .i64 wo, .int .i64 qu, .int .i64 tr] 27)
  have H := Bk.new w #[.int .u32 a, .int .i64 p, .slice A n c, .int .i64 sh, .int .i64 wo, .int .i64 qu, .int .i64 tr] 27
  replace h := h.below K
  go_enter Try.func5, Try.ntmps5
  go_wp2_with fail
  generalize w.alloc (.cells #[.int .u32 a, .int .i64 p, .slice A n c, .int .i64 sh, .int .i64 wo, .int .i64 qu, .int .i64 tr] 27) = w1 at H K h ⊢
  generalize w.heap.size = g at H ⊢
  refine (awake_any _).mono ?_
  rintro e w2 ⟨rfl, K'⟩
  replace H := H.below K'
  replace h := h.below K'
  replace K := Below.then_ K K'
  clear K'
  have H_0 := H.at_ (v := .int .u32 a) 0 rfl
  have H_1 := H.at_ (v := .int .i64 p) 1 rfl
  have H_2 := H.at_ (v := .slice A n c) 2 rfl
  have H_3 := H.at_ (v := .int .i64 sh) 3 rfl
  have H_4 := H.at_ (v := .int .i64 wo) 4 rfl
  have H_5 := H.at_ (v := .int .i64 qu) 5 rfl
  have H_6 := H.at_ (v := .int .i64 tr) 6 rfl
  have H_z := H.lt
  go_wp2_with fail
  refine (rmay_is ha h hb.out).mono ?_
  rintro e w3 ⟨rfl, K'⟩
  clear H_0 H_1 H_2 H_3 H_4 H_5 H_6 H_z
  replace H := H.below K'
  replace h := h.below K'
  replace K := Below.then_ K K'
  clear K'
  have H_0 := H.at_ (v := .int .u32 a) 0 rfl
  have H_1 := H.at_ (v := .int .i64 p) 1 rfl
  have H_2 := H.at_ (v := .slice A n c) 2 rfl
  have H_3 := H.at_ (v := .int .i64 sh) 3 rfl
  have H_4 := H.at_ (v := .int .i64 wo) 4 rfl
  have H_5 := H.at_ (v := .int .i64 qu) 5 rfl
  have H_6 := H.at_ (v := .int .i64 tr) 6 rfl
  have H_z := H.lt
  go_wp2_with fail
  refine (many_yes ha hM).mono ?_
  rintro e w4 ⟨rfl, K'⟩
  clear H_0 H_1 H_2 H_3 H_4 H_5 H_6 H_z
  replace H := H.below K'
  replace h := h.below K'
  replace K := Below.then_ K K'
  clear K'
  have H_0 := H.at_ (v := .int .u32 a) 0 rfl
  have H_1 := H.at_ (v := .int .i64 p) 1 rfl
  have H_2 := H.at_ (v := .slice A n c) 2 rfl
  have H_3 := H.at_ (v := .int .i64 sh) 3 rfl
  have H_4 := H.at_ (v := .int .i64 wo) 4 rfl
  have H_5 := H.at_ (v := .int .i64 qu) 5 rfl
  have H_6 := H.at_ (v := .int .i64 tr) 6 rfl
  have H_z := H.lt
  go_wp2_with fail
  refine ((T1 _).out).mono ?_
  rintro e w5 ⟨rfl, K'⟩
  clear H_0 H_1 H_2 H_3 H_4 H_5 H_6 H_z
  replace H := H.below K'
  replace h := h.below K'
  replace K := Below.then_ K K'
  clear K'
  have H_0 := H.at_ (v := .int .u32 a) 0 rfl
  have H_1 := H.at_ (v := .int .i64 p) 1 rfl
  have H_2 := H.at_ (v := .slice A n c) 2 rfl
  have H_3 := H.at_ (v := .int .i64 sh) 3 rfl
  have H_4 := H.at_ (v := .int .i64 wo) 4 rfl
  have H_5 := H.at_ (v := .int .i64 qu) 5 rfl
  have H_6 := H.at_ (v := .int .i64 tr) 6 rfl
  have H_z := H.lt
  go_wp2_with fail
  refine ((T2 _).out).mono ?_
  rintro e w6 ⟨rfl, K'⟩
  clear H_0 H_1 H_2 H_3 H_4 H_5 H_6 H_z
  replace H := H.below K'
  replace h := h.below K'
  replace K := Below.then_ K K'
  clear K'
  have H_0 := H.at_ (v := .int .u32 a) 0 rfl
  have H_1 := H.at_ (v := .int .i64 p) 1 rfl
  have H_2 := H.at_ (v := .slice A n c) 2 rfl
  have H_3 := H.at_ (v := .int .i64 sh) 3 rfl
  have H_4 := H.at_ (v := .int .i64 wo) 4 rfl
  have H_5 := H.at_ (v := .int .i64 qu) 5 rfl
  have H_6 := H.at_ (v := .int .i64 tr) 6 rfl
  have H_z := H.lt
  go_wp2_with fail
  refine ((T3 _).out).mono ?_
  rintro e w7 ⟨rfl, K'⟩
  clear H_0 H_1 H_2 H_3 H_4 H_5 H_6 H_z
  replace H := H.below K'
  replace h := h.below K'
  replace K := Below.then_ K K'
  clear K'
  have H_0 := H.at_ (v := .int .u32 a) 0 rfl
  have H_1 := H.at_ (v := .int .i64 p) 1 rfl
  have H_2 := H.at_ (v := .slice A n c) 2 rfl
  have H_3 := H.at_ (v := .int .i64 sh) 3 rfl
  have H_4 := H.at_ (v := .int .i64 wo) 4 rfl
  have H_5 := H.at_ (v := .int .i64 qu) 5 rfl
  have H_6 := H.at_ (v := .int .i64 tr) 6 rfl
  have H_z := H.lt
  go_wp2_with fail
  refine ((T4 _).out).mono ?_
  rintro e w8 ⟨rfl, K'⟩
  clear H_0 H_1 H_2 H_3 H_4 H_5 H_6 H_z
  replace H := H.below K'
  replace h := h.below K'
  replace K := Below.then_ K K'
  clear K'
  have H_0 := H.at_ (v := .int .u32 a) 0 rfl
  have H_1 := H.at_ (v := .int .i64 p) 1 rfl
  have H_2 := H.at_ (v := .slice A n c) 2 rfl
  have H_3 := H.at_ (v := .int .i64 sh) 3 rfl
  have H_4 := H.at_ (v := .int .i64 wo) 4 rfl
  have H_5 := H.at_ (v := .int .i64 qu) 5 rfl
  have H_6 := H.at_ (v := .int .i64 tr) 6 rfl
  have H_z := H.lt
  go_wp2_with fail
  refine ((T5 _).out).mono ?_
  rintro e w9 ⟨rfl, K'⟩
  clear H_0 H_1 H_2 H_3 H_4 H_5 H_6 H_z
  replace H := H.below K'
  replace h := h.below K'
  replace K := Below.then_ K K'
  clear K'
  have H_0 := H.at_ (v := .int .u32 a) 0 rfl
  have H_1 := H.at_ (v := .int .i64 p) 1 rfl
  have H_2 := H.at_ (v := .slice A n c) 2 rfl
  have H_3 := H.at_ (v := .int .i64 sh) 3 rfl
  have H_4 := H.at_ (v := .int .i64 wo) 4 rfl
  have H_5 := H.at_ (v := .int .i64 qu) 5 rfl
  have H_6 := H.at_ (v := .int .i64 tr) 6 rfl
  have H_z := H.lt
  go_wp2_with fail
  refine ((T6 _).out).mono ?_
  rintro e w10 ⟨rfl, K'⟩
  clear H_0 H_1 H_2 H_3 H_4 H_5 H_6 H_z
  replace H := H.below K'
  replace h := h.below K'
  replace K := Below.then_ K K'
  clear K'
  have H_0 := H.at_ (v := .int .u32 a) 0 rfl
  have H_1 := H.at_ (v := .int .i64 p) 1 rfl
  have H_2 := H.at_ (v := .slice A n c) 2 rfl
  have H_3 := H.at_ (v := .int .i64 sh) 3 rfl
  have H_4 := H.at_ (v := .int .i64 wo) 4 rfl
  have H_5 := H.at_ (v := .int .i64 qu) 5 rfl
  have H_6 := H.at_ (v := .int .i64 tr) 6 rfl
  have H_z := H.lt
  go_wp2_with fail
  refine (find_out x hx ha hM hh).mono ?_
  rintro e w11 ⟨rfl, K'⟩
  clear H_0 H_1 H_2 H_3 H_4 H_5 H_6 H_z
  replace H := H.below K'
  replace h := h.below K'
  replace K := Below.then_ K K'
  clear K'
  have H_0 := H.at_ (v := .int .u32 a) 0 rfl
  have H_1 := H.at_ (v := .int .i64 p) 1 rfl
  have H_2 := H.at_ (v := .slice A n c) 2 rfl
  have H_3 := H.at_ (v := .int .i64 sh) 3 rfl
  have H_4 := H.at_ (v := .int .i64 wo) 4 rfl
  have H_5 := H.at_ (v := .int .i64 qu) 5 rfl
  have H_6 := H.at_ (v := .int .i64 tr) 6 rfl
  have H_z := H.lt
  go_wp2_with fail
  refine (ramay_is ha hM.may).mono ?_
  rintro e w12 ⟨rfl, K'⟩
  clear H_0 H_1 H_2 H_3 H_4 H_5 H_6 H_z
  replace H := H.below K'
  replace h := h.below K'
  replace K := Below.then_ K K'
  clear K'
  go_wp2
  go_ret
  exact ⟨rfl, K⟩
set_option maxRecDepth 100000 in
set_option maxHeartbeats 1000000 in
theorem held_ (ha : a < 4294967296) (h : IS .i64 lo w A n c xs) (hn : n ≤ 64) (hx : x < 4294967296) (hf : f < 65536) (hk : k < 65536) (hM : Much a p M) (hb : confB a p n xs sh wo qu tr = true) (hi : i = f % M) (hj : j = k % M) (hs : s = a + i) (ht2 : t = a + j) (hu : u = (a + 4294967295) % 4294967296) (hv : v = (a + M) % 4294967296) (hq : decide (i = j) = q) (ho : x = a + o) (lo_ : o < M) (hh : hasB xs (o : Int) = true) :
    Calls Try.prog 5 #[.agg #[.int .u32 a, .int .i64 p, .slice A n c, .int .i64 sh, .int .i64 wo, .int .i64 qu, .int .i64 tr], .int .u32 x, .int .u16 f, .int .u16 k] w fun e w' => e = .returned (.bool true) ∧ Below w.heap.size w w' := by
  have hb := Lib.hid hb
  have hm := hM.most
  have hp := hM.pos
  have ht := hM.fits ha
  have i1 : (f : Int).tmod (M : Int) = (i : Int) := by rw [Int.tmod_eq_emod_of_nonneg (by omega), hi, Int.natCast_emod]
  have i2 : (f : Int) % (M : Int) = (i : Int) := by rw [hi, Int.natCast_emod]
  have j1 : (k : Int).tmod (M : Int) = (j : Int) := by rw [Int.tmod_eq_emod_of_nonneg (by omega), hj, Int.natCast_emod]
  have j2 : (k : Int) % (M : Int) = (j : Int) := by rw [hj, Int.natCast_emod]
  have li : i < M := by rw [hi]; exact Nat.mod_lt _ hp
  have lj : j < M := by rw [hj]; exact Nat.mod_lt _ hp
  clear hi hj
  have t3 : ((M : Int) == 0) = false := by simp; omega
  have t4 : ¬ (M : Int) = 0 := by omega
  have t5 : IntKind.i64.wrap (i : Int) = (i : Int) := IntWalk.i64_in _ (by omega)
  have t6 : IntKind.i64.wrap (j : Int) = (j : Int) := IntWalk.i64_in _ (by omega)
  have eM : IntKind.u32.wrap (M : Int) = (M : Int) := IntWalk.u32_in _ (by omega)
  have eu : IntKind.u32.wrap ((a : Int) - 1) = (u : Int) := by rw [IntKind.wrap_u32, hu]; omega
  have ev : IntKind.u32.wrap ((a : Int) + (M : Int)) = (v : Int) := by rw [IntKind.wrap_u32, hv]; omega
  have T1 : ∀ w2 : World, Hid (Calls Try.prog 20 #[.agg #[.int .u32 a, .int .i64 p], .int .i64 i] w2 fun e w' => e = .returned (.int .u32 s) ∧ Below w2.heap.size w2 w') := fun w2 => addr_at (by omega) (by omega) hs
  have T2 : ∀ w2 : World, Hid (Calls Try.prog 11 #[.agg #[.int .u32 a, .int .i64 p], .int .u32 s] w2 fun e w' => e = .returned (.tuple #[.int .i64 i, .int .i64 0]) ∧ Below w2.heap.size w2 w') := fun w2 => off_in (by omega) ha hM hs li
  have T3 : ∀ w2 : World, Hid (Calls Try.prog 20 #[.agg #[.int .u32 a, .int .i64 p], .int .i64 j] w2 fun e w' => e = .returned (.int .u32 t) ∧ Below w2.heap.size w2 w') := fun w2 => addr_at (by omega) (by omega) ht2
  have T4 : ∀ w2 : World, Hid (Calls Try.prog 11 #[.agg #[.int .u32 a, .int .i64 p], .int .u32 u] w2 fun e w' => e = .returned (.tuple #[.int .i64 0, .int .i64 3]) ∧ Below w2.heap.size w2 w') := fun w2 => off_out u (by omega) ha hM (by omega)
  have T5 : ∀ w2 : World, Hid (Calls Try.prog 11 #[.agg #[.int .u32 a, .int .i64 p], .int .u32 v] w2 fun e w' => e = .returned (.tuple #[.int .i64 0, .int .i64 3]) ∧ Below w2.heap.size w2 w') := fun w2 => off_out v (by omega) ha hM (by omega)
  have b1 : ((s : Int) == (t : Int)) = q := by rw [← hq, Bool.eq_iff_iff]; simp; omega
  have b2 : ((i : Int) == (j : Int)) = q := by rw [← hq, Bool.eq_iff_iff]; simp; omega
  have b3 : ((i : Int) != (i : Int)) = false := by simp
  have b4 : (q != q) = false := by simp
  have T6 : ∀ w2 : World, Hid (Calls Try.prog 11 #[.agg #[.int .u32 a, .int .i64 p], .int .u32 x] w2 fun e w' => e = .returned (.tuple #[.int .i64 o, .int .i64 0]) ∧ Below w2.heap.size w2 w') := fun w2 => off_in hx ha hM ho lo_
  have T7 : ∀ w2 : World, Hid (Calls Try.prog 20 #[.agg #[.int .u32 a, .int .i64 p], .int .i64 o] w2 fun e w' => e = .returned (.int .u32 x) ∧ Below w2.heap.size w2 w') := fun w2 => addr_at hx (by omega) ho
  have b5 : ((x : Int) != (x : Int)) = false := by simp
  have b6 : ((o : Int) == (o : Int)) = true := by simp
  have HO := Lib.hid ho
  clear ho
  clear hu hv hs ht2 hq
  have K := below_alloc w (.cells #[.int .u32 a, .int .i64 p, .slice A n c, .int .i64 sh, .int .i64 wo, .int .i64 qu, .int .i64 tr] 27)
  have H := Bk.new w #[.int .u32 a, .int .i64 p, .slice A n c, .int .i64 sh, .int .i64 wo, .int .i64 qu, .int .i64 tr] 27
  replace h := h.below K
  go_enter Try.func5, Try.ntmps5
  go_wp2_with fail
  generalize w.alloc (.cells #[.int .u32 a, .int .i64 p, .slice A n c, .int .i64 sh, .int .i64 wo, .int .i64 qu, .int .i64 tr] 27) = w1 at H K h ⊢
  generalize w.heap.size = g at H ⊢
  refine (awake_any _).mono ?_
  rintro e w2 ⟨rfl, K'⟩
  replace H := H.below K'
  replace h := h.below K'
  replace K := Below.then_ K K'
  clear K'
  have H_0 := H.at_ (v := .int .u32 a) 0 rfl
  have H_1 := H.at_ (v := .int .i64 p) 1 rfl
  have H_2 := H.at_ (v := .slice A n c) 2 rfl
  have H_3 := H.at_ (v := .int .i64 sh) 3 rfl
  have H_4 := H.at_ (v := .int .i64 wo) 4 rfl
  have H_5 := H.at_ (v := .int .i64 qu) 5 rfl
  have H_6 := H.at_ (v := .int .i64 tr) 6 rfl
  have H_z := H.lt
  go_wp2_with fail
  refine (rmay_is ha h hb.out).mono ?_
  rintro e w3 ⟨rfl, K'⟩
  clear H_0 H_1 H_2 H_3 H_4 H_5 H_6 H_z
  replace H := H.below K'
  replace h := h.below K'
  replace K := Below.then_ K K'
  clear K'
  have H_0 := H.at_ (v := .int .u32 a) 0 rfl
  have H_1 := H.at_ (v := .int .i64 p) 1 rfl
  have H_2 := H.at_ (v := .slice A n c) 2 rfl
  have H_3 := H.at_ (v := .int .i64 sh) 3 rfl
  have H_4 := H.at_ (v := .int .i64 wo) 4 rfl
  have H_5 := H.at_ (v := .int .i64 qu) 5 rfl
  have H_6 := H.at_ (v := .int .i64 tr) 6 rfl
  have H_z := H.lt
  go_wp2_with fail
  refine (many_yes ha hM).mono ?_
  rintro e w4 ⟨rfl, K'⟩
  clear H_0 H_1 H_2 H_3 H_4 H_5 H_6 H_z
  replace H := H.below K'
  replace h := h.below K'
  replace K := Below.then_ K K'
  clear K'
  have H_0 := H.at_ (v := .int .u32 a) 0 rfl
  have H_1 := H.at_ (v := .int .i64 p) 1 rfl
  have H_2 := H.at_ (v := .slice A n c) 2 rfl
  have H_3 := H.at_ (v := .int .i64 sh) 3 rfl
  have H_4 := H.at_ (v := .int .i64 wo) 4 rfl
  have H_5 := H.at_ (v := .int .i64 qu) 5 rfl
  have H_6 := H.at_ (v := .int .i64 tr) 6 rfl
  have H_z := H.lt
  go_wp2_with fail
  refine ((T1 _).out).mono ?_
  rintro e w5 ⟨rfl, K'⟩
  clear H_0 H_1 H_2 H_3 H_4 H_5 H_6 H_z
  replace H := H.below K'
  replace h := h.below K'
  replace K := Below.then_ K K'
  clear K'
  have H_0 := H.at_ (v := .int .u32 a) 0 rfl
  have H_1 := H.at_ (v := .int .i64 p) 1 rfl
  have H_2 := H.at_ (v := .slice A n c) 2 rfl
  have H_3 := H.at_ (v := .int .i64 sh) 3 rfl
  have H_4 := H.at_ (v := .int .i64 wo) 4 rfl
  have H_5 := H.at_ (v := .int .i64 qu) 5 rfl
  have H_6 := H.at_ (v := .int .i64 tr) 6 rfl
  have H_z := H.lt
  go_wp2_with fail
  refine ((T2 _).out).mono ?_
  rintro e w6 ⟨rfl, K'⟩
  clear H_0 H_1 H_2 H_3 H_4 H_5 H_6 H_z
  replace H := H.below K'
  replace h := h.below K'
  replace K := Below.then_ K K'
  clear K'
  have H_0 := H.at_ (v := .int .u32 a) 0 rfl
  have H_1 := H.at_ (v := .int .i64 p) 1 rfl
  have H_2 := H.at_ (v := .slice A n c) 2 rfl
  have H_3 := H.at_ (v := .int .i64 sh) 3 rfl
  have H_4 := H.at_ (v := .int .i64 wo) 4 rfl
  have H_5 := H.at_ (v := .int .i64 qu) 5 rfl
  have H_6 := H.at_ (v := .int .i64 tr) 6 rfl
  have H_z := H.lt
  go_wp2_with fail
  refine ((T3 _).out).mono ?_
  rintro e w7 ⟨rfl, K'⟩
  clear H_0 H_1 H_2 H_3 H_4 H_5 H_6 H_z
  replace H := H.below K'
  replace h := h.below K'
  replace K := Below.then_ K K'
  clear K'
  have H_0 := H.at_ (v := .int .u32 a) 0 rfl
  have H_1 := H.at_ (v := .int .i64 p) 1 rfl
  have H_2 := H.at_ (v := .slice A n c) 2 rfl
  have H_3 := H.at_ (v := .int .i64 sh) 3 rfl
  have H_4 := H.at_ (v := .int .i64 wo) 4 rfl
  have H_5 := H.at_ (v := .int .i64 qu) 5 rfl
  have H_6 := H.at_ (v := .int .i64 tr) 6 rfl
  have H_z := H.lt
  go_wp2_with fail
  refine ((T4 _).out).mono ?_
  rintro e w8 ⟨rfl, K'⟩
  clear H_0 H_1 H_2 H_3 H_4 H_5 H_6 H_z
  replace H := H.below K'
  replace h := h.below K'
  replace K := Below.then_ K K'
  clear K'
  have H_0 := H.at_ (v := .int .u32 a) 0 rfl
  have H_1 := H.at_ (v := .int .i64 p) 1 rfl
  have H_2 := H.at_ (v := .slice A n c) 2 rfl
  have H_3 := H.at_ (v := .int .i64 sh) 3 rfl
  have H_4 := H.at_ (v := .int .i64 wo) 4 rfl
  have H_5 := H.at_ (v := .int .i64 qu) 5 rfl
  have H_6 := H.at_ (v := .int .i64 tr) 6 rfl
  have H_z := H.lt
  go_wp2_with fail
  refine ((T5 _).out).mono ?_
  rintro e w9 ⟨rfl, K'⟩
  clear H_0 H_1 H_2 H_3 H_4 H_5 H_6 H_z
  replace H := H.below K'
  replace h := h.below K'
  replace K := Below.then_ K K'
  clear K'
  have H_0 := H.at_ (v := .int .u32 a) 0 rfl
  have H_1 := H.at_ (v := .int .i64 p) 1 rfl
  have H_2 := H.at_ (v := .slice A n c) 2 rfl
  have H_3 := H.at_ (v := .int .i64 sh) 3 rfl
  have H_4 := H.at_ (v := .int .i64 wo) 4 rfl
  have H_5 := H.at_ (v := .int .i64 qu) 5 rfl
  have H_6 := H.at_ (v := .int .i64 tr) 6 rfl
  have H_z := H.lt
  go_wp2_with fail
  refine ((T6 _).out).mono ?_
  rintro e w10 ⟨rfl, K'⟩
  clear H_0 H_1 H_2 H_3 H_4 H_5 H_6 H_z
  replace H := H.below K'
  replace h := h.below K'
  replace K := Below.then_ K K'
  clear K'
  have H_0 := H.at_ (v := .int .u32 a) 0 rfl
  have H_1 := H.at_ (v := .int .i64 p) 1 rfl
  have H_2 := H.at_ (v := .slice A n c) 2 rfl
  have H_3 := H.at_ (v := .int .i64 sh) 3 rfl
  have H_4 := H.at_ (v := .int .i64 wo) 4 rfl
  have H_5 := H.at_ (v := .int .i64 qu) 5 rfl
  have H_6 := H.at_ (v := .int .i64 tr) 6 rfl
  have H_z := H.lt
  go_wp2_with fail
  refine ((T7 _).out).mono ?_
  rintro e w11 ⟨rfl, K'⟩
  clear H_0 H_1 H_2 H_3 H_4 H_5 H_6 H_z
  replace H := H.below K'
  replace h := h.below K'
  replace K := Below.then_ K K'
  clear K'
  have H_0 := H.at_ (v := .int .u32 a) 0 rfl
  have H_1 := H.at_ (v := .int .i64 p) 1 rfl
  have H_2 := H.at_ (v := .slice A n c) 2 rfl
  have H_3 := H.at_ (v := .int .i64 sh) 3 rfl
  have H_4 := H.at_ (v := .int .i64 wo) 4 rfl
  have H_5 := H.at_ (v := .int .i64 qu) 5 rfl
  have H_6 := H.at_ (v := .int .i64 tr) 6 rfl
  have H_z := H.lt
  go_wp2_with fail
  refine (find_at4 ha hM hx HO.out lo_ h (by omega) hh).mono ?_
  rintro e w12 ⟨rfl, K'⟩
  clear H_0 H_1 H_2 H_3 H_4 H_5 H_6 H_z
  replace H := H.below K'
  replace h := h.below K'
  replace K := Below.then_ K K'
  clear K'
  have H_0 := H.at_ (v := .int .u32 a) 0 rfl
  have H_1 := H.at_ (v := .int .i64 p) 1 rfl
  have H_2 := H.at_ (v := .slice A n c) 2 rfl
  have H_3 := H.at_ (v := .int .i64 sh) 3 rfl
  have H_4 := H.at_ (v := .int .i64 wo) 4 rfl
  have H_5 := H.at_ (v := .int .i64 qu) 5 rfl
  have H_6 := H.at_ (v := .int .i64 tr) 6 rfl
  have H_z := H.lt
  go_wp2_with fail
  refine (held_is h (by omega) hh).mono ?_
  rintro e w13 ⟨rfl, K'⟩
  clear H_0 H_1 H_2 H_3 H_4 H_5 H_6 H_z
  replace H := H.below K'
  replace h := h.below K'
  replace K := Below.then_ K K'
  clear K'
  have H_0 := H.at_ (v := .int .u32 a) 0 rfl
  have H_1 := H.at_ (v := .int .i64 p) 1 rfl
  have H_2 := H.at_ (v := .slice A n c) 2 rfl
  have H_3 := H.at_ (v := .int .i64 sh) 3 rfl
  have H_4 := H.at_ (v := .int .i64 wo) 4 rfl
  have H_5 := H.at_ (v := .int .i64 qu) 5 rfl
  have H_6 := H.at_ (v := .int .i64 tr) 6 rfl
  have H_z := H.lt
  go_wp2_with fail
  refine (ramay_is ha hM.may).mono ?_
  rintro e w14 ⟨rfl, K'⟩
  clear H_0 H_1 H_2 H_3 H_4 H_5 H_6 H_z
  replace H := H.below K'
  replace h := h.below K'
  replace K := Below.then_ K K'
  clear K'
  go_wp2
  go_ret
  exact ⟨rfl, K⟩
set_option maxRecDepth 100000 in
set_option maxHeartbeats 1000000 in
theorem ok_ (ha : a < 4294967296) (h : IS .i64 lo w A n c xs) (hn : n ≤ 64) (hx : x < 4294967296) (hf : f < 65536) (hk : k < 65536) (hM : Much a p M) (hb : confB a p n xs sh wo qu tr = true) (hi : i = f % M) (hj : j = k % M) (hs : s = a + i) (ht2 : t = a + j) (hu : u = (a + 4294967295) % 4294967296) (hv : v = (a + M) % 4294967296) (hq : decide (i = j) = q) (ho : x = a + o) (lo_ : o < M) (hh : hasB xs (o : Int) = false) :
    Calls Try.prog 5 #[.agg #[.int .u32 a, .int .i64 p, .slice A n c, .int .i64 sh, .int .i64 wo, .int .i64 qu, .int .i64 tr], .int .u32 x, .int .u16 f, .int .u16 k] w fun e w' => e = .returned (.bool true) ∧ Below w.heap.size w w' := by
  have hb := Lib.hid hb
  have hm := hM.most
  have hp := hM.pos
  have ht := hM.fits ha
  have i1 : (f : Int).tmod (M : Int) = (i : Int) := by rw [Int.tmod_eq_emod_of_nonneg (by omega), hi, Int.natCast_emod]
  have i2 : (f : Int) % (M : Int) = (i : Int) := by rw [hi, Int.natCast_emod]
  have j1 : (k : Int).tmod (M : Int) = (j : Int) := by rw [Int.tmod_eq_emod_of_nonneg (by omega), hj, Int.natCast_emod]
  have j2 : (k : Int) % (M : Int) = (j : Int) := by rw [hj, Int.natCast_emod]
  have li : i < M := by rw [hi]; exact Nat.mod_lt _ hp
  have lj : j < M := by rw [hj]; exact Nat.mod_lt _ hp
  clear hi hj
  have t3 : ((M : Int) == 0) = false := by simp; omega
  have t4 : ¬ (M : Int) = 0 := by omega
  have t5 : IntKind.i64.wrap (i : Int) = (i : Int) := IntWalk.i64_in _ (by omega)
  have t6 : IntKind.i64.wrap (j : Int) = (j : Int) := IntWalk.i64_in _ (by omega)
  have eM : IntKind.u32.wrap (M : Int) = (M : Int) := IntWalk.u32_in _ (by omega)
  have eu : IntKind.u32.wrap ((a : Int) - 1) = (u : Int) := by rw [IntKind.wrap_u32, hu]; omega
  have ev : IntKind.u32.wrap ((a : Int) + (M : Int)) = (v : Int) := by rw [IntKind.wrap_u32, hv]; omega
  have T1 : ∀ w2 : World, Hid (Calls Try.prog 20 #[.agg #[.int .u32 a, .int .i64 p], .int .i64 i] w2 fun e w' => e = .returned (.int .u32 s) ∧ Below w2.heap.size w2 w') := fun w2 => addr_at (by omega) (by omega) hs
  have T2 : ∀ w2 : World, Hid (Calls Try.prog 11 #[.agg #[.int .u32 a, .int .i64 p], .int .u32 s] w2 fun e w' => e = .returned (.tuple #[.int .i64 i, .int .i64 0]) ∧ Below w2.heap.size w2 w') := fun w2 => off_in (by omega) ha hM hs li
  have T3 : ∀ w2 : World, Hid (Calls Try.prog 20 #[.agg #[.int .u32 a, .int .i64 p], .int .i64 j] w2 fun e w' => e = .returned (.int .u32 t) ∧ Below w2.heap.size w2 w') := fun w2 => addr_at (by omega) (by omega) ht2
  have T4 : ∀ w2 : World, Hid (Calls Try.prog 11 #[.agg #[.int .u32 a, .int .i64 p], .int .u32 u] w2 fun e w' => e = .returned (.tuple #[.int .i64 0, .int .i64 3]) ∧ Below w2.heap.size w2 w') := fun w2 => off_out u (by omega) ha hM (by omega)
  have T5 : ∀ w2 : World, Hid (Calls Try.prog 11 #[.agg #[.int .u32 a, .int .i64 p], .int .u32 v] w2 fun e w' => e = .returned (.tuple #[.int .i64 0, .int .i64 3]) ∧ Below w2.heap.size w2 w') := fun w2 => off_out v (by omega) ha hM (by omega)
  have b1 : ((s : Int) == (t : Int)) = q := by rw [← hq, Bool.eq_iff_iff]; simp; omega
  have b2 : ((i : Int) == (j : Int)) = q := by rw [← hq, Bool.eq_iff_iff]; simp; omega
  have b3 : ((i : Int) != (i : Int)) = false := by simp
  have b4 : (q != q) = false := by simp
  have T6 : ∀ w2 : World, Hid (Calls Try.prog 11 #[.agg #[.int .u32 a, .int .i64 p], .int .u32 x] w2 fun e w' => e = .returned (.tuple #[.int .i64 o, .int .i64 0]) ∧ Below w2.heap.size w2 w') := fun w2 => off_in hx ha hM ho lo_
  have T7 : ∀ w2 : World, Hid (Calls Try.prog 20 #[.agg #[.int .u32 a, .int .i64 p], .int .i64 o] w2 fun e w' => e = .returned (.int .u32 x) ∧ Below w2.heap.size w2 w') := fun w2 => addr_at hx (by omega) ho
  have b5 : ((x : Int) != (x : Int)) = false := by simp
  have b6 : ((o : Int) == (o : Int)) = true := by simp
  have HO := Lib.hid ho
  clear ho
  clear hu hv hs ht2 hq
  have K := below_alloc w (.cells #[.int .u32 a, .int .i64 p, .slice A n c, .int .i64 sh, .int .i64 wo, .int .i64 qu, .int .i64 tr] 27)
  have H := Bk.new w #[.int .u32 a, .int .i64 p, .slice A n c, .int .i64 sh, .int .i64 wo, .int .i64 qu, .int .i64 tr] 27
  replace h := h.below K
  go_enter Try.func5, Try.ntmps5
  go_wp2_with fail
  generalize w.alloc (.cells #[.int .u32 a, .int .i64 p, .slice A n c, .int .i64 sh, .int .i64 wo, .int .i64 qu, .int .i64 tr] 27) = w1 at H K h ⊢
  generalize w.heap.size = g at H ⊢
  refine (awake_any _).mono ?_
  rintro e w2 ⟨rfl, K'⟩
  replace H := H.below K'
  replace h := h.below K'
  replace K := Below.then_ K K'
  clear K'
  have H_0 := H.at_ (v := .int .u32 a) 0 rfl
  have H_1 := H.at_ (v := .int .i64 p) 1 rfl
  have H_2 := H.at_ (v := .slice A n c) 2 rfl
  have H_3 := H.at_ (v := .int .i64 sh) 3 rfl
  have H_4 := H.at_ (v := .int .i64 wo) 4 rfl
  have H_5 := H.at_ (v := .int .i64 qu) 5 rfl
  have H_6 := H.at_ (v := .int .i64 tr) 6 rfl
  have H_z := H.lt
  go_wp2_with fail
  refine (rmay_is ha h hb.out).mono ?_
  rintro e w3 ⟨rfl, K'⟩
  clear H_0 H_1 H_2 H_3 H_4 H_5 H_6 H_z
  replace H := H.below K'
  replace h := h.below K'
  replace K := Below.then_ K K'
  clear K'
  have H_0 := H.at_ (v := .int .u32 a) 0 rfl
  have H_1 := H.at_ (v := .int .i64 p) 1 rfl
  have H_2 := H.at_ (v := .slice A n c) 2 rfl
  have H_3 := H.at_ (v := .int .i64 sh) 3 rfl
  have H_4 := H.at_ (v := .int .i64 wo) 4 rfl
  have H_5 := H.at_ (v := .int .i64 qu) 5 rfl
  have H_6 := H.at_ (v := .int .i64 tr) 6 rfl
  have H_z := H.lt
  go_wp2_with fail
  refine (many_yes ha hM).mono ?_
  rintro e w4 ⟨rfl, K'⟩
  clear H_0 H_1 H_2 H_3 H_4 H_5 H_6 H_z
  replace H := H.below K'
  replace h := h.below K'
  replace K := Below.then_ K K'
  clear K'
  have H_0 := H.at_ (v := .int .u32 a) 0 rfl
  have H_1 := H.at_ (v := .int .i64 p) 1 rfl
  have H_2 := H.at_ (v := .slice A n c) 2 rfl
  have H_3 := H.at_ (v := .int .i64 sh) 3 rfl
  have H_4 := H.at_ (v := .int .i64 wo) 4 rfl
  have H_5 := H.at_ (v := .int .i64 qu) 5 rfl
  have H_6 := H.at_ (v := .int .i64 tr) 6 rfl
  have H_z := H.lt
  go_wp2_with fail
  refine ((T1 _).out).mono ?_
  rintro e w5 ⟨rfl, K'⟩
  clear H_0 H_1 H_2 H_3 H_4 H_5 H_6 H_z
  replace H := H.below K'
  replace h := h.below K'
  replace K := Below.then_ K K'
  clear K'
  have H_0 := H.at_ (v := .int .u32 a) 0 rfl
  have H_1 := H.at_ (v := .int .i64 p) 1 rfl
  have H_2 := H.at_ (v := .slice A n c) 2 rfl
  have H_3 := H.at_ (v := .int .i64 sh) 3 rfl
  have H_4 := H.at_ (v := .int .i64 wo) 4 rfl
  have H_5 := H.at_ (v := .int .i64 qu) 5 rfl
  have H_6 := H.at_ (v := .int .i64 tr) 6 rfl
  have H_z := H.lt
  go_wp2_with fail
  refine ((T2 _).out).mono ?_
  rintro e w6 ⟨rfl, K'⟩
  clear H_0 H_1 H_2 H_3 H_4 H_5 H_6 H_z
  replace H := H.below K'
  replace h := h.below K'
  replace K := Below.then_ K K'
  clear K'
  have H_0 := H.at_ (v := .int .u32 a) 0 rfl
  have H_1 := H.at_ (v := .int .i64 p) 1 rfl
  have H_2 := H.at_ (v := .slice A n c) 2 rfl
  have H_3 := H.at_ (v := .int .i64 sh) 3 rfl
  have H_4 := H.at_ (v := .int .i64 wo) 4 rfl
  have H_5 := H.at_ (v := .int .i64 qu) 5 rfl
  have H_6 := H.at_ (v := .int .i64 tr) 6 rfl
  have H_z := H.lt
  go_wp2_with fail
  refine ((T3 _).out).mono ?_
  rintro e w7 ⟨rfl, K'⟩
  clear H_0 H_1 H_2 H_3 H_4 H_5 H_6 H_z
  replace H := H.below K'
  replace h := h.below K'
  replace K := Below.then_ K K'
  clear K'
  have H_0 := H.at_ (v := .int .u32 a) 0 rfl
  have H_1 := H.at_ (v := .int .i64 p) 1 rfl
  have H_2 := H.at_ (v := .slice A n c) 2 rfl
  have H_3 := H.at_ (v := .int .i64 sh) 3 rfl
  have H_4 := H.at_ (v := .int .i64 wo) 4 rfl
  have H_5 := H.at_ (v := .int .i64 qu) 5 rfl
  have H_6 := H.at_ (v := .int .i64 tr) 6 rfl
  have H_z := H.lt
  go_wp2_with fail
  refine ((T4 _).out).mono ?_
  rintro e w8 ⟨rfl, K'⟩
  clear H_0 H_1 H_2 H_3 H_4 H_5 H_6 H_z
  replace H := H.below K'
  replace h := h.below K'
  replace K := Below.then_ K K'
  clear K'
  have H_0 := H.at_ (v := .int .u32 a) 0 rfl
  have H_1 := H.at_ (v := .int .i64 p) 1 rfl
  have H_2 := H.at_ (v := .slice A n c) 2 rfl
  have H_3 := H.at_ (v := .int .i64 sh) 3 rfl
  have H_4 := H.at_ (v := .int .i64 wo) 4 rfl
  have H_5 := H.at_ (v := .int .i64 qu) 5 rfl
  have H_6 := H.at_ (v := .int .i64 tr) 6 rfl
  have H_z := H.lt
  go_wp2_with fail
  refine ((T5 _).out).mono ?_
  rintro e w9 ⟨rfl, K'⟩
  clear H_0 H_1 H_2 H_3 H_4 H_5 H_6 H_z
  replace H := H.below K'
  replace h := h.below K'
  replace K := Below.then_ K K'
  clear K'
  have H_0 := H.at_ (v := .int .u32 a) 0 rfl
  have H_1 := H.at_ (v := .int .i64 p) 1 rfl
  have H_2 := H.at_ (v := .slice A n c) 2 rfl
  have H_3 := H.at_ (v := .int .i64 sh) 3 rfl
  have H_4 := H.at_ (v := .int .i64 wo) 4 rfl
  have H_5 := H.at_ (v := .int .i64 qu) 5 rfl
  have H_6 := H.at_ (v := .int .i64 tr) 6 rfl
  have H_z := H.lt
  go_wp2_with fail
  refine ((T6 _).out).mono ?_
  rintro e w10 ⟨rfl, K'⟩
  clear H_0 H_1 H_2 H_3 H_4 H_5 H_6 H_z
  replace H := H.below K'
  replace h := h.below K'
  replace K := Below.then_ K K'
  clear K'
  have H_0 := H.at_ (v := .int .u32 a) 0 rfl
  have H_1 := H.at_ (v := .int .i64 p) 1 rfl
  have H_2 := H.at_ (v := .slice A n c) 2 rfl
  have H_3 := H.at_ (v := .int .i64 sh) 3 rfl
  have H_4 := H.at_ (v := .int .i64 wo) 4 rfl
  have H_5 := H.at_ (v := .int .i64 qu) 5 rfl
  have H_6 := H.at_ (v := .int .i64 tr) 6 rfl
  have H_z := H.lt
  go_wp2_with fail
  refine ((T7 _).out).mono ?_
  rintro e w11 ⟨rfl, K'⟩
  clear H_0 H_1 H_2 H_3 H_4 H_5 H_6 H_z
  replace H := H.below K'
  replace h := h.below K'
  replace K := Below.then_ K K'
  clear K'
  have H_0 := H.at_ (v := .int .u32 a) 0 rfl
  have H_1 := H.at_ (v := .int .i64 p) 1 rfl
  have H_2 := H.at_ (v := .slice A n c) 2 rfl
  have H_3 := H.at_ (v := .int .i64 sh) 3 rfl
  have H_4 := H.at_ (v := .int .i64 wo) 4 rfl
  have H_5 := H.at_ (v := .int .i64 qu) 5 rfl
  have H_6 := H.at_ (v := .int .i64 tr) 6 rfl
  have H_z := H.lt
  go_wp2_with fail
  refine (find_at0 ha hM hx HO.out lo_ h (by omega) hh).mono ?_
  rintro e w12 ⟨rfl, K'⟩
  clear H_0 H_1 H_2 H_3 H_4 H_5 H_6 H_z
  replace H := H.below K'
  replace h := h.below K'
  replace K := Below.then_ K K'
  clear K'
  have H_0 := H.at_ (v := .int .u32 a) 0 rfl
  have H_1 := H.at_ (v := .int .i64 p) 1 rfl
  have H_2 := H.at_ (v := .slice A n c) 2 rfl
  have H_3 := H.at_ (v := .int .i64 sh) 3 rfl
  have H_4 := H.at_ (v := .int .i64 wo) 4 rfl
  have H_5 := H.at_ (v := .int .i64 qu) 5 rfl
  have H_6 := H.at_ (v := .int .i64 tr) 6 rfl
  have H_z := H.lt
  go_wp2_with fail
  refine (held_is h (by omega) hh).mono ?_
  rintro e w13 ⟨rfl, K'⟩
  clear H_0 H_1 H_2 H_3 H_4 H_5 H_6 H_z
  replace H := H.below K'
  replace h := h.below K'
  replace K := Below.then_ K K'
  clear K'
  have H_0 := H.at_ (v := .int .u32 a) 0 rfl
  have H_1 := H.at_ (v := .int .i64 p) 1 rfl
  have H_2 := H.at_ (v := .slice A n c) 2 rfl
  have H_3 := H.at_ (v := .int .i64 sh) 3 rfl
  have H_4 := H.at_ (v := .int .i64 wo) 4 rfl
  have H_5 := H.at_ (v := .int .i64 qu) 5 rfl
  have H_6 := H.at_ (v := .int .i64 tr) 6 rfl
  have H_z := H.lt
  go_wp2_with fail
  refine (ramay_is ha hM.may).mono ?_
  rintro e w14 ⟨rfl, K'⟩
  clear H_0 H_1 H_2 H_3 H_4 H_5 H_6 H_z
  replace H := H.below K'
  replace h := h.below K'
  replace K := Below.then_ K K'
  clear K'
  go_wp2
  go_ret
  exact ⟨rfl, K⟩
end
theorem walk (a p : Int) (A : Option Addr) (n c : Nat) (z : List Int) (sh wo qu tr x f k : Int) (w : World) (wa : (Lit.int .u32 a).wf = true) (wr : IsRow .i64 w A n c z) (wx : (Lit.int .u32 x).wf = true) (wf : (Lit.int .u16 f).wf = true) (wk : (Lit.int .u16 k).wf = true) :
    Calls Try.prog 5 #[.agg #[.int .u32 a, .int .i64 p, .slice A n c, .int .i64 sh, .int .i64 wo, .int .i64 qu, .int .i64 tr], .int .u32 x, .int .u16 f, .int .u16 k] w fun e w' => e = .returned (.bool true) ∧ Below w.heap.size w w' := by
  obtain ⟨a, rfl, ha⟩ := wf_u32 wa
  obtain ⟨x, rfl, hx⟩ := wf_u32 wx
  obtain ⟨f, rfl, hf⟩ := wf_u16 wf
  obtain ⟨k, rfl, hk⟩ := wf_u16 wk
  obtain ⟨xs, h, _⟩ := IS.of_row wr
  cases hb : confB a p n xs sh wo qu tr with
  | false => exact not_may ha h hb
  | true =>
    have hc := confB_no hb
    have hM := Much.of hc.1
    by_cases hh : a ≤ x ∧ x < a + 2 ^ (32 - p.toNat)
    · cases h4 : hasB xs ((x - a : Nat) : Int) with
      | true => exact held_ ha h hc.2.1 hx hf hk hM hb rfl rfl rfl rfl rfl rfl rfl (o := x - a) (by omega) (by omega) h4
      | false => exact ok_ ha h hc.2.1 hx hf hk hM hb rfl rfl rfl rfl rfl rfl rfl (o := x - a) (by omega) (by omega) h4
    · exact out_ ha h hc.2.1 hx hf hk hM hb rfl rfl rfl rfl rfl rfl rfl hh
end Go.Proofs.Ytecdjcepminliaa.blockOffsets
