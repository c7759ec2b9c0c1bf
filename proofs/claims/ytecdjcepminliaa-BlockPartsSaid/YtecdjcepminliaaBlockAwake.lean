/-
  What the document's own May answers of a configuration; the anchor: the answers that the document fixes are given.
-/
import Derived.Test.YtecdjcepminliaaBlockRefs
namespace Go.Proofs.Ytecdjcepminliaa
open Go.RowKit
section
variable {w : World} {lo a M : Nat} {p sh wo qu tr : Int} {A : Option Addr} {n c : Nat} {xs : List Int}
theorem confB_no (h : confB a p n xs sh wo qu tr = true) : mayB a p = true ∧ n ≤ 64 ∧ risB (manyI a p) 0 xs = true ∧ 1 ≤ sh ∧ sh ≤ 64 ∧ 1 ≤ wo ∧ wo ≤ 64 ∧ 1 ≤ qu ∧ qu ≤ 64 ∧ 1 ≤ tr ∧ tr ≤ 8 := by
  unfold confB confL someB at h
  simp at h
  obtain ⟨h1, h2, h3, h4, h5, h6, h7⟩ := h
  exact ⟨h1, by omega, h3, h4.1, h4.2, h5.1, h5.2, h6.1, h6.2, h7.1, h7.2⟩
theorem rmay_any (ha : a < 4294967296) (h : IS .i64 lo w A n c xs) :
    Calls Try.prog 10 #[.agg #[.int .u32 a, .int .i64 p, .slice A n c, .int .i64 sh, .int .i64 wo, .int .i64 qu, .int .i64 tr]] w fun e w' => e = .returned (.bool (confB a p n xs sh wo qu tr)) ∧ Below w.heap.size w w' := by
  have N := @confB_no a p sh wo qu tr n xs
  cases hb : mayB a p with
  | false =>
    have E : confB a p n xs sh wo qu tr = false := by rw [Bool.eq_false_iff]; intro g; have := (N g).1; rw [hb] at this; cases this
    rw [E]; exact rmay_no ha hb
  | true =>
    cases e0 : decide ((64 : Int) < (n : Int)) with
    | true =>
      have E : confB a p n xs sh wo qu tr = false := by rw [Bool.eq_false_iff]; intro g; have := N g; simp only [decide_eq_true_eq] at e0; omega
      rw [E]; exact rmay_no0 ha hb e0
    | false =>
      cases e1 : decide (sh < 1) with
      | true =>
        have E : confB a p n xs sh wo qu tr = false := by rw [Bool.eq_false_iff]; intro g; have := N g; simp only [decide_eq_true_eq] at e1; omega
        rw [E]; exact rmay_no1 ha hb e0 e1
      | false =>
        cases e2 : decide (64 < sh) with
        | true =>
          have E : confB a p n xs sh wo qu tr = false := by rw [Bool.eq_false_iff]; intro g; have := N g; simp only [decide_eq_true_eq] at e2; omega
          rw [E]; exact rmay_no2 ha hb e0 e1 e2
        | false =>
          cases e3 : decide (wo < 1) with
          | true =>
            have E : confB a p n xs sh wo qu tr = false := by rw [Bool.eq_false_iff]; intro g; have := N g; simp only [decide_eq_true_eq] at e3; omega
            rw [E]; exact rmay_no3 ha hb e0 e1 e2 e3
          | false =>
            cases e4 : decide (64 < wo) with
            | true =>
              have E : confB a p n xs sh wo qu tr = false := by rw [Bool.eq_false_iff]; intro g; have := N g; simp only [decide_eq_true_eq] at e4; omega
              rw [E]; exact rmay_no4 ha hb e0 e1 e2 e3 e4
            | false =>
              cases e5 : decide (qu < 1) with
              | true =>
                have E : confB a p n xs sh wo qu tr = false := by rw [Bool.eq_false_iff]; intro g; have := N g; simp only [decide_eq_true_eq] at e5; omega
                rw [E]; exact rmay_no5 ha hb e0 e1 e2 e3 e4 e5
              | false =>
                cases e6 : decide (64 < qu) with
                | true =>
                  have E : confB a p n xs sh wo qu tr = false := by rw [Bool.eq_false_iff]; intro g; have := N g; simp only [decide_eq_true_eq] at e6; omega
                  rw [E]; exact rmay_no6 ha hb e0 e1 e2 e3 e4 e5 e6
                | false =>
                  cases e7 : decide (tr < 1) with
                  | true =>
                    have E : confB a p n xs sh wo qu tr = false := by rw [Bool.eq_false_iff]; intro g; have := N g; simp only [decide_eq_true_eq] at e7; omega
                    rw [E]; exact rmay_no7 ha hb e0 e1 e2 e3 e4 e5 e6 e7
                  | false =>
                    cases e8 : decide (8 < tr) with
                    | true =>
                      have E : confB a p n xs sh wo qu tr = false := by rw [Bool.eq_false_iff]; intro g; have := N g; simp only [decide_eq_true_eq] at e8; omega
                      rw [E]; exact rmay_no8 ha hb e0 e1 e2 e3 e4 e5 e6 e7 e8
                    | false =>
                      have E : confB a p n xs sh wo qu tr = risB (2 ^ (32 - p.toNat) : Nat) 0 xs := by
                        have m := (Much.of hb).manyI
                        unfold confB confL someB
                        rw [m]
                        simp only [decide_eq_false_iff_not] at e0 e1 e2 e3 e4 e5 e6 e7 e8
                        have c0 : n ≤ 64 := by omega
                        have c1 : 1 ≤ sh ∧ sh ≤ 64 := by omega
                        have c2 : 1 ≤ wo ∧ wo ≤ 64 := by omega
                        have c3 : 1 ≤ qu ∧ qu ≤ 64 := by omega
                        have c4 : 1 ≤ tr ∧ tr ≤ 8 := by omega
                        have c5 : (n : Int) ≤ 64 := by omega
                        simp [hb, c1, c2, c3, c4, c5]
                      rw [E]; exact rmay_yes ha (Much.of hb) h (by have := of_decide_eq_false e0; omega) e0 e1 e2 e3 e4 e5 e6 e7 e8
end
theorem rmay_is {w : World} {lo a : Nat} {p sh wo qu tr : Int} {A : Option Addr} {n c : Nat} {xs : List Int} {b : Bool} (ha : a < 4294967296) (h : IS .i64 lo w A n c xs) (hb : confB a p n xs sh wo qu tr = b) :
    Calls Try.prog 10 #[.agg #[.int .u32 a, .int .i64 p, .slice A n c, .int .i64 sh, .int .i64 wo, .int .i64 qu, .int .i64 tr]] w fun e w' => e = .returned (.bool b) ∧ Below w.heap.size w w' := by
  subst hb; exact rmay_any ha h
theorem much4 : Much 167772164 30 4 := ⟨by decide +kernel, by decide +kernel⟩
section
variable {w : World} {A : Option Addr}
theorem w_off7 : Calls Try.prog 11 #[.agg #[.int .u32 167772164, .int .i64 30], .int .u32 167772167] w fun e w' => e = .returned (.tuple #[.int .i64 3, .int .i64 0]) ∧ Below w.heap.size w w' :=
  offset_in (a := 167772164) (p := 30) (M := 4) 167772167 (by omega) (by omega) much4 (by omega) (by omega)
theorem w_off8 : Calls Try.prog 11 #[.agg #[.int .u32 167772164, .int .i64 30], .int .u32 167772168] w fun e w' => e = .returned (.tuple #[.int .i64 0, .int .i64 3]) ∧ Below w.heap.size w w' :=
  offset_high (a := 167772164) (p := 30) (M := 4) 167772168 (by omega) (by omega) much4 (by omega)
theorem w_find7 (h : IS .i64 0 w A 2 2 [0, 3]) : Calls Try.prog 13 #[.agg #[.int .u32 167772164, .int .i64 30, .slice A 2 2, .int .i64 1, .int .i64 1, .int .i64 1, .int .i64 1], .int .u32 167772167] w fun e w' => e = .returned (.tuple #[.int .i64 0, .int .i64 4]) ∧ Below w.heap.size w w' :=
  find_held (a := 167772164) (p := 30) (M := 4) 167772167 (by omega) (by omega) much4 (by omega) (by omega) h (by omega) (by decide +kernel)
theorem w_find5 (h : IS .i64 0 w A 2 2 [0, 3]) : Calls Try.prog 13 #[.agg #[.int .u32 167772164, .int .i64 30, .slice A 2 2, .int .i64 1, .int .i64 1, .int .i64 1, .int .i64 1], .int .u32 167772165] w fun e w' => e = .returned (.tuple #[.int .i64 1, .int .i64 0]) ∧ Below w.heap.size w w' :=
  find_ok (a := 167772164) (p := 30) (M := 4) 167772165 (by omega) (by omega) much4 (by omega) (by omega) h (by omega) (by decide +kernel)
theorem w_many : Calls Try.prog 15 #[.agg #[.int .u32 167772164, .int .i64 30]] w fun e w' => e = .returned (.int .i64 4) ∧ Below w.heap.size w w' := many_yes (a := 167772164) (p := 30) (M := 4) (by omega) much4
theorem w_usable : Calls Try.prog 19 #[.agg #[.int .u32 167772164, .int .i64 30, .slice A 2 2, .int .i64 1, .int .i64 1, .int .i64 1, .int .i64 1]] w fun e w' => e = .returned (.int .i64 2) ∧ Below w.heap.size w w' := usable_any (a := 167772164) (p := 30) (M := 4) (by omega) much4 (by omega)
theorem w_held3 (h : IS .i64 0 w A 2 2 [0, 3]) : Calls Try.prog 17 #[.agg #[.int .u32 167772164, .int .i64 30, .slice A 2 2, .int .i64 1, .int .i64 1, .int .i64 1, .int .i64 1], .int .i64 3] w fun e w' => e = .returned (.bool true) ∧ Below w.heap.size w w' := held_is (a := 167772164) (p := 30) h (by omega) (by decide +kernel)
theorem w_held1 (h : IS .i64 0 w A 2 2 [0, 3]) : Calls Try.prog 17 #[.agg #[.int .u32 167772164, .int .i64 30, .slice A 2 2, .int .i64 1, .int .i64 1, .int .i64 1, .int .i64 1], .int .i64 1] w fun e w' => e = .returned (.bool false) ∧ Below w.heap.size w w' := held_is (a := 167772164) (p := 30) h (by omega) (by decide +kernel)
theorem w_address : Calls Try.prog 20 #[.agg #[.int .u32 167772164, .int .i64 30], .int .i64 3] w fun e w' => e = .returned (.int .u32 167772167) ∧ Below w.heap.size w w' := address_any (a := 167772164) (p := 30) 3 (by omega)
theorem w_may (h : IS .i64 0 w A 2 2 [0, 3]) : Calls Try.prog 9 #[.agg #[.int .u32 167772164, .int .i64 30, .slice A 2 2, .int .i64 1, .int .i64 1, .int .i64 1, .int .i64 1]] w fun e w' => e = .returned (.bool true) ∧ Below w.heap.size w w' := by
  have E : confB 167772164 30 2 [0, 3] 1 1 1 1 = true := by decide +kernel
  have := may_any (a := 167772164) (p := 30) (sh := 1) (wo := 1) (qu := 1) (tr := 1) (by omega) h (by omega)
  rw [E] at this
  exact this
theorem w_zero : Calls Try.prog 9 #[.agg #[.int .u32 0, .int .i64 0, .slice none 0 0, .int .i64 0, .int .i64 0, .int .i64 0, .int .i64 0]] w fun e w' => e = .returned (.bool false) ∧ Below w.heap.size w w' := by
  have E : confB 0 0 0 [] 0 0 0 0 = false := by decide +kernel
  have := may_any (w := w) (a := 0) (p := 0) (sh := 0) (wo := 0) (qu := 0) (tr := 0) (by omega) (IS.none_ .i64 0 w) (by omega)
  rw [E] at this
  exact this
end
set_option maxRecDepth 100000 in
set_option maxHeartbeats 1000000 in
theorem awake_any (w : World) : Calls Try.prog 8 #[] w fun e w' => e = .returned (.bool true) ∧ Below w.heap.size w w' := by
  have K := Below.refl w.heap.size w
  go_enter Try.func8, Try.ntmps8
  go_wp2_with fail
  replace K := Below.then_ K (below_alloc _ (.cells #[.int .u32 167772164, .int .i64 30] 24))
  have Hb := Bk.new (w) #[.int .u32 167772164, .int .i64 30] 24
  replace Hb := Hb.alloc (.cells #[.int .i64 0, .int .i64 3] 3)
  replace K := Below.then_ K (below_alloc _ (.cells #[.int .i64 0, .int .i64 3] 3))
  have Hs := Bk.new ((w).alloc (.cells #[.int .u32 167772164, .int .i64 30] 24)) #[.int .i64 0, .int .i64 3] 3
  replace Hb := Hb.alloc (.cells #[.int .u32 167772164, .int .i64 30, .slice (some ⟨w.heap.size + 1, 0, none⟩) 2 2, .int .i64 1, .int .i64 1, .int .i64 1, .int .i64 1] 27)
  replace Hs := Hs.alloc (.cells #[.int .u32 167772164, .int .i64 30, .slice (some ⟨w.heap.size + 1, 0, none⟩) 2 2, .int .i64 1, .int .i64 1, .int .i64 1, .int .i64 1] 27)
  replace K := Below.then_ K (below_alloc _ (.cells #[.int .u32 167772164, .int .i64 30, .slice (some ⟨w.heap.size + 1, 0, none⟩) 2 2, .int .i64 1, .int .i64 1, .int .i64 1, .int .i64 1] 27))
  have Hc := Bk.new (((w).alloc (.cells #[.int .u32 167772164, .int .i64 30] 24)).alloc (.cells #[.int .i64 0, .int .i64 3] 3)) #[.int .u32 167772164, .int .i64 30, .slice (some ⟨w.heap.size + 1, 0, none⟩) 2 2, .int .i64 1, .int .i64 1, .int .i64 1, .int .i64 1] 27
  try simp only [World.size_alloc] at Hb Hs Hc
  generalize (((w).alloc (.cells #[.int .u32 167772164, .int .i64 30] 24)).alloc (.cells #[.int .i64 0, .int .i64 3] 3)).alloc (.cells #[.int .u32 167772164, .int .i64 30, .slice (some ⟨w.heap.size + 1, 0, none⟩) 2 2, .int .i64 1, .int .i64 1, .int .i64 1, .int .i64 1] 27) = w1 at Hb Hs Hc K ⊢
  generalize w.heap.size + 1 + 1 = gHc at Hb Hs Hc ⊢
  generalize w.heap.size + 1 = gHs at Hb Hs Hc ⊢
  generalize w.heap.size = gHb at Hb Hs Hc ⊢
  have I : IS .i64 0 w1 (some ⟨gHs, 0, none⟩) 2 2 [0, 3] := ⟨rfl, by omega, by unfold maxLen; omega, (fun h => by cases h), fun _ => ⟨gHs, 0, rfl, Nat.zero_le _, Hs.lt, fun j hj => by
    match j, hj with
    | 0, _ => exact Hs.at_ 0 rfl
    | 1, _ => exact Hs.at_ 1 rfl⟩⟩
  clear Hs
  refine w_off7.mono ?_
  rintro e w2 ⟨rfl, K'⟩
  replace Hb := Hb.below K'
  replace Hc := Hc.below K'
  replace I := I.below K'
  replace K := Below.then_ K K'
  clear K'
  have Hb_0 := Hb.at_ (v := .int .u32 167772164) 0 rfl
  have Hb_1 := Hb.at_ (v := .int .i64 30) 1 rfl
  have Hb_z := Hb.lt
  go_wp2_with fail
  refine (w_off8).mono ?_
  rintro e w3 ⟨rfl, K'⟩
  clear Hb_0 Hb_1 Hb_z
  replace Hb := Hb.below K'
  replace Hc := Hc.below K'
  replace I := I.below K'
  replace K := Below.then_ K K'
  clear K'
  have Hc_0 := Hc.at_ (v := .int .u32 167772164) 0 rfl
  have Hc_1 := Hc.at_ (v := .int .i64 30) 1 rfl
  have Hc_2 := Hc.at_ (v := .slice (some ⟨gHs, 0, none⟩) 2 2) 2 rfl
  have Hc_3 := Hc.at_ (v := .int .i64 1) 3 rfl
  have Hc_4 := Hc.at_ (v := .int .i64 1) 4 rfl
  have Hc_5 := Hc.at_ (v := .int .i64 1) 5 rfl
  have Hc_6 := Hc.at_ (v := .int .i64 1) 6 rfl
  have Hc_z := Hc.lt
  go_wp2_with fail
  refine (w_find7 I).mono ?_
  rintro e w4 ⟨rfl, K'⟩
  clear Hc_0 Hc_1 Hc_2 Hc_3 Hc_4 Hc_5 Hc_6 Hc_z
  replace Hb := Hb.below K'
  replace Hc := Hc.below K'
  replace I := I.below K'
  replace K := Below.then_ K K'
  clear K'
  have Hc_0 := Hc.at_ (v := .int .u32 167772164) 0 rfl
  have Hc_1 := Hc.at_ (v := .int .i64 30) 1 rfl
  have Hc_2 := Hc.at_ (v := .slice (some ⟨gHs, 0, none⟩) 2 2) 2 rfl
  have Hc_3 := Hc.at_ (v := .int .i64 1) 3 rfl
  have Hc_4 := Hc.at_ (v := .int .i64 1) 4 rfl
  have Hc_5 := Hc.at_ (v := .int .i64 1) 5 rfl
  have Hc_6 := Hc.at_ (v := .int .i64 1) 6 rfl
  have Hc_z := Hc.lt
  go_wp2_with fail
  refine (w_find5 I).mono ?_
  rintro e w5 ⟨rfl, K'⟩
  clear Hc_0 Hc_1 Hc_2 Hc_3 Hc_4 Hc_5 Hc_6 Hc_z
  replace Hb := Hb.below K'
  replace Hc := Hc.below K'
  replace I := I.below K'
  replace K := Below.then_ K K'
  clear K'
  have Hb_0 := Hb.at_ (v := .int .u32 167772164) 0 rfl
  have Hb_1 := Hb.at_ (v := .int .i64 30) 1 rfl
  have Hb_z := Hb.lt
  go_wp2_with fail
  refine (w_many).mono ?_
  rintro e w6 ⟨rfl, K'⟩
  clear Hb_0 Hb_1 Hb_z
  replace Hb := Hb.below K'
  replace Hc := Hc.below K'
  replace I := I.below K'
  replace K := Below.then_ K K'
  clear K'
  have Hc_0 := Hc.at_ (v := .int .u32 167772164) 0 rfl
  have Hc_1 := Hc.at_ (v := .int .i64 30) 1 rfl
  have Hc_2 := Hc.at_ (v := .slice (some ⟨gHs, 0, none⟩) 2 2) 2 rfl
  have Hc_3 := Hc.at_ (v := .int .i64 1) 3 rfl
  have Hc_4 := Hc.at_ (v := .int .i64 1) 4 rfl
  have Hc_5 := Hc.at_ (v := .int .i64 1) 5 rfl
  have Hc_6 := Hc.at_ (v := .int .i64 1) 6 rfl
  have Hc_z := Hc.lt
  go_wp2_with fail
  refine (w_usable).mono ?_
  rintro e w7 ⟨rfl, K'⟩
  clear Hc_0 Hc_1 Hc_2 Hc_3 Hc_4 Hc_5 Hc_6 Hc_z
  replace Hb := Hb.below K'
  replace Hc := Hc.below K'
  replace I := I.below K'
  replace K := Below.then_ K K'
  clear K'
  have Hc_0 := Hc.at_ (v := .int .u32 167772164) 0 rfl
  have Hc_1 := Hc.at_ (v := .int .i64 30) 1 rfl
  have Hc_2 := Hc.at_ (v := .slice (some ⟨gHs, 0, none⟩) 2 2) 2 rfl
  have Hc_3 := Hc.at_ (v := .int .i64 1) 3 rfl
  have Hc_4 := Hc.at_ (v := .int .i64 1) 4 rfl
  have Hc_5 := Hc.at_ (v := .int .i64 1) 5 rfl
  have Hc_6 := Hc.at_ (v := .int .i64 1) 6 rfl
  have Hc_z := Hc.lt
  go_wp2_with fail
  refine (w_held3 I).mono ?_
  rintro e w8 ⟨rfl, K'⟩
  clear Hc_0 Hc_1 Hc_2 Hc_3 Hc_4 Hc_5 Hc_6 Hc_z
  replace Hb := Hb.below K'
  replace Hc := Hc.below K'
  replace I := I.below K'
  replace K := Below.then_ K K'
  clear K'
  have Hc_0 := Hc.at_ (v := .int .u32 167772164) 0 rfl
  have Hc_1 := Hc.at_ (v := .int .i64 30) 1 rfl
  have Hc_2 := Hc.at_ (v := .slice (some ⟨gHs, 0, none⟩) 2 2) 2 rfl
  have Hc_3 := Hc.at_ (v := .int .i64 1) 3 rfl
  have Hc_4 := Hc.at_ (v := .int .i64 1) 4 rfl
  have Hc_5 := Hc.at_ (v := .int .i64 1) 5 rfl
  have Hc_6 := Hc.at_ (v := .int .i64 1) 6 rfl
  have Hc_z := Hc.lt
  go_wp2_with fail
  refine (w_held1 I).mono ?_
  rintro e w9 ⟨rfl, K'⟩
  clear Hc_0 Hc_1 Hc_2 Hc_3 Hc_4 Hc_5 Hc_6 Hc_z
  replace Hb := Hb.below K'
  replace Hc := Hc.below K'
  replace I := I.below K'
  replace K := Below.then_ K K'
  clear K'
  have Hb_0 := Hb.at_ (v := .int .u32 167772164) 0 rfl
  have Hb_1 := Hb.at_ (v := .int .i64 30) 1 rfl
  have Hb_z := Hb.lt
  go_wp2_with fail
  refine (w_address).mono ?_
  rintro e w10 ⟨rfl, K'⟩
  clear Hb_0 Hb_1 Hb_z
  replace Hb := Hb.below K'
  replace Hc := Hc.below K'
  replace I := I.below K'
  replace K := Below.then_ K K'
  clear K'
  have Hc_0 := Hc.at_ (v := .int .u32 167772164) 0 rfl
  have Hc_1 := Hc.at_ (v := .int .i64 30) 1 rfl
  have Hc_2 := Hc.at_ (v := .slice (some ⟨gHs, 0, none⟩) 2 2) 2 rfl
  have Hc_3 := Hc.at_ (v := .int .i64 1) 3 rfl
  have Hc_4 := Hc.at_ (v := .int .i64 1) 4 rfl
  have Hc_5 := Hc.at_ (v := .int .i64 1) 5 rfl
  have Hc_6 := Hc.at_ (v := .int .i64 1) 6 rfl
  have Hc_z := Hc.lt
  go_wp2_with fail
  refine (w_may I).mono ?_
  rintro e w11 ⟨rfl, K'⟩
  clear Hc_0 Hc_1 Hc_2 Hc_3 Hc_4 Hc_5 Hc_6 Hc_z
  replace Hb := Hb.below K'
  replace Hc := Hc.below K'
  replace I := I.below K'
  replace K := Below.then_ K K'
  clear K'
  go_wp2_with fail
  refine (w_zero).mono ?_
  rintro e w12 ⟨rfl, K'⟩
  replace Hb := Hb.below K'
  replace Hc := Hc.below K'
  replace I := I.below K'
  replace K := Below.then_ K K'
  clear K'
  go_wp2
  go_ret
  exact ⟨rfl, K⟩
end Go.Proofs.Ytecdjcepminliaa
