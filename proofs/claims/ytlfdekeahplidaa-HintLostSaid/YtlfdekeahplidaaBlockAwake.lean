/-
  What the document's own May answers of a configuration; the anchor: the answers that the document fixes are given.
-/
import Derived.Test.YtlfdekeahplidaaBlockRefs
namespace Go.Proofs.Ytlfdekeahplidaa
open Go.RowKit
section
variable {w : World} {lo a M : Nat} {p sh wo qu tr : Int} {A : Option Addr} {n c : Nat} {xs : List Int}
theorem confB_no (h : confB a p n xs sh wo qu tr = true) : mayB a p = true ∧ n ≤ 64 ∧ risB (manyI a p) 0 xs = true ∧ 1 ≤ sh ∧ sh ≤ 64 ∧ 1 ≤ wo ∧ wo ≤ 64 ∧ 1 ≤ qu ∧ qu ≤ 64 ∧ 1 ≤ tr ∧ tr ≤ 8 := by
  unfold confB confL someB at h
  simp at h
  obtain ⟨h1, h2, h3, h4, h5, h6, h7⟩ := h
  exact ⟨h1, by omega, h3, h4.1, h4.2, h5.1, h5.2, h6.1, h6.2, h7.1, h7.2⟩
theorem rmay_any (ha : a < 4294967296) (h : IS .i64 lo w A n c xs) :
    Calls Try.prog 26 #[.agg #[.int .u32 a, .int .i64 p, .slice A n c, .int .i64 sh, .int .i64 wo, .int .i64 qu, .int .i64 tr]] w fun e w' => e = .returned (.bool (confB a p n xs sh wo qu tr)) ∧ Below w.heap.size w w' := by
  have N := @confB_no a p sh wo qu tr n xs
  cases hb : mayB a p with
  | false =>
    have E : confB a p n xs sh wo qu tr = false := by rw [Bool.eq_false_iff]; intro g; have := (N g).1; rw [hb] at this; cases this
    rw [E]; exact rmay_no ha hb
  | true =>
    cases e0 : decide ((64 : Int) < (n : Int)) with
    | true =>
      have E : confB a p n xs sh wo qu tr = false := by rw [Bool.eq_false_iff]; intro g; have := N g; simp only [decide_eq_true_eq] at e0; omega
      rw [E]; exact rmay_no0 ha hb e0
    | false =>
      cases e1 : decide (sh < 1) with
      | true =>
        have E : confB a p n xs sh wo qu tr = false := by rw [Bool.eq_false_iff]; intro g; have := N g; simp only [decide_eq_true_eq] at e1; omega
        rw [E]; exact rmay_no1 ha hb e0 e1
      | false =>
        cases e2 : decide (64 < sh) with
        | true =>
          have E : confB a p n xs sh wo qu tr = false := by rw [Bool.eq_false_iff]; intro g; have := N g; simp only [decide_eq_true_eq] at e2; omega
          rw [E]; exact rmay_no2 ha hb e0 e1 e2
        | false =>
          cases e3 : decide (wo < 1) with
          | true =>
            have E : confB a p n xs sh wo qu tr = false := by rw [Bool.eq_false_iff]; intro g; have := N g; simp only [decide_eq_true_eq] at e3; omega
            rw [E]; exact rmay_no3 ha hb e0 e1 e2 e3
          | false =>
            cases e4 : decide (64 < wo) with
            | true =>
              have E : confB a p n xs sh wo qu tr = false := by rw [Bool.eq_false_iff]; intro g; have := N g; simp only [decide_eq_true_eq] at e4; omega
              rw [E]; exact rmay_no4 ha hb e0 e1 e2 e3 e4
            | false =>
              cases e5 : decide (qu < 1) with
              | true =>
                have E : confB a p n xs sh wo qu tr = false := by rw [Bool.eq_false_iff]; intro g; have := N g; simp only [decide_eq_true_eq] at e5; omega
                rw [E]; exact rmay_no5 ha hb e0 e1 e2 e3 e4 e5
              | false =>
                cases e6 : decide (64 < qu) with
                | true =>
                  have E : confB a p n xs sh wo qu tr = false := by rw [Bool.eq_false_iff]; intro g; have := N g; simp only [decide_eq_true_eq] at e6; omega
                  rw [E]; exact rmay_no6 ha hb e0 e1 e2 e3 e4 e5 e6
                | false =>
                  cases e7 : decide (tr < 1) with
                  | true =>
                    have E : confB a p n xs sh wo qu tr = false := by rw [Bool.eq_false_iff]; intro g; have := N g; simp only [decide_eq_true_eq] at e7; omega
                    rw [E]; exact rmay_no7 ha hb e0 e1 e2 e3 e4 e5 e6 e7
                  | false =>
                    cases e8 : decide (8 < tr) with
                    | true =>
                      have E : confB a p n xs sh wo qu tr = false := by rw [Bool.eq_false_iff]; intro g; have := N g; simp only [decide_eq_true_eq] at e8; omega
                      rw [E]; exact rmay_no8 ha hb e0 e1 e2 e3 e4 e5 e6 e7 e8
                    | false =>
                      have E : confB a p n xs sh wo qu tr = risB (2 ^ (32 - p.toNat) : Nat) 0 xs := by
                        have m := (Much.of hb).manyI
                        unfold confB confL someB
                        rw [m]
                        simp only [decide_eq_false_iff_not] at e0 e1 e2 e3 e4 e5 e6 e7 e8
                        have c0 : n ≤ 64 := by omega
                        have c1 : 1 ≤ sh ∧ sh ≤ 64 := by omega
                        have c2 : 1 ≤ wo ∧ wo ≤ 64 := by omega
                        have c3 : 1 ≤ qu ∧ qu ≤ 64 := by omega
                        have c4 : 1 ≤ tr ∧ tr ≤ 8 := by omega
                        have c5 : (n : Int) ≤ 64 := by omega
                        simp [hb, c1, c2, c3, c4, c5]
                      rw [E]; exact rmay_yes ha (Much.of hb) h (by have := of_decide_eq_false e0; omega) e0 e1 e2 e3 e4 e5 e6 e7 e8
end
theorem rmay_is {w : World} {lo a : Nat} {p sh wo qu tr : Int} {A : Option Addr} {n c : Nat} {xs : List Int} {b : Bool} (ha : a < 4294967296) (h : IS .i64 lo w A n c xs) (hb : confB a p n xs sh wo qu tr = b) :
    Calls Try.prog 26 #[.agg #[.int .u32 a, .int .i64 p, .slice A n c, .int .i64 sh, .int .i64 wo, .int .i64 qu, .int .i64 tr]] w fun e w' => e = .returned (.bool b) ∧ Below w.heap.size w w' := by
  subst hb; exact rmay_any ha h
theorem much4 : Much 167772164 30 4 := ⟨by decide +kernel, by decide +kernel⟩
section
variable {w : World} {A : Option Addr}
theorem w_off7 : Calls Try.prog 53 #[.agg #[.int .u32 167772164, .int .i64 30], .int .u32 167772167] w fun e w' => e = .returned (.tuple #[.int .i64 3, .int .i64 0]) ∧ Below w.heap.size w w' :=
  offset_in (a := 167772164) (p := 30) (M := 4) 167772167 (by omega) (by omega) much4 (by omega) (by omega)
theorem w_off8 : Calls Try.prog 53 #[.agg #[.int .u32 167772164, .int .i64 30], .int .u32 167772168] w fun e w' => e = .returned (.tuple #[.int .i64 0, .int .i64 3]) ∧ Below w.heap.size w w' :=
  offset_high (a := 167772164) (p := 30) (M := 4) 167772168 (by omega) (by omega) much4 (by omega)
theorem w_many : Calls Try.prog 58 #[.agg #[.int .u32 167772164, .int .i64 30]] w fun e w' => e = .returned (.int .i64 4) ∧ Below w.heap.size w w' := many_yes (a := 167772164) (p := 30) (M := 4) (by omega) much4
end
end Go.Proofs.Ytlfdekeahplidaa

