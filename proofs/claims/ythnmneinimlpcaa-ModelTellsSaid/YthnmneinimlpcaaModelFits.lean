/-
  What the document's Fits tells, more of it: the configuration may be, its reserved offsets rise, and the cells are as many as there are.
-/
import Derived.Test.YthnmneinimlpcaaModelAwake
import Derived.Test.YthnmneinimlpcaaHintGuard
namespace Go.Proofs.Ythnmneinimlpcaa
open Go.RowKit
/-- What is known of a configuration that may be. -/
structure Cf (a : Nat) (p : Int) (n : Nat) (zs : List Int) (M : Nat) : Prop where
  much : Much a p M
  few : n ≤ 64
  ris : risB M 0 zs = true
section
variable {w : World} {lo a m d : Nat} {p sh wo qu tr : Int} {A B : Option Addr} {n c : Nat} {zs : List Int}
theorem Cf.of (h : confB a p n zs sh wo qu tr = true) : ∃ M, Cf a p n zs M := by
  obtain ⟨h1, h2, h3, _⟩ := confB_no h
  refine ⟨2 ^ (32 - p.toNat), Much.of h1, h2, ?_⟩
  rw [← (Much.of h1).manyI]
  exact h3
theorem fits9_any (ha : a < 4294967296) (h0 : IS .i64 lo w A n c zs) :
    Calls Try.prog 21 #[.agg #[.int .u32 a, .int .i64 p, .slice A n c, .int .i64 sh, .int .i64 wo, .int .i64 qu, .int .i64 tr], .slice B m d] w (RetW (∃ M, Cf a p n zs M ∧ M ≤ 4096 ∧ m = lv M + tv M + 1) w) := by
  cases hb : confB a p n zs sh wo qu tr with
  | false => exact (fits0 ha h0 hb).mono fun _ _ h => h.no
  | true =>
    obtain ⟨M, hC⟩ := Cf.of hb
    have hM := hC.much
    by_cases hm : M ≤ 4096
    · by_cases hc : m = lv M + tv M + 1
      · exact (fits3 ha h0 hb hM hm hc).mono fun _ _ h => h.yes ⟨M, hC, hm, hc⟩
      · exact (fits2 ha h0 hb hM hm hc).mono fun _ _ h => h.no
    · exact (fits1 ha h0 hb hM hm).mono fun _ _ h => h.no
/-- What the document's May of a configuration tells. -/
theorem rmay5_any (ha : a < 4294967296) (h0 : IS .i64 lo w A n c zs) :
    Calls Try.prog 10 #[.agg #[.int .u32 a, .int .i64 p, .slice A n c, .int .i64 sh, .int .i64 wo, .int .i64 qu, .int .i64 tr]] w (RetW (∃ M, Cf a p n zs M) w) := by
  cases hb : confB a p n zs sh wo qu tr with
  | false => exact (rmay_is ha h0 hb).mono fun _ _ h => RetBo.no h
  | true => exact (rmay_is ha h0 hb).mono fun _ _ h => RetBo.yes h (Cf.of hb)
end
end Go.Proofs.Ythnmneinimlpcaa
