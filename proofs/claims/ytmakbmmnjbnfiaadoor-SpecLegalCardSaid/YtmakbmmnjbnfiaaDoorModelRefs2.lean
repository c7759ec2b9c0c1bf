/-
  What the document's own Of, Full, Addrs and May answer of a configuration that may be: the same as the program's; nothing that was there is otherwise.
-/
import Derived.Test.YtmakbmmnjbnfiaaDoorModelRefs
namespace Go.Proofs.YtmakbmmnjbnfiaaDoor
open Go.RowKit
section
variable {w : World} {lo lo2 a M : Nat} {p sh wo qu tr : Int} {A B : Option Addr} {n c m d : Nat} {zs xs : List Int} {ys : List Nat}
set_option maxHeartbeats 1000000 in
theorem rfull_any (hM : Much a p M) (h : IS .i64 lo w A n c zs) (hn : n ≤ 65536) (hs : IS .i64 lo2 w B m d xs) (hm : m ≤ 65536) :
    Calls Tryd.prog 27 #[.agg #[.int .u32 a, .int .i64 p, .slice A n c, .int .i64 sh, .int .i64 wo, .int .i64 qu, .int .i64 tr], .slice B m d] w (RetBo (fullB M zs xs) w) := by
  have hMm := hM.most
  have K := below_alloc w (.cells #[.int .u32 a, .int .i64 p, .slice A n c, .int .i64 sh, .int .i64 wo, .int .i64 qu, .int .i64 tr] 27)
  have H := Bk.new w #[.int .u32 a, .int .i64 p, .slice A n c, .int .i64 sh, .int .i64 wo, .int .i64 qu, .int .i64 tr] 27
  replace h := h.below K
  replace hs := hs.below K
  go_enter Tryd.func27, Tryd.ntmps27
  go_upto_region 1 with (fail)
  generalize w.alloc (.cells #[.int .u32 a, .int .i64 p, .slice A n c, .int .i64 sh, .int .i64 wo, .int .i64 qu, .int .i64 tr] 27) = w2 at H K h hs ⊢
  generalize w.heap.size = g at H ⊢
  go_wp2
  go_loopw [5] (fun i wr => ∃ k : Nat, k ≤ M ∧ i = .int .i64 k ∧ Hid (∀ i : Nat, i < k → hasB zs i = true ∨ hasB xs i = true) ∧ Below w2.heap.size w2 wr) (fun i _ => M - (intOf i).toNat)
  case atStart => exact ⟨0, Nat.zero_le _, rfl, fun i hi => by omega, Below.refl _ _⟩
  case round =>
    obtain ⟨k, hk, rfl, HH, Kr⟩ := hrel
    replace H := H.below Kr
    replace h := h.below Kr
    replace hs := hs.below Kr
    replace K := Below.then_ K Kr
    have H_0 := H.at_ (v := .int .u32 a) 0 rfl
    have H_1 := H.at_ (v := .int .i64 p) 1 rfl
    have H_z := H.lt
    go_wp2_with fail
    refine (rmany_yes hM).mono ?_
    rintro e w3 ⟨rfl, K'⟩
    clear H_0 H_1 H_z
    replace H := H.below K'
    replace h := h.below K'
    replace hs := hs.below K'
    replace K := Below.then_ K K'
    replace Kr := Below.then_ Kr K'
    clear K'
    by_cases hlt : k < M
    · have T2 := Lib.hid (rheld_any (a := a) (p := p) (sh := sh) (wo := wo) (qu := qu) (tr := tr) h hn (k : Int))
      have H_0 := H.at_ (v := .int .u32 a) 0 rfl
      have H_1 := H.at_ (v := .int .i64 p) 1 rfl
      have H_2 := H.at_ (v := .slice A n c) 2 rfl
      have H_3 := H.at_ (v := .int .i64 sh) 3 rfl
      have H_4 := H.at_ (v := .int .i64 wo) 4 rfl
      have H_5 := H.at_ (v := .int .i64 qu) 5 rfl
      have H_6 := H.at_ (v := .int .i64 tr) 6 rfl
      have H_z := H.lt
      cases h1 : hasB zs (k : Int) with
      | true =>
        rw [h1] at T2
        have H2 : Hid (∀ i : Nat, i < k + 1 → hasB zs i = true ∨ hasB xs i = true) := fun i hi => by
          rcases Nat.lt_or_ge i k with g | g
          · exact HH.out i g
          · obtain rfl : i = k := by omega
            exact .inl h1
        clear h1 HH
        go_wp2_with fail
        refine (T2.out).mono ?_
        rintro e w4 ⟨rfl, K'⟩
        clear H_0 H_1 H_2 H_3 H_4 H_5 H_6 H_z
        replace Kr := Below.then_ Kr K'
        clear K' T2
        go_wp2
        go_roundw
        case rel => exact ⟨k + 1, by omega, by go_num, H2, Kr⟩
        case measure => simp [intOf]; omega
      | false =>
        rw [h1] at T2
        go_wp2_with fail
        refine (T2.out).mono ?_
        rintro e w4 ⟨rfl, K'⟩
        clear H_0 H_1 H_2 H_3 H_4 H_5 H_6 H_z
        replace Kr := Below.then_ Kr K'
        replace K := Below.then_ K K'
        have T3 := Lib.hid (rhas9_any (hs.below K') hm (k : Int))
        clear K' T2
        cases h2 : hasB xs (k : Int) with
        | true =>
          rw [h2] at T3
          have H2 : Hid (∀ i : Nat, i < k + 1 → hasB zs i = true ∨ hasB xs i = true) := fun i hi => by
            rcases Nat.lt_or_ge i k with g | g
            · exact HH.out i g
            · obtain rfl : i = k := by omega
              exact .inr h2
          clear h1 h2 HH
          go_wp2_with fail
          refine (T3.out).mono ?_
          rintro e w5 ⟨rfl, rfl⟩
          clear T3
          go_wp2
          go_roundw
          case rel => exact ⟨k + 1, by omega, by go_num, H2, Kr⟩
          case measure => simp [intOf]; omega
        | false =>
          rw [h2] at T3
          have N : Hid (fullB M zs xs = false) := by
            rw [Hid, Bool.eq_false_iff]
            intro g
            have := fullB_iff.1 g k hlt
            rw [h1, h2] at this
            rcases this with e | e <;> cases e
          clear h1 h2 HH
          go_wp2_with fail
          refine (T3.out).mono ?_
          rintro e w5 ⟨rfl, rfl⟩
          clear T3
          go_wp2
          go_ret
          exact ⟨ret_bool N.out.symm, K⟩
    · have N : Hid (fullB M zs xs = true) := fullB_iff.2 fun i hi => HH.out i (by omega)
      clear HH
      go_wp2
      go_ret
      exact ⟨ret_bool N.out.symm, K⟩
end
end Go.Proofs.YtmakbmmnjbnfiaaDoor

