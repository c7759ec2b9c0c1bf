/-
  What May and Full of package model answer of a configuration that may be: whether a list is a set that may be, and whether a set that may be is all of it; nothing that was there is otherwise. Conditions: at most 65536 numbers.
-/
import Derived.Test.YthnmneinimlpcaaModelConcat
namespace Go.Proofs.Ythnmneinimlpcaa
open Go.RowKit
section
variable {w : World} {lo lo2 a M : Nat} {p sh wo qu tr : Int} {A B : Option Addr} {n c m d : Nat} {zs xs : List Int}
set_option maxHeartbeats 1000000 in
theorem mmay_any (ha : a < 4294967296) (hM : Much a p M) (h : IS .i64 lo w A n c zs) (hn : n ≤ 65536) (hs : IS .i64 lo2 w B m d xs) (hm : m ≤ 65536) :
    Calls Try.prog 11 #[.agg #[.int .u32 a, .int .i64 p, .slice A n c, .int .i64 sh, .int .i64 wo, .int .i64 qu, .int .i64 tr], .slice B m d] w (RetBo (mayR M zs 0 xs) w) := by
  have hl := hs.len
  have hMm := hM.most
  have K := below_alloc w (.cells #[.int .u32 a, .int .i64 p, .slice A n c, .int .i64 sh, .int .i64 wo, .int .i64 qu, .int .i64 tr] 27)
  have H := Bk.new w #[.int .u32 a, .int .i64 p, .slice A n c, .int .i64 sh, .int .i64 wo, .int .i64 qu, .int .i64 tr] 27
  replace h := h.below K
  replace hs := hs.below K
  go_enter Try.func11, Try.ntmps11
  go_wp2_with fail
  generalize w.alloc (.cells #[.int .u32 a, .int .i64 p, .slice A n c, .int .i64 sh, .int .i64 wo, .int .i64 qu, .int .i64 tr] 27) = w1 at H K h hs ⊢
  generalize w.heap.size = g at H ⊢
  refine (many_yes ha hM).mono ?_
  rintro e w2 ⟨rfl, K'⟩
  replace H := H.below K'
  replace h := h.below K'
  replace hs := hs.below K'
  replace K := Below.then_ K K'
  clear K'
  go_wp2
  go_loopw [6, 14] (fun l i wr => ∃ (k : Nat) (L : Int), k ≤ m ∧ 0 ≤ L ∧ i = .int .i64 k ∧ l = .int .i64 L ∧ Hid (mayR M zs L (xs.drop k) = mayR M zs 0 xs) ∧ Below w2.heap.size w2 wr) (fun _ i _ => m - (intOf i).toNat)
  case atStart => exact ⟨0, 0, Nat.zero_le _, Int.le_refl _, rfl, rfl, rfl, Below.refl _ _⟩
  case round =>
    obtain ⟨k, L, hk, hL, rfl, rfl, HH, Kr⟩ := hrel
    replace H := H.below Kr
    replace h := h.below Kr
    replace hs := hs.below Kr
    have K2 := Below.then_ K Kr
    clear K
    by_cases hlt : k < m
    · obtain ⟨b, o, rfl, _, hc⟩ := hs.get hlt
      have hd : xs.drop k = gi xs k :: xs.drop (k + 1) := drop_gi (by omega)
      have HH2 := HH.out
      rw [hd] at HH2
      clear hd HH
      generalize gi xs k = x at *
      by_cases h1 : x < L
      · have e1 : decide (x < L) = true := decide_eq_true h1
        rw [mayR_bad (.inl h1)] at HH2
        replace HH2 := Lib.hid HH2
        clear h1
        go_wp2
        go_ret
        exact ⟨ret_bool HH2.out, K2⟩
      · have e1 : decide (x < L) = false := decide_eq_false h1
        by_cases h2 : (M : Int) ≤ x
        · have e2 : decide ((M : Int) ≤ x) = true := decide_eq_true h2
          rw [mayR_bad (.inr (.inl h2))] at HH2
          replace HH2 := Lib.hid HH2
          clear h1 h2
          go_wp2
          go_ret
          exact ⟨ret_bool HH2.out, K2⟩
        · have e2 : decide ((M : Int) ≤ x) = false := decide_eq_false h2
          have H_0 := H.at_ (v := .int .u32 a) 0 rfl
          have H_1 := H.at_ (v := .int .i64 p) 1 rfl
          have H_2 := H.at_ (v := .slice A n c) 2 rfl
          have H_3 := H.at_ (v := .int .i64 sh) 3 rfl
          have H_4 := H.at_ (v := .int .i64 wo) 4 rfl
          have H_5 := H.at_ (v := .int .i64 qu) 5 rfl
          have H_6 := H.at_ (v := .int .i64 tr) 6 rfl
          have H_z := H.lt
          have T := Lib.hid (held_any (a := a) (p := p) (sh := sh) (wo := wo) (qu := qu) (tr := tr) h hn x)
          cases h3 : hasB zs x with
          | true =>
            rw [h3] at T
            rw [mayR_bad (.inr (.inr h3))] at HH2
            replace HH2 := Lib.hid HH2
            clear h1 h2 h3
            go_wp2_with fail
            refine (T.out).mono ?_
            rintro e w3 ⟨rfl, K'⟩
            clear H_0 H_1 H_2 H_3 H_4 H_5 H_6 H_z
            replace K2 := Below.then_ K2 K'
            clear K' T
            go_wp2
            go_ret
            exact ⟨ret_bool HH2.out, K2⟩
          | false =>
            rw [h3] at T
            rw [mayR_good h1 h2 h3] at HH2
            replace HH2 := Lib.hid HH2
            have e3 : IntKind.i64.wrap (x + 1) = x + 1 := IntWalk.i64_in _ (by omega)
            clear h3
            go_wp2_with fail
            refine (T.out).mono ?_
            rintro e w3 ⟨rfl, K'⟩
            clear H_0 H_1 H_2 H_3 H_4 H_5 H_6 H_z
            replace Kr := Below.then_ Kr K'
            clear K' T
            go_wp2
            go_roundw
            case rel => exact ⟨k + 1, x + 1, by omega, by omega, by go_num, by first | rfl | (rw [e3]), HH2, Kr⟩
            case measure => simp [intOf]; omega
    · have HH2 := HH.out
      rw [List.drop_eq_nil_of_le (by omega)] at HH2
      replace HH2 := Lib.hid HH2
      go_wp2
      go_ret
      exact ⟨ret_bool HH2.out, K2⟩
theorem mfull_len (ha : a < 4294967296) (hM : Much a p M) (hn : n ≤ 65536) :
    Calls Try.prog 25 #[.agg #[.int .u32 a, .int .i64 p, .slice A n c, .int .i64 sh, .int .i64 wo, .int .i64 qu, .int .i64 tr], .slice B m d] w (RetBo (((m : Nat) : Int) == (M : Int) - ((n : Nat) : Int)) w) := by
  have K := below_alloc w (.cells #[.int .u32 a, .int .i64 p, .slice A n c, .int .i64 sh, .int .i64 wo, .int .i64 qu, .int .i64 tr] 27)
  have H := Bk.new w #[.int .u32 a, .int .i64 p, .slice A n c, .int .i64 sh, .int .i64 wo, .int .i64 qu, .int .i64 tr] 27
  have T := fun w => Lib.hid (usable_any (w := w) (sh := sh) (wo := wo) (qu := qu) (tr := tr) (A := A) (c := c) ha hM hn)
  obtain ⟨u, hu⟩ : ∃ u : Int, u = (M : Int) - (n : Int) := ⟨_, rfl⟩
  rw [← hu] at T ⊢
  clear hu
  go_enter Try.func25, Try.ntmps25
  go_wp2_with fail
  refine ((T _).out).mono ?_
  rintro e w2 ⟨rfl, K'⟩
  replace K := Below.then_ K K'
  clear K' T
  go_wp2
  go_ret
  exact ⟨rfl, K⟩
theorem mfull_any (ha : a < 4294967296) (hM : Much a p M) (h : IS .i64 lo w A n c zs) (hn : n ≤ 65536) (hr : risB M 0 zs = true) (hs : IS .i64 lo2 w B m d xs) (hx : mayR M zs 0 xs = true) :
    Calls Try.prog 25 #[.agg #[.int .u32 a, .int .i64 p, .slice A n c, .int .i64 sh, .int .i64 wo, .int .i64 qu, .int .i64 tr], .slice B m d] w (RetBo (fullB M zs xs) w) := by
  have := full_is hr hx
  rw [hs.len, h.len] at this
  rw [← this]
  exact mfull_len ha hM hn
end
end Go.Proofs.Ythnmneinimlpcaa
