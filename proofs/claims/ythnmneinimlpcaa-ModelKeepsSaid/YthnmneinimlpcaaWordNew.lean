/-
  What New of package word, and the document's, answer of a configuration that may be: the leaf's first word; nothing that was there is otherwise.
-/
import Derived.Test.YthnmneinimlpcaaWordCalls
namespace Go.Proofs.Ythnmneinimlpcaa
open Go.RowKit
section
variable {w : World} {lo a M l : Nat} {p sh wo qu tr : Int} {A : Option Addr} {n c : Nat} {xs : List Int}
theorem wnew_any (ha : a < 4294967296) (hM : Much a p M) (h : IS .i64 lo w A n c xs) (hn : n ≤ 65536) (hr : risB M 0 xs = true) (hl : 32 * l < M) :
    Calls Try.prog 43 #[.agg #[.int .u32 a, .int .i64 p, .slice A n c, .int .i64 sh, .int .i64 wo, .int .i64 qu, .int .i64 tr], .int .i64 l] w fun e w' => e = .returned (.int .u64 (nw M xs l)) ∧ Below w.heap.size w w' := by
  have hlen := h.len
  have hm := hM.most
  have hwd : wd M l ≤ 32 := by unfold wd; omega
  have hN := Lib.hid (nw_first M l hl)
  have T1 := fun w => Lib.hid (width_any M l hm (by omega) w)
  have T2 : ∀ w, Hid (Calls Try.prog 62 #[.int .i64 32] w fun e w' => e = .returned (.int .u64 (msk 32)) ∧ w = w') := fun w => mask_any 32 (by decide) w
  have T3 := fun w => Lib.hid (mask_any (wd M l) (by omega) w)
  have hk1 := msk_lt (n := 32) (by decide)
  have hk2 := msk_lt (n := wd M l) (by omega)
  generalize wd M l = W at *
  generalize msk W = m2 at *
  generalize msk 32 = m1 at *
  have hA : Go.bits .andNot .u64 (m1 : Int) (m2 : Int) = (nw M [] l : Nat) := by rw [u64_andNot_nat m1 m2 hk1 hk2, hN.out]
  clear hN hk1 hk2
  have K := below_alloc w (.cells #[.int .u32 a, .int .i64 p, .slice A n c, .int .i64 sh, .int .i64 wo, .int .i64 qu, .int .i64 tr] 27)
  have H := Bk.new w #[.int .u32 a, .int .i64 p, .slice A n c, .int .i64 sh, .int .i64 wo, .int .i64 qu, .int .i64 tr] 27
  replace h := h.below K
  go_enter Try.func43, Try.ntmps43
  go_wp2_with fail
  generalize w.alloc (.cells #[.int .u32 a, .int .i64 p, .slice A n c, .int .i64 sh, .int .i64 wo, .int .i64 qu, .int .i64 tr] 27) = w1 at H K h ⊢
  generalize w.heap.size = g at H ⊢
  refine (many_yes ha hM).mono ?_
  rintro e w2 ⟨rfl, K'⟩
  replace H := H.below K'
  replace h := h.below K'
  replace K := Below.then_ K K'
  clear K'
  have H_0 := H.at_ (v := .int .u32 a) 0 rfl
  have H_1 := H.at_ (v := .int .i64 p) 1 rfl
  have H_2 := H.at_ (v := .slice A n c) 2 rfl
  have H_3 := H.at_ (v := .int .i64 sh) 3 rfl
  have H_4 := H.at_ (v := .int .i64 wo) 4 rfl
  have H_5 := H.at_ (v := .int .i64 qu) 5 rfl
  have H_6 := H.at_ (v := .int .i64 tr) 6 rfl
  have H_z := H.lt
  go_wp2_with (first
    | ((with_reducible refine ((T1 _).out).mono ?_); rintro e w' ⟨rfl, rfl⟩)
    | ((with_reducible refine ((T2 _).out).mono ?_); rintro e w' ⟨rfl, rfl⟩)
    | ((with_reducible refine ((T3 _).out).mono ?_); rintro e w' ⟨rfl, rfl⟩))
  clear T1 T2 T3 hA
  go_loop [6, 23] (fun m i => ∃ k : Nat, k ≤ n ∧ i = .int .i64 k ∧ m = .int .u64 (nw M (xs.take k) l)) (fun _ i => n - (intOf i).toNat)
  case atStart => exact ⟨0, Nat.zero_le _, rfl, rfl⟩
  case round =>
    obtain ⟨k, hk, rfl, rfl⟩ := hrel
    by_cases hlt : k < n
    · have hx := risB_mem hr (gi_mem (xs := xs) (j := k) (by omega))
      obtain ⟨o, ho⟩ : ∃ o : Nat, gi xs k = (o : Int) := ⟨(gi xs k).toNat, by omega⟩
      obtain ⟨b, off, rfl, _, hc⟩ := h.get hlt
      rw [ho] at hc
      have ho2 : o ≤ 65536 := by omega
      have T := fun w => Lib.hid (leaf_any o ho2 w)
      obtain ⟨q, hq⟩ : ∃ q : Nat, q = o / 32 := ⟨_, rfl⟩
      obtain ⟨r, hr2⟩ : ∃ r : Nat, r = o % 32 := ⟨_, rfl⟩
      have hr3 : r < 64 := by omega
      rw [← hq, ← hr2] at T
      by_cases he : q = l
      · have S := Lib.hid (nw_hit (M := M) (xs := xs) (by omega) ho (hq.symm.trans he))
        rw [← hr2] at S
        have e1 : ((q : Int) == (l : Int)) = true := by simp [he]
        have T2 := fun w => Lib.hid (with_any (nw M (xs.take k) l) r (nw_lt _ _ _) hr3 w)
        clear ho hx hq hr2 he
        go_wp2_with (first
          | ((with_reducible refine ((T _).out).mono ?_); rintro e w' ⟨rfl, rfl⟩)
          | ((with_reducible refine ((T2 _).out).mono ?_); rintro e w' ⟨rfl, rfl⟩))
        go_round
        case rel => exact ⟨k + 1, by omega, by go_num, by rw [S.out]⟩
        case measure => simp [intOf]; omega
      · have S := Lib.hid (nw_miss (M := M) (xs := xs) (l := l) (by omega) ho (by omega))
        have e1 : ((q : Int) == (l : Int)) = false := by simp; omega
        clear ho hx hq hr2 he
        go_wp2_with ((with_reducible refine ((T _).out).mono ?_); rintro e w' ⟨rfl, rfl⟩)
        go_round
        case rel => exact ⟨k + 1, by omega, by go_num, by rw [S.out]⟩
        case measure => simp [intOf]; omega
    · go_wp2
      go_ret
      have e : k = n := by omega
      subst e
      refine ⟨ret_int ?_, K⟩
      rw [List.take_of_length_le (by omega)]
end
end Go.Proofs.Ythnmneinimlpcaa

