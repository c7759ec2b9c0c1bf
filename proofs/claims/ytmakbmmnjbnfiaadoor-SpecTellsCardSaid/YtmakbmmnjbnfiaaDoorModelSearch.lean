/-
  What slices.BinarySearch of a rising list answers: how many are below what is sought, and whether it is there; the world is as it was. Conditions: at most 65536 numbers.
-/
import Derived.Test.YtmakbmmnjbnfiaaDoorSpecPre
namespace Go.Proofs.YtmakbmmnjbnfiaaDoor
open Go.RowKit
theorem nan_any (x : Int) (w : World) :
    Calls Tryd.prog 76 #[.int .i64 x] w fun e w' => e = .returned (.bool false) ∧ w = w' := by
  go_enter Tryd.func76, Tryd.ntmps76
  go_wp2
  go_ret
  exact ⟨by first | rfl | simp, rfl⟩
theorem snan_any (x : Int) (w : World) :
    Calls Tryd.prog 73 #[.int .i64 x] w fun e w' => e = .returned (.bool false) ∧ w = w' := by
  go_enter Tryd.func73, Tryd.ntmps73
  go_wp2
  go_ret
  exact ⟨by first | rfl | simp, rfl⟩
theorem less_any (x y : Int) (w : World) :
    Calls Tryd.prog 72 #[.int .i64 x, .int .i64 y] w fun e w' => e = .returned (.bool (decide (x < y))) ∧ w = w' := by
  have T := fun w => Lib.hid (nan_any x w)
  go_enter Tryd.func72, Tryd.ntmps72
  go_wp2_with ((with_reducible refine ((T _).out).mono ?_); rintro e w' ⟨rfl, rfl⟩)
  go_ret
  exact ⟨rfl, rfl⟩
set_option maxHeartbeats 1000000 in
theorem search_any {w : World} {lo : Nat} {A : Option Addr} {n c : Nat} {xs : List Int} (h : IS .i64 lo w A n c xs) (hn : n ≤ 65536) (hr : Ris xs) (x : Int) :
    Calls Tryd.prog 67 #[.slice A n c, .int .i64 x] w fun e w' => e = .returned (.tuple #[.int .i64 (at_ xs x : Nat), .bool (hasB xs x)]) ∧ w = w' := by
  have hl := h.len
  have T := fun y w => Lib.hid (less_any y x w)
  have T2 := fun y w => Lib.hid (snan_any y w)
  replace hr := Lib.hid hr
  go_enter Tryd.func67, Tryd.ntmps67
  go_wp2
  go_loop [7, 8] (fun i j => ∃ a b : Nat, a ≤ b ∧ b ≤ n ∧ i = .int .i64 a ∧ j = .int .i64 b ∧ Hid (∀ k, k < a → gi xs k < x) ∧ Hid (∀ k, b ≤ k → k < n → x ≤ gi xs k)) (fun i j => (intOf j).toNat - (intOf i).toNat)
  case atStart => exact ⟨0, n, Nat.zero_le _, Nat.le_refl _, rfl, rfl, fun k hk => by omega, fun k h1 h2 => by omega⟩
  case round =>
    obtain ⟨a, b, hab, hb, rfl, rfl, H1, H2⟩ := hrel
    by_cases hlt : a < b
    · obtain ⟨m, hm⟩ : ∃ m : Nat, ((a : Int) + (b : Int)) / 2 = m := ⟨(a + b) / 2, by omega⟩
      have hma : a ≤ m := by omega
      have hmb : m < b := by omega
      obtain ⟨bb, o, rfl, _, hc⟩ := h.get (j := m) (by omega)
      by_cases he : gi xs m < x
      · have e1 : decide (gi xs m < x) = true := decide_eq_true he
        have N1 : Hid (∀ k, k < m + 1 → gi xs k < x) := fun k hk => by
          have := hr.out.le (i := k) (j := m) (by omega) (by omega)
          omega
        clear he
        go_wp2_with ((with_reducible refine ((T _ _).out).mono ?_); rintro e w' ⟨rfl, rfl⟩)
        go_round
        case rel => exact ⟨m + 1, b, by omega, hb, by go_num, rfl, N1, H2⟩
        case measure => simp [intOf]; omega
      · have e1 : decide (gi xs m < x) = false := decide_eq_false he
        have N2 : Hid (∀ k, m ≤ k → k < n → x ≤ gi xs k) := fun k h1 h2 => by
          have := hr.out.le (i := m) (j := k) h1 (by omega)
          omega
        clear he
        go_wp2_with ((with_reducible refine ((T _ _).out).mono ?_); rintro e w' ⟨rfl, rfl⟩)
        go_round
        case rel => exact ⟨a, m, hma, by omega, rfl, rfl, H1, N2⟩
        case measure => simp [intOf]; omega
    · obtain rfl : a = b := by omega
      have hat := Lib.hid <| at_of (xs := xs) (x := x) (i := a) (by omega) H1.out (fun k h1 h2 => H2.out k h1 (by omega))
      by_cases hlast : a < n
      · obtain ⟨bb, o, rfl, _, hc⟩ := h.get (j := a) (by omega)
        have hh := has_of hr.out (i := a) (by omega) H1.out (H2.out a (Nat.le_refl _) hlast)
        cases he : decide (gi xs a = x) with
        | true =>
          have e1 : (gi xs a == x) = true := by simpa using he
          rw [he] at hh
          replace hh := Lib.hid hh
          clear he
          go_wp2_with ((with_reducible refine ((T2 _ _).out).mono ?_); rintro e w' ⟨rfl, rfl⟩)
          go_ret2
          exact ⟨ret_ib (by rw [hat.out]) hh.out.symm, rfl⟩
        | false =>
          have e1 : (gi xs a == x) = false := by simpa using he
          rw [he] at hh
          replace hh := Lib.hid hh
          clear he
          go_wp2_with ((with_reducible refine ((T2 _ _).out).mono ?_); rintro e w' ⟨rfl, rfl⟩)
          go_ret2
          exact ⟨ret_ib (by rw [hat.out]) hh.out.symm, rfl⟩
      · obtain rfl : a = n := by omega
        have hh := has_end (xs := xs) (x := x) (fun k hk => H1.out k (by omega))
        replace hh := Lib.hid hh
        go_wp2_with ((with_reducible refine ((T2 _ _).out).mono ?_); rintro e w' ⟨rfl, rfl⟩)
        go_ret2
        exact ⟨ret_ib (by rw [hat.out]) hh.out.symm, rfl⟩
end Go.Proofs.YtmakbmmnjbnfiaaDoor

