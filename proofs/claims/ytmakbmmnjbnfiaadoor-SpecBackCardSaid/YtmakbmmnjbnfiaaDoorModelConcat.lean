/-
  What slices.Grow of nil, slices.Concat of two lists, and model.Without answer: a row of the call's own, the two lists one behind the other, the set without an offset; nothing that was there is otherwise. Conditions: at most 65536 numbers.
-/
import Derived.Test.YtmakbmmnjbnfiaaDoorModelCut
namespace Go.Proofs.YtmakbmmnjbnfiaaDoor
open Go.RowKit
theorem grow_none (w : World) :
    Calls Tryd.prog 74 #[.slice none 0 0, .int .i64 0] w fun e w' => e = .returned (.slice none 0 0) ∧ w = w' := by
  go_enter Tryd.func74, Tryd.ntmps74
  go_wp2
  go_ret
  exact ⟨rfl, rfl⟩
theorem grow_some (m : Nat) (h0 : 0 < m) (hm : m ≤ 65536) (w : World) :
    Calls Tryd.prog 74 #[.slice none 0 0, .int .i64 m] w fun e w' => ∃ A c, e = .returned (.slice A 0 c) ∧ Ri .i64 3 w' w.heap.size (.slice A 0 c) 0 [] ∧ Below w.heap.size w w' := by
  obtain ⟨i0, hi, hz0, hz1, hz2⟩ := info_parts int_info
  have hr := fun ty => Lib.run_append_nil_zeros (P := Tryd.prog) w 25 3 ty 3 i0 (.int .i64 0) .i64 .i64 Tryd.underlying25 Tryd.underlying3 hi hz0 m h0 (by omega) (by omega) (by rw [hz2]; omega)
  have hG := grownCap_ge w m 0 3
  have hG2 := grownCap_le_maxLen w m 0 3 (by unfold maxLen; omega)
  generalize grownCap w m 0 3 = G at *
  have hs : (Builtin.zeroCells (Value.int .i64 0).cells m ++ Builtin.zeroCells (Value.int .i64 0).cells (G - m)).size = G := by
    rw [Array.size_append, size_zeroCells, size_zeroCells]
    have : (Value.int .i64 0).cells.size = 1 := rfl
    rw [this]; omega
  generalize Builtin.zeroCells (Value.int .i64 0).cells m ++ Builtin.zeroCells (Value.int .i64 0).cells (G - m) = cs at *
  have R : Hid (Ri .i64 3 (w.drew.alloc (.cells cs 3)) w.heap.size (.slice (some ⟨w.heap.size, 0, none⟩) 0 G) 0 []) :=
    ⟨rfl, .inr ⟨w.heap.size, G, cs, rfl, Nat.le_refl _, heap_alloc_new w.drew _, Nat.zero_le _, hG2, by omega, by simp⟩⟩
  have K := Lib.hid ((Below.refl w.heap.size w).drew.alloc (Nat.le_refl _) (.cells cs 3))
  have HR := fun ty => Lib.hid (hr ty)
  have g1 : (0 : Int) < m := by omega
  unfold maxLen at hG2
  clear hr hs hi hz0 hz1 hz2
  go_enter Tryd.func74, Tryd.ntmps74
  go_wp2_with (at_builtin; refine Lib.wpList_append_run _ rfl _ _ _ _ rfl _ _ rfl rfl _ _ (HR _).out ?_)
  all_goals (go_ret; exact ⟨_, _, rfl, R.out, K.out⟩)
theorem grow_any (m : Nat) (hm : m ≤ 65536) (w : World) :
    Calls Tryd.prog 74 #[.slice none 0 0, .int .i64 m] w fun e w' => ∃ A c, e = .returned (.slice A 0 c) ∧ Ri .i64 3 w' w.heap.size (.slice A 0 c) 0 [] ∧ Below w.heap.size w w' := by
  rcases Nat.eq_zero_or_pos m with h0 | h0
  · subst h0
    refine (grow_none w).mono ?_
    rintro e _ ⟨rfl, rfl⟩
    exact ⟨_, _, rfl, Ri.nil _ _, Below.refl _ _⟩
  · exact grow_some m h0 hm w
set_option maxHeartbeats 1000000 in
theorem concat_any {w : World} {lo1 lo2 g n1 c1 n2 c2 : Nat} {A1 A2 : Option Addr} {xs ys : List Int} (I1 : IS .i64 lo1 w A1 n1 c1 xs) (I2 : IS .i64 lo2 w A2 n2 c2 ys) (hn : n1 + n2 ≤ 65536) (hB : Bk w g 25 #[.slice A1 n1 c1, .slice A2 n2 c2]) :
    Calls Tryd.prog 69 #[.slice (some ⟨g, 0, none⟩) 2 2] w (RetI .i64 (xs ++ ys) w) := by
  have b0 := hB.at_ (v := .slice A1 n1 c1) 0 rfl
  have b1 := hB.at_ (v := .slice A2 n2 c2) 1 rfl
  obtain ⟨m, hm⟩ : ∃ m : Nat, (n1 : Int) + (n2 : Int) = m := ⟨n1 + n2, by omega⟩
  have T := Lib.hid (grow_any m (by omega) w)
  have e1 : ¬ ((n1 : Int) < 0) := by omega
  have e2 : ¬ ((m : Int) < 0) := by omega
  go_enter Tryd.func69, Tryd.ntmps69
  go_wp2
  refine wp_loop_rounds 3 ?_
  rw [rounds_succ]
  go_wp2
  rw [rounds_succ]
  go_wp2
  rw [rounds_succ]
  go_wp2_with fail
  refine (T.out).mono ?_
  rintro e w1 ⟨B, b, rfl, R0, K0⟩
  clear T
  obtain ⟨i0, hi, hz0, hz1, hz2⟩ := info_parts int_info
  obtain ⟨B1, d1, w2, hap1, R1, K1⟩ := run_app (P := Tryd.prog) Tryd.underlying25 hi hz0 hz1 (by omega) R0 (I1.below K0) (by omega) K0.size 25
  rw [Nat.zero_add, List.nil_append] at R1
  rw [Nat.zero_add] at hap1
  have K2 := K0.trans K1
  obtain ⟨B2, d2, w3, hap2, R2, K3⟩ := run_app (P := Tryd.prog) Tryd.underlying25 hi hz0 hz1 (by omega) R1 (I2.below K2) (by omega) K2.size 25
  have HA := Lib.hid hap1
  have HB := Lib.hid hap2
  have HK := Lib.hid (K2.trans K3)
  have HI := Lib.hid ((R2.is).lower (Nat.zero_le _))
  have c0 := (hB.below K0).at_ (v := .slice A1 n1 c1) 0 rfl
  have c1 := (hB.below K2).at_ (v := .slice A2 n2 c2) 1 rfl
  clear hap1 hap2 hi hz0 hz1 hz2 R0 R1 R2 K0 K1 K2 K3 b0 b1 hB I1 I2
  go_wp2
  refine wp_loop_rounds 3 ?_
  rw [rounds_succ]
  go_wp2_with (at_builtin; refine wpList_append_run rfl (.tmp 31) (.tmp 32) 25 rfl _ _ _ _ rfl rfl HA.out ?_)
  rw [rounds_succ]
  go_wp2_with (at_builtin; refine wpList_append_run rfl (.tmp 31) (.tmp 32) 25 rfl _ _ _ _ rfl rfl HB.out ?_)
  rw [rounds_succ]
  go_wp2
  go_ret
  exact ⟨_, _, _, rfl, HI.out, HK.out⟩
theorem mwithout_any {w : World} {lo : Nat} {A : Option Addr} {n c : Nat} {xs : List Int} (h : IS .i64 lo w A n c xs) (hn : n ≤ 65536) (hr : Ris xs) (x : Int) :
    Calls Tryd.prog 62 #[.slice A n c, .int .i64 x] w (RetI .i64 (del xs x) w) := by
  have hl := h.len
  have T := Lib.hid (search_any h (by omega) hr x)
  have hat := at_le xs x
  rw [hl] at hat
  have C := Lib.hid (cut_any h (by omega) hat)
  cases hx : hasB xs x with
  | false =>
    have E := Lib.hid (del_out hr hx)
    rw [hx] at T
    go_enter Tryd.func62, Tryd.ntmps62
    go_wp2_with fail
    refine (T.out).mono ?_
    rintro e _ ⟨rfl, rfl⟩
    clear T
    go_wp2
    go_ret
    exact ⟨A, n, c, rfl, by rw [E.out]; exact h.lower (Nat.zero_le _), Below.refl _ _⟩
  | true =>
    obtain ⟨hd, e⟩ := without_cut hr hx
    have E := Lib.hid e
    rw [hl] at hd
    rw [hx] at T
    clear hx e
    generalize at_ xs x = d at *
    go_enter Tryd.func62, Tryd.ntmps62
    go_wp2_with fail
    refine (T.out).mono ?_
    rintro e _ ⟨rfl, rfl⟩
    clear T
    go_wp2_with fail
    refine (C.out).mono ?_
    rintro e w2 ⟨A', rfl, I1, I2, K⟩
    clear C
    obtain ⟨b, o, rfl, _⟩ := I2.cells (by omega)
    obtain ⟨q, hq⟩ : ∃ q, n - d = q + 1 := ⟨n - d - 1, by omega⟩
    rw [hq] at I2 ⊢
    by_cases h1 : q = 0
    · subst h1
      have I3 := I2.cut_eq (d := 1) (Nat.le_refl _)
      have K3 := below_alloc w2 (.cells #[.slice A d d, .slice (some ⟨b, o, none⟩) 0 0] 25)
      have T := Lib.hid (concat_any (I1.below K3) (I3.below K3) (by omega) (Bk.new w2 #[.slice A d d, .slice (some ⟨b, o, none⟩) 0 0] 25))
      clear I1 I2 I3 h
      go_wp2_with fail
      refine (T.out).mono ?_
      rintro e w3 ⟨B, m, b', rfl, I, K4⟩
      clear T
      have HI := Lib.hid I
      have HK := Lib.hid (Below.then_ K (Below.then_ K3 K4))
      clear I K3 K4 K
      go_wp2
      go_ret
      exact ⟨_, _, _, rfl, by rw [← E.out]; exact HI.out, HK.out⟩
    · have I3 := I2.cut_ne (d := 1) (by omega) (by omega)
      rw [Nat.add_sub_cancel] at I3
      have K3 := below_alloc w2 (.cells #[.slice A d d, .slice (some ⟨b, o + 1, none⟩) q q] 25)
      have T := Lib.hid (concat_any (I1.below K3) (I3.below K3) (by omega) (Bk.new w2 #[.slice A d d, .slice (some ⟨b, o + 1, none⟩) q q] 25))
      clear I1 I2 I3 h
      go_wp2_with fail
      refine (T.out).mono ?_
      rintro e w3 ⟨B, m, b', rfl, I, K4⟩
      clear T
      have HI := Lib.hid I
      have HK := Lib.hid (Below.then_ K (Below.then_ K3 K4))
      clear I K3 K4 K
      go_wp2
      go_ret
      exact ⟨_, _, _, rfl, by rw [← E.out]; exact HI.out, HK.out⟩
end Go.Proofs.YtmakbmmnjbnfiaaDoor

