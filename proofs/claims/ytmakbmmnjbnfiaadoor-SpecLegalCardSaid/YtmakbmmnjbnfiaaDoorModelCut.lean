/-
  What model.cut, With and Has answer of a rising list: its two pieces, the set with an offset, whether it is in; nothing that was there is otherwise. Conditions: at most 65535 numbers.
-/
import Derived.Test.YtmakbmmnjbnfiaaDoorModelSearch
import Derived.BigQuiet
namespace Go.Proofs.YtmakbmmnjbnfiaaDoor
open Go.RowKit
section
variable {k : IntKind} {lo : Nat} {w : World} {A : Option Addr} {n c : Nat} {xs : List Int}
/-- The head of a list, with no room behind it. -/
theorem IS.head (h : IS k lo w A n c xs) {d : Nat} (hd : d ≤ n) : IS k lo w A d d (xs.take d) :=
  ⟨by rw [List.length_take, h.len]; omega, Nat.le_refl _, by have := h.cap; have := h.most; omega, fun e => by have := h.nil_ e; have := h.cap; omega, fun hn => by
    obtain ⟨b, o, e, hl, hlt, hc⟩ := h.cells (by omega)
    refine ⟨b, o, e, hl, hlt, fun j hj => ?_⟩
    rw [hc j (by omega)]
    have hlen := h.len
    rw [gi_at (xs := xs) (by omega), gi_at (xs := xs.take d) (by rw [List.length_take]; omega), List.getElem_take]⟩
end
section
variable {lo : Nat} {w : World} {A : Option Addr} {n c : Nat} {xs : List Int}
theorem cut_any (h : IS .i64 lo w A n c xs) (hn : n ≤ 65536) {d : Nat} (hd : d ≤ n) :
    Calls Tryd.prog 68 #[.slice A n c, .int .i64 d] w fun e w' => ∃ A', e = .returned (.tuple #[.slice A d d, .slice A' (n - d) (n - d)]) ∧ IS .i64 lo w' A d d (xs.take d) ∧ IS .i64 lo w' A' (n - d) (n - d) (xs.drop d) ∧ Below w.heap.size w w' := by
  have hcap := h.cap
  have K := fun nq => Lib.hid (below_drewN (Below.refl w.heap.size w) nq)
  have I1 := fun nq => Lib.hid ((h.head hd).below (K nq).out)
  have I2 := fun nq => (h.recap.cut hd).below (K nq).out
  have f1 : ¬ (c < d) := by omega
  have f2 : ¬ (c < n) := by omega
  have f3 : ¬ (n < d) := by omega
  have g1 : (d : Int) ≤ c := by omega
  have g2 : (n : Int) ≤ c := by omega
  have g3 : (d : Int) ≤ n := by omega
  by_cases he : n = d
  · subst he
    replace I2 := fun nq => Lib.hid (by have := I2 nq; rwa [if_pos rfl] at this)
    go_enter Tryd.func68, Tryd.ntmps68
    go_wp2
    go_quiet (fail)
    go_wp2
    go_ret2
    exact ⟨A, by simp, (I1 _).out, (I2 _).out, (K _).out⟩
  · obtain ⟨b, o, rfl, _⟩ := h.cells (by omega)
    replace I2 := fun nq => Lib.hid ((h.recap.cut_ne hd he).below (K nq).out)
    have f4 : ¬ (n ≤ d) := by omega
    go_enter Tryd.func68, Tryd.ntmps68
    go_wp2
    go_quiet (fail)
    go_wp2
    go_ret2
    exact ⟨_, rfl, (I1 _).out, (I2 _).out, (K _).out⟩
theorem mhas_any (h : IS .i64 lo w A n c xs) (hn : n ≤ 65536) (hr : Ris xs) (x : Int) :
    Calls Tryd.prog 61 #[.slice A n c, .int .i64 x] w fun e w' => e = .returned (.bool (hasB xs x)) ∧ w = w' := by
  have T := Lib.hid (search_any h hn hr x)
  go_enter Tryd.func61, Tryd.ntmps61
  go_wp2_with fail
  refine (T.out).mono ?_
  rintro e _ ⟨rfl, rfl⟩
  clear T
  go_wp2
  go_ret
  exact ⟨rfl, rfl⟩
theorem mwith_any (h : IS .i64 lo w A n c xs) (hn : n < 65536) (hr : Ris xs) (x : Int) :
    Calls Tryd.prog 58 #[.slice A n c, .int .i64 x] w (RetI .i64 (ins xs x) w) := by
  have hl := h.len
  have T := Lib.hid (search_any h (by omega) hr x)
  have hat := at_le xs x
  rw [hl] at hat
  have C := Lib.hid (cut_any h (by omega) hat)
  cases hx : hasB xs x with
  | true =>
    have E := Lib.hid (ins_in hr hx)
    rw [hx] at T
    go_enter Tryd.func58, Tryd.ntmps58
    go_wp2_with fail
    refine (T.out).mono ?_
    rintro e _ ⟨rfl, rfl⟩
    clear T
    go_wp2
    go_ret
    exact ⟨A, n, c, rfl, by rw [E.out]; exact h.lower (Nat.zero_le _), Below.refl _ _⟩
  | false =>
    have E := Lib.hid (with_cut hr hx)
    rw [hx] at T
    clear hx
    generalize at_ xs x = d at *
    go_enter Tryd.func58, Tryd.ntmps58
    go_wp2_with fail
    refine (T.out).mono ?_
    rintro e _ ⟨rfl, rfl⟩
    clear T
    go_wp2_with fail
    refine (C.out).mono ?_
    rintro e w2 ⟨A', rfl, I1, I2, K⟩
    clear C
    obtain ⟨i0, hi, hz0, hz1, hz2⟩ := info_parts int_info
    obtain ⟨B, b, w3, hap, R3, K3⟩ := run_full1 (P := Tryd.prog) (x := x) Tryd.underlying25 hi hz0 hz1 (by omega) I1 (by omega) 25
    obtain ⟨B2, b2, w4, hap2, R4, K4⟩ := run_app (P := Tryd.prog) Tryd.underlying25 hi hz0 hz1 (by omega) R3 (I2.below K3) (by omega) K3.size 25
    have HA := Lib.hid hap
    have HB := Lib.hid hap2
    have HK := Lib.hid (Below.then_ K (K3.trans K4))
    have HI := Lib.hid ((R4.is).lower (Nat.zero_le _))
    clear hap hap2 hi hz0 hz1 hz2 R3 R4 K3 K4 I1 I2 K
    go_wp2_with (first
      | (at_builtin; refine wpList_append_run rfl (.tmp 23) (.tmp 25) 25 rfl _ _ _ _ rfl rfl HA.out ?_)
      | (at_builtin; refine wpList_append_run rfl (.tmp 26) (.tmp 27) 25 rfl _ _ _ _ rfl rfl HB.out ?_))
    go_ret
    exact ⟨_, _, _, rfl, by rw [← E.out]; exact HI.out, HK.out⟩
end
end Go.Proofs.YtmakbmmnjbnfiaaDoor

