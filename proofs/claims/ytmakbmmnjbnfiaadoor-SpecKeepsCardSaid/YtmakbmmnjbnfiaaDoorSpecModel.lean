/-
  With, Without and Addrs, by the program and by the document, with where the answer lies: in memory of the call's own. Conditions: rising sets, of at most 65535 numbers; With of a number that isn't in, Without of one that is.
-/
import Derived.Test.YtmakbmmnjbnfiaaDoorAskOpen
namespace Go.Proofs.YtmakbmmnjbnfiaaDoor
open Go.RowKit
/-- A list is answered that lies in memory of the call's own. -/
def RetF (k : IntKind) (xs : List Int) (w : World) (e : Ending) (w' : World) : Prop := ∃ A n c, e = .returned (.slice A n c) ∧ IS k w.heap.size w' A n c xs ∧ Below w.heap.size w w'
set_option maxHeartbeats 1000000 in
theorem concat_new {w : World} {lo1 lo2 g n1 c1 n2 c2 : Nat} {A1 A2 : Option Addr} {xs ys : List Int} (I1 : IS .i64 lo1 w A1 n1 c1 xs) (I2 : IS .i64 lo2 w A2 n2 c2 ys) (hn : n1 + n2 ≤ 65536) (hB : Bk w g 25 #[.slice A1 n1 c1, .slice A2 n2 c2]) :
    Calls Tryd.prog 69 #[.slice (some ⟨g, 0, none⟩) 2 2] w (RetF .i64 (xs ++ ys) w) := by
  have b0 := hB.at_ (v := .slice A1 n1 c1) 0 rfl
  have b1 := hB.at_ (v := .slice A2 n2 c2) 1 rfl
  obtain ⟨m, hm⟩ : ∃ m : Nat, (n1 : Int) + (n2 : Int) = m := ⟨n1 + n2, by omega⟩
  have T := Lib.hid (grow_any m (by omega) w)
  have e1 : ¬ ((n1 : Int) < 0) := by omega
  have e2 : ¬ ((m : Int) < 0) := by omega
  go_enter Tryd.func69, Tryd.ntmps69
  go_wp2
  refine wp_loop_rounds 3 ?_
  rw [rounds_succ]
  go_wp2
  rw [rounds_succ]
  go_wp2
  rw [rounds_succ]
  go_wp2_with fail
  refine (T.out).mono ?_
  rintro e w1 ⟨B, b, rfl, R0, K0⟩
  clear T
  obtain ⟨i0, hi, hz0, hz1, hz2⟩ := info_parts int_info
  obtain ⟨B1, d1, w2, hap1, R1, K1⟩ := run_app (P := Tryd.prog) Tryd.underlying25 hi hz0 hz1 (by omega) R0 (I1.below K0) (by omega) K0.size 25
  rw [Nat.zero_add, List.nil_append] at R1
  rw [Nat.zero_add] at hap1
  have K2 := K0.trans K1
  obtain ⟨B2, d2, w3, hap2, R2, K3⟩ := run_app (P := Tryd.prog) Tryd.underlying25 hi hz0 hz1 (by omega) R1 (I2.below K2) (by omega) K2.size 25
  have HA := Lib.hid hap1
  have HB := Lib.hid hap2
  have HK := Lib.hid (K2.trans K3)
  have HI := Lib.hid R2.is
  have c0 := (hB.below K0).at_ (v := .slice A1 n1 c1) 0 rfl
  have c1 := (hB.below K2).at_ (v := .slice A2 n2 c2) 1 rfl
  clear hap1 hap2 hi hz0 hz1 hz2 R0 R1 R2 K0 K1 K2 K3 b0 b1 hB I1 I2
  go_wp2
  refine wp_loop_rounds 3 ?_
  rw [rounds_succ]
  go_wp2_with (at_builtin; refine wpList_append_run rfl (.tmp 31) (.tmp 32) 25 rfl _ _ _ _ rfl rfl HA.out ?_)
  rw [rounds_succ]
  go_wp2_with (at_builtin; refine wpList_append_run rfl (.tmp 31) (.tmp 32) 25 rfl _ _ _ _ rfl rfl HB.out ?_)
  rw [rounds_succ]
  go_wp2
  go_ret
  exact ⟨_, _, _, rfl, HI.out, HK.out⟩
set_option maxHeartbeats 1000000 in
theorem mwithout_new {w : World} {lo : Nat} {A : Option Addr} {n c : Nat} {xs : List Int} (h : IS .i64 lo w A n c xs) (hn : n ≤ 65536) (hr : Ris xs) (x : Int) (hx : hasB xs x = true) :
    Calls Tryd.prog 62 #[.slice A n c, .int .i64 x] w (RetF .i64 (del xs x) w) := by
  have hl := h.len
  have T := Lib.hid (search_any h (by omega) hr x)
  have hat := at_le xs x
  rw [hl] at hat
  have C := Lib.hid (cut_any h (by omega) hat)
  obtain ⟨hd, e⟩ := without_cut hr hx
  have E := Lib.hid e
  rw [hl] at hd
  rw [hx] at T
  clear hx e
  generalize at_ xs x = d at *
  go_enter Tryd.func62, Tryd.ntmps62
  go_wp2_with fail
  refine (T.out).mono ?_
  rintro e _ ⟨rfl, rfl⟩
  clear T
  go_wp2_with fail
  refine (C.out).mono ?_
  rintro e w2 ⟨A', rfl, I1, I2, K⟩
  clear C
  obtain ⟨b, o, rfl, _⟩ := I2.cells (by omega)
  obtain ⟨q, hq⟩ : ∃ q, n - d = q + 1 := ⟨n - d - 1, by omega⟩
  rw [hq] at I2 ⊢
  by_cases h1 : q = 0
  · subst h1
    have I3 := I2.cut_eq (d := 1) (Nat.le_refl _)
    have K3 := below_alloc w2 (.cells #[.slice A d d, .slice (some ⟨b, o, none⟩) 0 0] 25)
    have T := Lib.hid (concat_new (I1.below K3) (I3.below K3) (by omega) (Bk.new w2 #[.slice A d d, .slice (some ⟨b, o, none⟩) 0 0] 25))
    clear I1 I2 I3 h
    go_wp2_with fail
    refine (T.out).mono ?_
    rintro e w3 ⟨B, m, b', rfl, I, K4⟩
    clear T
    have HI := Lib.hid (I.lower (Nat.le_trans K.size K3.size))
    have HK := Lib.hid (Below.then_ K (Below.then_ K3 K4))
    clear I K3 K4 K
    go_wp2
    go_ret
    exact ⟨_, _, _, rfl, by rw [← E.out]; exact HI.out, HK.out⟩
  · have I3 := I2.cut_ne (d := 1) (by omega) (by omega)
    rw [Nat.add_sub_cancel] at I3
    have K3 := below_alloc w2 (.cells #[.slice A d d, .slice (some ⟨b, o + 1, none⟩) q q] 25)
    have T := Lib.hid (concat_new (I1.below K3) (I3.below K3) (by omega) (Bk.new w2 #[.slice A d d, .slice (some ⟨b, o + 1, none⟩) q q] 25))
    clear I1 I2 I3 h
    go_wp2_with fail
    refine (T.out).mono ?_
    rintro e w3 ⟨B, m, b', rfl, I, K4⟩
    clear T
    have HI := Lib.hid (I.lower (Nat.le_trans K.size K3.size))
    have HK := Lib.hid (Below.then_ K (Below.then_ K3 K4))
    clear I K3 K4 K
    go_wp2
    go_ret
    exact ⟨_, _, _, rfl, by rw [← E.out]; exact HI.out, HK.out⟩
section
variable {lo : Nat} {w : World} {A : Option Addr} {n c : Nat} {xs : List Int}
theorem mwith_new (h : IS .i64 lo w A n c xs) (hn : n < 65536) (hr : Ris xs) (x : Int) (hx : hasB xs x = false) :
    Calls Tryd.prog 58 #[.slice A n c, .int .i64 x] w (RetF .i64 (ins xs x) w) := by
  have hl := h.len
  have T := Lib.hid (search_any h (by omega) hr x)
  have hat := at_le xs x
  rw [hl] at hat
  have C := Lib.hid (cut_any h (by omega) hat)
  have E := Lib.hid (with_cut hr hx)
  rw [hx] at T
  clear hx
  generalize at_ xs x = d at *
  go_enter Tryd.func58, Tryd.ntmps58
  go_wp2_with fail
  refine (T.out).mono ?_
  rintro e _ ⟨rfl, rfl⟩
  clear T
  go_wp2_with fail
  refine (C.out).mono ?_
  rintro e w2 ⟨A', rfl, I1, I2, K⟩
  clear C
  obtain ⟨i0, hi, hz0, hz1, hz2⟩ := info_parts int_info
  obtain ⟨B, b, w3, hap, R3, K3⟩ := run_full1 (P := Tryd.prog) (x := x) Tryd.underlying25 hi hz0 hz1 (by omega) I1 (by omega) 25
  obtain ⟨B2, b2, w4, hap2, R4, K4⟩ := run_app (P := Tryd.prog) Tryd.underlying25 hi hz0 hz1 (by omega) R3 (I2.below K3) (by omega) K3.size 25
  have HA := Lib.hid hap
  have HB := Lib.hid hap2
  have HK := Lib.hid (Below.then_ K (K3.trans K4))
  have HI := Lib.hid ((R4.is).lower K.size)
  clear hap hap2 hi hz0 hz1 hz2 R3 R4 K3 K4 I1 I2 K
  go_wp2_with (first
    | (at_builtin; refine wpList_append_run rfl (.tmp 23) (.tmp 25) 25 rfl _ _ _ _ rfl rfl HA.out ?_)
    | (at_builtin; refine wpList_append_run rfl (.tmp 26) (.tmp 27) 25 rfl _ _ _ _ rfl rfl HB.out ?_))
  go_ret
  exact ⟨_, _, _, rfl, by rw [← E.out]; exact HI.out, HK.out⟩
theorem rwithout_new (h : IS .i64 lo w A n c xs) (hn : n < 65536) (x : Int) :
    Calls Tryd.prog 35 #[.slice A n c, .int .i64 x] w (RetF .i64 (del xs x) w) := by
  have hl := h.len
  go_enter Tryd.func35, Tryd.ntmps35
  go_wp2
  go_loopw [5, 6] (fun s i wr => ∃ (k q e : Nat) (C : Option Addr), k ≤ n ∧ i = .int .i64 k ∧ s = .slice C q e ∧ Hid (Ri .i64 3 wr w.heap.size (.slice C q e) q (del (xs.take k) x)) ∧ Below w.heap.size w wr) (fun _ i _ => n - (intOf i).toNat)
  case atStart => exact ⟨0, 0, 0, none, Nat.zero_le _, rfl, rfl, Lib.hid (Ri.nil _ _), Below.refl _ _⟩
  case round =>
    obtain ⟨k, q, e, C, hk, rfl, rfl, HR, Kr⟩ := hrel
    by_cases hlt : k < n
    · obtain ⟨b, o, rfl, _, hc⟩ := (h.below Kr).get hlt
      have hq := len_del (xs.take k) x
      rw [HR.out.len, List.length_take] at hq
      have hq2 : q + 1 ≤ 65536 := by omega
      have ht := Lib.hid ((congrArg (fun l => del l x) (take_gi (xs := xs) (j := k) (by omega))).trans (del_snoc _ _ _))
      clear hq
      generalize gi xs k = y at *
      by_cases he : y = x
      · have e1 : (y != x) = false := by simp [he]
        have HR2 := HR.out
        rw [← (show del (xs.take (k + 1)) x = del (xs.take k) x by have := ht.out; rw [if_pos he, List.append_nil] at this; exact this)] at HR2
        replace HR2 := Lib.hid HR2
        clear he ht HR
        go_wp2
        go_roundw
        case rel => exact ⟨k + 1, q, e, C, by omega, by go_num, rfl, HR2, Kr⟩
        case measure => simp [intOf]; omega
      · have e1 : (y != x) = true := by simpa using he
        obtain ⟨i0, hi, hz0, hz1, hz2⟩ := info_parts int_info
        obtain ⟨C2, e2, w5, hap, R5, K5⟩ := run_app1 (P := Tryd.prog) (x := y) Tryd.underlying25 hi hz0 hz1 (by omega) HR.out hq2 Kr.size 25
        have HA := Lib.hid hap
        have HR2 := R5
        rw [← (show del (xs.take (k + 1)) x = del (xs.take k) x ++ [y] by have := ht.out; rw [if_neg he] at this; exact this)] at HR2
        replace HR2 := Lib.hid HR2
        have K6 := Kr.trans K5
        clear he ht HR hap R5 K5 hi hz0 hz1 hz2 hq2
        go_wp2_with (at_builtin; refine wpList_append_run rfl (.tmp 19) (.tmp 24) 25 rfl _ _ _ _ rfl rfl HA.out ?_)
        go_roundw
        case rel => exact ⟨k + 1, q + 1, e2, C2, by omega, by go_num, rfl, HR2, K6⟩
        case measure => simp [intOf]; omega
    · have HR2 := HR.out
      rw [List.take_of_length_le (by omega)] at HR2
      have I := Lib.hid HR2.is
      clear HR HR2
      go_wp2
      go_ret
      exact ⟨_, _, _, rfl, I.out, Kr⟩
set_option maxHeartbeats 1000000 in
theorem rwith_new (h : IS .i64 lo w A n c xs) (hn : n < 65536) (hr : Ris xs) (x : Int) :
    Calls Tryd.prog 23 #[.slice A n c, .int .i64 x] w (RetF .i64 (ins xs x) w) := by
  have hl := h.len
  replace hr := Lib.hid hr
  go_enter Tryd.func23, Tryd.ntmps23
  go_wp2
  go_loopw [5, 6, 7] (fun s dn i wr => ∃ (k q e : Nat) (C : Option Addr) (b : Bool), k ≤ n ∧ i = .int .i64 k ∧ s = .slice C q e ∧ dn = .bool b ∧ Hid ((b = true → ∃ j, j < k ∧ x ≤ gi xs j) ∧ (b = false → ∀ j, j < k → gi xs j < x)) ∧ Hid (Ri .i64 3 wr w.heap.size (.slice C q e) q (if b = true then ins (xs.take k) x else xs.take k)) ∧ Below w.heap.size w wr) (fun _ _ i _ => n - (intOf i).toNat)
  case atStart => exact ⟨0, 0, 0, none, false, Nat.zero_le _, rfl, rfl, rfl, ⟨(fun e => by cases e), fun _ j hj => by omega⟩, Lib.hid (Ri.nil _ _), Below.refl _ _⟩
  case round =>
    obtain ⟨k, q, e, C, dn, hk, rfl, rfl, rfl, HD, HR, Kr⟩ := hrel
    by_cases hlt : k < n
    · obtain ⟨b, o, rfl, _, hc⟩ := (h.below Kr).get hlt
      have ht := Lib.hid (take_gi (xs := xs) (j := k) (by omega))
      have hrt := Lib.hid (ris_take hr.out (k + 1))
      obtain ⟨i0, hi, hz0, hz1, hz2⟩ := info_parts int_info
      have hql : q ≤ k + 1 := by
        have h1 := HR.out.len
        have h2 := len_ins (xs := xs.take k) x
        rw [List.length_take] at h2
        split at h1
        · omega
        · rw [List.length_take] at h1; omega
      cases dn with
      | true =>
        obtain ⟨j, hj, hxj⟩ := HD.out.1 rfl
        have hgt : x < gi xs k := by have := hr.out.lt hj (by omega); omega
        obtain ⟨C2, e2, w5, hap, R5, K5⟩ := run_app1 (P := Tryd.prog) (x := gi xs k) Tryd.underlying25 hi hz0 hz1 (by omega) HR.out (by omega) Kr.size 25
        have HA := Lib.hid hap
        have E : ins (xs.take k) x ++ [gi xs k] = ins (xs.take (k + 1)) x := by
          have := hrt.out
          rw [ht.out] at this ⊢
          exact ins_snoc this hgt
        have HR2 : Hid (Ri .i64 3 w5 w.heap.size (.slice C2 (q + 1) e2) (q + 1) (if true = true then ins (xs.take (k + 1)) x else xs.take (k + 1))) := by
          rw [if_pos rfl] at R5 ⊢
          rw [E] at R5
          exact R5
        have HD2 : Hid ((true = true → ∃ j, j < k + 1 ∧ x ≤ gi xs j) ∧ (true = false → ∀ j, j < k + 1 → gi xs j < x)) := ⟨fun _ => ⟨j, by omega, hxj⟩, fun e => by cases e⟩
        have K6 := Kr.trans K5
        clear HR hap R5 K5 hi hz0 hz1 hz2 HD E ht hrt hgt hxj
        generalize gi xs k = y at *
        go_wp2_with (at_builtin; refine wpList_append_run rfl (.tmp 34) (.tmp 39) 25 rfl _ _ _ _ rfl rfl HA.out ?_)
        go_roundw
        case rel => exact ⟨k + 1, q + 1, e2, C2, true, by omega, by go_num, rfl, rfl, HD2, HR2, K6⟩
        case measure => simp [intOf]; omega
      | false =>
        have hb := HD.out.2 rfl
        have hqk : q = k := by
          have h1 := HR.out.len
          rw [if_neg (by simp), List.length_take] at h1
          omega
        subst hqk
        by_cases h1 : gi xs q < x
        · obtain ⟨C2, e2, w5, hap, R5, K5⟩ := run_app1 (P := Tryd.prog) (x := gi xs q) Tryd.underlying25 hi hz0 hz1 (by omega) HR.out (by omega) Kr.size 25
          have HA := Lib.hid hap
          have HR2 : Hid (Ri .i64 3 w5 w.heap.size (.slice C2 (q + 1) e2) (q + 1) (if false = true then ins (xs.take (q + 1)) x else xs.take (q + 1))) := by
            rw [if_neg (by simp)] at R5 ⊢
            rw [ht.out]
            exact R5
          have HD2 : Hid ((false = true → ∃ j, j < q + 1 ∧ x ≤ gi xs j) ∧ (false = false → ∀ j, j < q + 1 → gi xs j < x)) := ⟨(fun e => by cases e), fun _ j hj => by
            rcases Nat.lt_or_ge j q with g | g
            · exact hb j g
            · obtain rfl : j = q := by omega
              exact h1⟩
          have K6 := Kr.trans K5
          have e1 : decide (x ≤ gi xs q) = false := by simpa using h1
          clear HR hap R5 K5 hi hz0 hz1 hz2 HD ht hrt h1 hb
          generalize gi xs q = y at *
          go_wp2_with (at_builtin; refine wpList_append_run rfl (.tmp 34) (.tmp 39) 25 rfl _ _ _ _ rfl rfl HA.out ?_)
          go_roundw
          case rel => exact ⟨q + 1, q + 1, e2, C2, false, by omega, by go_num, rfl, rfl, HD2, HR2, K6⟩
          case measure => simp [intOf]; omega
        · have e1 : decide (x ≤ gi xs q) = true := by simp; omega
          have HD2 : Hid ((true = true → ∃ j, j < q + 1 ∧ x ≤ gi xs j) ∧ (true = false → ∀ j, j < q + 1 → gi xs j < x)) := ⟨fun _ => ⟨q, by omega, by omega⟩, fun e => by cases e⟩
          by_cases h2 : gi xs q = x
          · obtain ⟨C2, e2, w5, hap, R5, K5⟩ := run_app1 (P := Tryd.prog) (x := gi xs q) Tryd.underlying25 hi hz0 hz1 (by omega) HR.out (by omega) Kr.size 25
            have HA := Lib.hid hap
            have HR2 : Hid (Ri .i64 3 w5 w.heap.size (.slice C2 (q + 1) e2) (q + 1) (if true = true then ins (xs.take (q + 1)) x else xs.take (q + 1))) := by
              rw [if_pos rfl, ins_in hrt.out (hasB_iff.2 ((mem_take_gi (by omega)).2 ⟨q, by omega, h2⟩)), ht.out]
              rw [if_neg (by simp)] at R5
              exact R5
            have K6 := Kr.trans K5
            have e3 : decide (x < gi xs q) = false := by simp; omega
            clear HR hap R5 K5 hi hz0 hz1 hz2 HD ht hrt h1 h2 hb
            generalize gi xs q = y at *
            go_wp2_with (at_builtin; refine wpList_append_run rfl (.tmp 34) (.tmp 39) 25 rfl _ _ _ _ rfl rfl HA.out ?_)
            go_roundw
            case rel => exact ⟨q + 1, q + 1, e2, C2, true, by omega, by go_num, rfl, rfl, HD2, HR2, K6⟩
            case measure => simp [intOf]; omega
          · obtain ⟨C1, d1, w4, hap1, R4, K4⟩ := run_app1 (P := Tryd.prog) (x := x) Tryd.underlying25 hi hz0 hz1 (by omega) HR.out (by omega) Kr.size 25
            have K45 := Kr.trans K4
            obtain ⟨C2, e2, w5, hap, R5, K5⟩ := run_app1 (P := Tryd.prog) (x := gi xs q) Tryd.underlying25 hi hz0 hz1 (by omega) R4 (by omega) K45.size 25
            have HA1 := Lib.hid hap1
            have HA := Lib.hid hap
            have HR2 : Hid (Ri .i64 3 w5 w.heap.size (.slice C2 (q + 1 + 1) e2) (q + 1 + 1) (if true = true then ins (xs.take (q + 1)) x else xs.take (q + 1))) := by
              have hrq := hrt.out
              rw [if_pos rfl, ht.out]
              rw [ht.out] at hrq
              rw [if_neg (by simp)] at R5
              rw [← ins_snoc hrq (by omega), ← ins_last (ris_snoc hrq).1 fun z hz => by obtain ⟨j, hj, rfl⟩ := (mem_take_gi (by omega)).1 hz; exact hb j hj]
              exact R5
            have K6 := K45.trans K5
            have e3 : decide (x < gi xs q) = true := by simp; omega
            have hc4 := (h.below K45).here hlt
            clear HR hap hap1 R4 R5 K4 K5 K45 hi hz0 hz1 hz2 HD ht hrt h1 h2 hb
            generalize gi xs q = y at *
            go_wp2_with (first
              | (at_builtin; refine wpList_append_run rfl (.tmp 30) (.tmp 32) 25 rfl _ _ _ _ rfl rfl HA1.out ?_)
              | (at_builtin; refine wpList_append_run rfl (.tmp 34) (.tmp 39) 25 rfl _ _ _ _ rfl rfl HA.out ?_))
            go_roundw
            case rel => exact ⟨q + 1, q + 1 + 1, e2, C2, true, by omega, by go_num, rfl, rfl, HD2, HR2, K6⟩
            case measure => simp [intOf]; omega
    · obtain rfl : k = n := by omega
      have HR2 := HR.out
      rw [List.take_of_length_le (by omega)] at HR2
      cases dn with
      | true =>
        rw [if_pos rfl] at HR2
        have I := Lib.hid HR2.is
        clear HR HR2 HD
        go_wp2
        go_ret
        exact ⟨_, _, _, rfl, I.out, Kr⟩
      | false =>
        rw [if_neg (by simp)] at HR2
        obtain rfl : q = k := HR2.len.symm.trans hl
        obtain ⟨i0, hi, hz0, hz1, hz2⟩ := info_parts int_info
        obtain ⟨C2, e2, w5, hap, R5, K5⟩ := run_app1 (P := Tryd.prog) (x := x) Tryd.underlying25 hi hz0 hz1 (by omega) HR2 (by omega) Kr.size 25
        rw [ins_last hr.out fun z hz => by obtain ⟨j, hj, rfl⟩ := mem_gi.1 hz; exact HD.out.2 rfl j (by omega)] at R5
        have HA := Lib.hid hap
        have I := Lib.hid R5.is
        have K6 := Kr.trans K5
        clear HR HR2 HD hap R5 K5 hi hz0 hz1 hz2
        go_wp2_with (at_builtin; refine wpList_append_run rfl (.tmp 43) (.tmp 45) 25 rfl _ _ _ _ rfl rfl HA.out ?_)
        go_ret
        exact ⟨_, _, _, rfl, I.out, K6⟩
end
section
variable {w : World} {lo lo2 a M : Nat} {p sh wo qu tr : Int} {A B : Option Addr} {n c m d : Nat} {zs xs : List Int}
set_option maxHeartbeats 1000000 in
theorem raddrs9_new (hs : IS .i64 lo w B m d xs) (hm : m < 65536) (hx : ∀ x ∈ xs, 0 ≤ x ∧ x ≤ 65536) :
    Calls Tryd.prog 36 #[.agg #[.int .u32 a, .int .i64 p, .slice A n c, .int .i64 sh, .int .i64 wo, .int .i64 qu, .int .i64 tr], .slice B m d] w (RetF .u32 (ads a xs) w) := by
  have hl := hs.len
  replace hx := Lib.hid hx
  have K := below_alloc w (.cells #[.int .u32 a, .int .i64 p, .slice A n c, .int .i64 sh, .int .i64 wo, .int .i64 qu, .int .i64 tr] 27)
  have H := Bk.new w #[.int .u32 a, .int .i64 p, .slice A n c, .int .i64 sh, .int .i64 wo, .int .i64 qu, .int .i64 tr] 27
  replace hs := hs.below K
  go_enter Tryd.func36, Tryd.ntmps36
  go_upto_region 1 with (fail)
  generalize w.alloc (.cells #[.int .u32 a, .int .i64 p, .slice A n c, .int .i64 sh, .int .i64 wo, .int .i64 qu, .int .i64 tr] 27) = w2 at H K hs ⊢
  generalize w.heap.size = g at H ⊢
  go_wp2
  go_loopw [5, 6] (fun s i wr => ∃ (k e : Nat) (C : Option Addr), k ≤ m ∧ i = .int .i64 k ∧ s = .slice C k e ∧ Hid (Ri .u32 22 wr w2.heap.size (.slice C k e) k (ads a (xs.take k))) ∧ Below w2.heap.size w2 wr) (fun _ i _ => m - (intOf i).toNat)
  case atStart => exact ⟨0, 0, none, Nat.zero_le _, rfl, rfl, Lib.hid (Ri.nil _ _), Below.refl _ _⟩
  case round =>
    obtain ⟨k, e, C, hk, rfl, rfl, HR, Kr⟩ := hrel
    by_cases hlt : k < m
    · have hxk := hx.out _ (gi_mem (xs := xs) (j := k) (by omega))
      obtain ⟨o, ho⟩ : ∃ o : Nat, gi xs k = (o : Int) := ⟨(gi xs k).toNat, by omega⟩
      have ho2 : o ≤ 65536 := by omega
      obtain ⟨v, hv⟩ : ∃ v : Nat, v = (a + o) % 4294967296 := ⟨_, rfl⟩
      have E : ads a (xs.take (k + 1)) = ads a (xs.take k) ++ [(v : Int)] := by
        unfold ads
        rw [take_gi (by omega), List.map_append, ho, hv]
        rfl
      obtain ⟨b, oo, rfl, _, _⟩ := hs.get hlt
      obtain ⟨i0, hi, hz0, hz1, hz2⟩ := info_parts u32_info
      have Kd := (Below.refl wr.heap.size wr).drew
      obtain ⟨C2, e2, w5, hap, R5, K5⟩ := run_app1 (P := Tryd.prog) (x := (v : Int)) Tryd.underlying28 hi hz0 hz1 (by omega) (HR.out.below Kd) (by omega) (Nat.le_trans Kr.size Kd.size) 28
      have HA := Lib.hid hap
      rw [← E] at R5
      have HR2 := Lib.hid R5
      have K6 : Below w2.heap.size w2 w5 := (Kr.drew).trans K5
      have e1 : IntKind.u32.wrap ((a : Int) + (o : Int)) = (v : Int) := by rw [IntKind.wrap_u32, hv]; omega
      have e2 : IntKind.u32.wrap (o : Int) = (o : Int) := by rw [IntKind.wrap_u32]; omega
      replace ho := Lib.hid ho
      clear HR hap R5 K5 hi hz0 hz1 hz2 E hv hxk Kd
      go_upto_region 5 with (fail)
      refine wp_region_held_drew (S := fun w' => Below w2.heap.size w2 w') (by kernel_rfl) Kr.drew (fun hHeld => ?_)
      refine wpAnyH_take (i := 0) (oi := ⟨some 13, _, _, _, _, _⟩) (v := ?_) rfl (by kernel_rfl) (by kernel_rfl) (by kernel_rfl) (fun _ _ _ h => h) (Or.inl ⟨by rfl, ?_⟩) hHeld ?_
      rotate_left
      · intro ww hSw
        try dsimp only at hSw
        go_simp
        try with_reducible rfl
        try omega
      try simp only [Act.put, List.setIfInBounds_toArray, List.set_cons_zero, List.set_cons_succ]
      refine wpAnyH_take (i := 1) (oi := ⟨some 14, _, _, _, _, _⟩) (v := ?_) rfl (by kernel_rfl) (by kernel_rfl) (by kernel_rfl) (fun _ _ _ h => h) (Or.inl ⟨by rfl, ?_⟩) hHeld ?_
      rotate_left
      · intro ww hSw
        try dsimp only at hSw
        go_simp
        try with_reducible rfl
        try omega
      try simp only [Act.put, List.setIfInBounds_toArray, List.set_cons_zero, List.set_cons_succ]
      refine wpAnyH_take (i := 2) (oi := ⟨some 15, _, _, _, _, _⟩) (v := ?_) rfl (by kernel_rfl) (by kernel_rfl) (by kernel_rfl) (fun _ _ _ h => h) (Or.inl ⟨by rfl, ?_⟩) hHeld ?_
      rotate_left
      · intro ww hSw
        try dsimp only at hSw
        go_simp
        try with_reducible rfl
        try omega
      try simp only [Act.put, List.setIfInBounds_toArray, List.set_cons_zero, List.set_cons_succ]
      refine wpAnyH_take (i := 3) (oi := ⟨some 16, _, _, _, _, _⟩) (v := ?_) rfl (by kernel_rfl) (by kernel_rfl) (by kernel_rfl) (fun _ _ _ h => h) (Or.inl ⟨by rfl, ?_⟩) hHeld ?_
      rotate_left
      · intro ww hSw
        try dsimp only at hSw
        have H_0 := (H.below hSw).at_ (v := .int .u32 a) 0 rfl
        have H_1 := (H.below hSw).at_ (v := .int .i64 p) 1 rfl
        have H_2 := (H.below hSw).at_ (v := .slice A n c) 2 rfl
        have H_3 := (H.below hSw).at_ (v := .int .i64 sh) 3 rfl
        have H_4 := (H.below hSw).at_ (v := .int .i64 wo) 4 rfl
        have H_5 := (H.below hSw).at_ (v := .int .i64 qu) 5 rfl
        have H_6 := (H.below hSw).at_ (v := .int .i64 tr) 6 rfl
        have hc := (hs.below hSw).here hlt
        rw [ho.out] at hc
        go_simp
        try with_reducible rfl
        try omega
      try simp only [Act.put, List.setIfInBounds_toArray, List.set_cons_zero, List.set_cons_succ]
      refine wpAnyH_take (i := 4) (oi := ⟨some 17, _, _, _, _, _⟩) (v := ?_) rfl (by kernel_rfl) (by kernel_rfl) (by kernel_rfl) (fun _ _ _ h => h) (Or.inl ⟨by rfl, ?_⟩) hHeld ?_
      rotate_left
      · intro ww hSw
        try dsimp only at hSw
        go_simp
        try with_reducible rfl
        try omega
      try simp only [Act.put, List.setIfInBounds_toArray, List.set_cons_zero, List.set_cons_succ]
      refine wpAnyH_take (i := 5) (oi := ⟨some 18, _, _, _, _, _⟩) (v := ?_) rfl (by kernel_rfl) (by kernel_rfl) (by kernel_rfl) (fun _ _ _ h => h) (Or.inl ⟨by rfl, ?_⟩) hHeld ?_
      rotate_left
      · intro ww hSw
        try dsimp only at hSw
        go_simp
        try with_reducible rfl
        try omega
      try simp only [Act.put, List.setIfInBounds_toArray, List.set_cons_zero, List.set_cons_succ]
      refine wpAnyH_take (i := 6) (oi := ⟨some 19, _, _, _, _, _⟩) (v := ?_) rfl (by kernel_rfl) (by kernel_rfl) (by kernel_rfl) (fun _ _ _ h => h) (Or.inl ⟨by rfl, ?_⟩) hHeld ?_
      rotate_left
      · intro ww hSw
        try dsimp only at hSw
        go_simp
        try with_reducible rfl
        try omega
      try simp only [Act.put, List.setIfInBounds_toArray, List.set_cons_zero, List.set_cons_succ]
      refine wpAnyH_take (i := 7) (oi := ⟨some 20, _, _, _, _, _⟩) (v := ?_) rfl (by kernel_rfl) (by kernel_rfl) (by kernel_rfl) (fun _ _ _ h => h) (Or.inl ⟨by rfl, ?_⟩) hHeld ?_
      rotate_left
      · intro ww hSw
        try dsimp only at hSw
        have H_0 := (H.below hSw).at_ (v := .int .u32 a) 0 rfl
        have H_1 := (H.below hSw).at_ (v := .int .i64 p) 1 rfl
        have H_2 := (H.below hSw).at_ (v := .slice A n c) 2 rfl
        have H_3 := (H.below hSw).at_ (v := .int .i64 sh) 3 rfl
        have H_4 := (H.below hSw).at_ (v := .int .i64 wo) 4 rfl
        have H_5 := (H.below hSw).at_ (v := .int .i64 qu) 5 rfl
        have H_6 := (H.below hSw).at_ (v := .int .i64 tr) 6 rfl
        have hc := (hs.below hSw).here hlt
        rw [ho.out] at hc
        go_simp
        try with_reducible rfl
        try omega
      try simp only [Act.put, List.setIfInBounds_toArray, List.set_cons_zero, List.set_cons_succ]
      refine wpAnyH_take (i := 8) (oi := ⟨some 21, _, _, _, _, _⟩) (v := .int .u32 (o : Int)) rfl (by kernel_rfl) (by kernel_rfl) (by kernel_rfl) (fun _ _ _ h => h) (Or.inl ⟨by rfl, ?_⟩) hHeld ?_
      · intro ww hSw
        try dsimp only at hSw
        go_simp
        try with_reducible rfl
        try omega
      try simp only [Act.put, List.setIfInBounds_toArray, List.set_cons_zero, List.set_cons_succ]
      refine wpAnyH_take (i := 9) (oi := ⟨some 22, _, _, _, _, _⟩) (v := .int .u32 (v : Int)) rfl (by kernel_rfl) (by kernel_rfl) (by kernel_rfl) (fun _ _ _ h => h) (Or.inl ⟨by rfl, ?_⟩) hHeld ?_
      · intro ww hSw
        try dsimp only at hSw
        go_simp
        try with_reducible rfl
        try omega
      try simp only [Act.put, List.setIfInBounds_toArray, List.set_cons_zero, List.set_cons_succ]
      refine wpAnyH_ready (rs := [10]) (by kernel_rfl) (by simp) ?_
      refine AllReadyH.cons (o := ⟨some 23, _, _, _, _, _⟩) rfl (fun K0 hK => ?_) AllReadyH.nil
      go_simp
      refine hK.out _ _ (Below.then_ hHeld (below_alloc _ _)) (fun hHeld' => ?_)
      clear hHeld hK K0
      have hHeld := hHeld'
      clear hHeld'
      try simp only [Act.put, List.setIfInBounds_toArray, List.set_cons_zero, List.set_cons_succ]
      refine wpAnyH_ready (rs := [11]) (by kernel_rfl) (by simp) ?_
      refine AllReadyH.cons (o := ⟨some 24, _, _, _, _, _⟩) rfl (fun K0 hK => ?_) AllReadyH.nil
      rw [if_pos (by rfl)]
      refine oper_append_run (.tmp 13) (.tmp 23) 28 rfl _ _ _ _ rfl rfl HA.out ?_
      refine hK.out _ _ K6 (fun hHeld' => ?_)
      clear hHeld hK K0
      have hHeld := hHeld'
      clear hHeld'
      try simp only [Act.put, List.setIfInBounds_toArray, List.set_cons_zero, List.set_cons_succ]
      refine wpAnyH_take (i := 12) (oi := ⟨some 5, _, _, _, _, _⟩) (v := ?_) rfl (by kernel_rfl) (by kernel_rfl) (by kernel_rfl) (fun _ _ _ h => h) (Or.inl ⟨by rfl, ?_⟩) hHeld ?_
      rotate_left
      · intro ww hSw
        try dsimp only at hSw
        go_simp
        try with_reducible rfl
        try omega
      try simp only [Act.put, List.setIfInBounds_toArray, List.set_cons_zero, List.set_cons_succ]
      refine wpAnyH_done (by kernel_rfl) ?_ _
      clear hHeld HA
      go_wp2
      go_roundw
      case rel => exact ⟨k + 1, _, C2, by omega, by go_num, rfl, HR2, K6⟩
      case measure => simp [intOf]; omega
    · obtain rfl : k = m := by omega
      have R := HR.out
      rw [List.take_of_length_le (by omega)] at R
      have I := Lib.hid (R.is.lower K.size)
      replace K := Below.then_ K Kr
      clear HR R
      go_wp2
      go_ret
      exact ⟨_, _, _, rfl, I.out, K⟩
end
end Go.Proofs.YtmakbmmnjbnfiaaDoor
