/-
  What the document's own sets answer (Rises, Has, With, Without, Ints, Addrs held against one another): the same as the program's; nothing that was there is otherwise. Conditions: at most 65535 numbers.
-/
import Derived.Test.YtmakbmmnjbnfiaaDoorModelAddrs
namespace Go.Proofs.YtmakbmmnjbnfiaaDoor
open Go.RowKit
section
variable {w : World} {lo lo' : Nat} {A A' : Option Addr} {n n' c c' : Nat} {xs : List Int}
theorem ints_same (h : IS .i64 lo w A n c xs) (h' : IS .i64 lo' w A' n' c' xs) (hn : n ≤ 65536) :
    Calls Tryd.prog 17 #[.slice A n c, .slice A' n' c'] w (RetBo true w) := by
  obtain rfl : n = n' := h.len.symm.trans h'.len
  have e0 : ((n : Int) != (n : Int)) = false := by simp
  go_enter Tryd.func17, Tryd.ntmps17
  go_wp2
  go_loopw [5] (fun i wr => ∃ k : Nat, k ≤ n ∧ i = .int .i64 k ∧ Below w.heap.size w wr) (fun i _ => n - (intOf i).toNat)
  case atStart => exact ⟨0, Nat.zero_le _, rfl, Below.refl _ _⟩
  case round =>
    obtain ⟨k, hk, rfl, Kr⟩ := hrel
    by_cases hlt : k < n
    · obtain ⟨b, o, rfl, _, hc⟩ := (h.below Kr).get hlt
      obtain ⟨b', o', rfl, _, hc'⟩ := (h'.below Kr).get hlt
      have e1 : (gi xs k != gi xs k) = false := by simp
      go_wp2
      go_quiet (fail)
      go_wp2
      go_roundw
      case rel => exact ⟨k + 1, by omega, by go_num, below_drewN Kr _⟩
      case measure => simp [intOf]; omega
    · go_wp2
      go_ret
      exact ⟨rfl, Kr⟩
theorem addrs_same (h : IS .u32 lo w A n c xs) (h' : IS .u32 lo' w A' n' c' xs) (hn : n ≤ 65536) :
    Calls Tryd.prog 39 #[.slice A n c, .slice A' n' c'] w (RetBo true w) := by
  obtain rfl : n = n' := h.len.symm.trans h'.len
  have e0 : ((n : Int) != (n : Int)) = false := by simp
  go_enter Tryd.func39, Tryd.ntmps39
  go_wp2
  go_loopw [5] (fun i wr => ∃ k : Nat, k ≤ n ∧ i = .int .i64 k ∧ Below w.heap.size w wr) (fun i _ => n - (intOf i).toNat)
  case atStart => exact ⟨0, Nat.zero_le _, rfl, Below.refl _ _⟩
  case round =>
    obtain ⟨k, hk, rfl, Kr⟩ := hrel
    by_cases hlt : k < n
    · obtain ⟨b, o, rfl, _, hc⟩ := (h.below Kr).get hlt
      obtain ⟨b', o', rfl, _, hc'⟩ := (h'.below Kr).get hlt
      have e1 : (gi xs k != gi xs k) = false := by simp
      go_wp2
      go_quiet (fail)
      go_wp2
      go_roundw
      case rel => exact ⟨k + 1, by omega, by go_num, below_drewN Kr _⟩
      case measure => simp [intOf]; omega
    · go_wp2
      go_ret
      exact ⟨rfl, Kr⟩
theorem ris_step {xs : List Int} (h : ∀ i, i + 1 < xs.length → gi xs i < gi xs (i + 1)) : Ris xs := by
  have key : ∀ j i, i < j → j < xs.length → gi xs i < gi xs j := by
    intro j
    induction j with
    | zero => intro i hi; omega
    | succ j ih =>
      intro i hi hj
      have h1 := h j hj
      rcases Nat.lt_or_ge i j with g | g
      · have := ih i g (by omega); omega
      · obtain rfl : i = j := by omega
        exact h1
  refine List.pairwise_iff_getElem.2 fun i j hi hj hij => ?_
  have := key j i hij hj
  rwa [gi_at hi, gi_at hj] at this
theorem rhas9_any (h : IS .i64 lo w A n c xs) (hn : n ≤ 65536) (x : Int) :
    Calls Tryd.prog 21 #[.slice A n c, .int .i64 x] w fun e w' => e = .returned (.bool (hasB xs x)) ∧ w = w' := by
  have hl := h.len
  go_enter Tryd.func21, Tryd.ntmps21
  go_wp2
  go_loop [5] (fun i => ∃ k : Nat, k ≤ n ∧ i = .int .i64 k ∧ Hid (∀ j, j < k → gi xs j ≠ x)) (fun i => n - (intOf i).toNat)
  case atStart => exact ⟨0, Nat.zero_le _, rfl, fun j hj => by omega⟩
  case round =>
    obtain ⟨k, hk, rfl, HH⟩ := hrel
    by_cases hlt : k < n
    · obtain ⟨b, o, rfl, _, hc⟩ := h.get hlt
      by_cases he : gi xs k = x
      · have e1 : (gi xs k == x) = true := by simp [he]
        have hx : hasB xs x = true := decide_eq_true (mem_gi.2 ⟨k, by omega, he⟩)
        clear he
        go_wp2
        go_ret
        exact ⟨by first | rfl | exact ret_bool hx.symm, rfl⟩
      · have e1 : (gi xs k == x) = false := by simpa using he
        have H2 : Hid (∀ j, j < k + 1 → gi xs j ≠ x) := fun j hj => by
          rcases Nat.lt_or_ge j k with g | g
          · exact HH.out j g
          · obtain rfl : j = k := by omega
            exact he
        clear he
        go_wp2
        go_round
        case rel => exact ⟨k + 1, by omega, by go_num, H2⟩
        case measure => simp [intOf]; omega
    · have hx : hasB xs x = false := decide_eq_false (fun g => by
        obtain ⟨j, hj, e⟩ := mem_gi.1 g
        exact HH.out j (by omega) e)
      go_wp2
      go_ret
      exact ⟨by first | rfl | exact ret_bool hx.symm, rfl⟩
theorem IS.here {k : IntKind} {b o : Nat} (h : IS k lo w (some ⟨b, o, none⟩) n c xs) {j : Nat} (hj : j < n) : w.cell? ⟨b, o + j, none⟩ = some (.int k (gi xs j)) := by
  obtain ⟨b', o', e, _, hc⟩ := h.get hj
  injection e with e
  injection e with e1 e2
  subst e1 e2
  exact hc
theorem ris_take (h : Ris xs) (k : Nat) : Ris (xs.take k) := List.Pairwise.sublist (List.take_sublist _ _) h
theorem ris_snoc {l : List Int} {y : Int} (h : Ris (l ++ [y])) : Ris l ∧ ∀ z ∈ l, z < y := by
  obtain ⟨h1, _, h3⟩ := List.pairwise_append.1 h
  exact ⟨h1, fun z hz => h3 z hz y (by simp)⟩
theorem ins_snoc {l : List Int} {x y : Int} (h : Ris (l ++ [y])) (hx : x < y) : ins l x ++ [y] = ins (l ++ [y]) x := by
  obtain ⟨h1, h2⟩ := ris_snoc h
  refine Ris.ext (Ris.two (h1.ins x) (List.pairwise_singleton _ _) fun z hz b hb => ?_) (h.ins x) fun z => ?_
  · have : b = y := by simpa using hb
    subst this
    rcases mem_ins.1 hz with rfl | hz
    · exact hx
    · exact h2 z hz
  · rw [List.mem_append, mem_ins, mem_ins, List.mem_append, or_assoc]
theorem ins_last {l : List Int} {x : Int} (h : Ris l) (hx : ∀ z ∈ l, z < x) : l ++ [x] = ins l x := by
  refine Ris.ext (Ris.two h (List.pairwise_singleton _ _) fun z hz b hb => ?_) (h.ins x) fun z => ?_
  · have : b = x := by simpa using hb
    subst this
    exact hx z hz
  · rw [List.mem_append, mem_ins]
    simp only [List.mem_singleton]
    exact Or.comm
theorem del_snoc (l : List Int) (x y : Int) : del (l ++ [y]) x = del l x ++ (if y = x then [] else [y]) := by
  unfold del
  rw [List.filter_append]
  by_cases h : y = x
  · simp [h]
  · simp [h]
theorem mem_take_gi {xs : List Int} {k : Nat} {z : Int} (hk : k ≤ xs.length) : z ∈ xs.take k ↔ ∃ j, j < k ∧ gi xs j = z := by
  constructor
  · intro h
    obtain ⟨j, hj, e⟩ := List.getElem_of_mem h
    rw [List.getElem_take] at e
    rw [List.length_take] at hj
    exact ⟨j, by omega, by rw [gi_at (by omega)]; exact e⟩
  · rintro ⟨j, hj, rfl⟩
    rw [gi_at (by omega)]
    exact List.mem_take_iff_getElem.2 ⟨j, by omega, rfl⟩
theorem rwithout_any (h : IS .i64 lo w A n c xs) (hn : n < 65536) (x : Int) :
    Calls Tryd.prog 35 #[.slice A n c, .int .i64 x] w (RetI .i64 (del xs x) w) := by
  have hl := h.len
  go_enter Tryd.func35, Tryd.ntmps35
  go_wp2
  go_loopw [5, 6] (fun s i wr => ∃ (k q e : Nat) (C : Option Addr), k ≤ n ∧ i = .int .i64 k ∧ s = .slice C q e ∧ Hid (Ri .i64 3 wr w.heap.size (.slice C q e) q (del (xs.take k) x)) ∧ Below w.heap.size w wr) (fun _ i _ => n - (intOf i).toNat)
  case atStart => exact ⟨0, 0, 0, none, Nat.zero_le _, rfl, rfl, Lib.hid (Ri.nil _ _), Below.refl _ _⟩
  case round =>
    obtain ⟨k, q, e, C, hk, rfl, rfl, HR, Kr⟩ := hrel
    by_cases hlt : k < n
    · obtain ⟨b, o, rfl, _, hc⟩ := (h.below Kr).get hlt
      have hq := len_del (xs.take k) x
      rw [HR.out.len, List.length_take] at hq
      have hq2 : q + 1 ≤ 65536 := by omega
      have ht := Lib.hid ((congrArg (fun l => del l x) (take_gi (xs := xs) (j := k) (by omega))).trans (del_snoc _ _ _))
      clear hq
      generalize gi xs k = y at *
      by_cases he : y = x
      · have e1 : (y != x) = false := by simp [he]
        have HR2 := HR.out
        rw [← (show del (xs.take (k + 1)) x = del (xs.take k) x by have := ht.out; rw [if_pos he, List.append_nil] at this; exact this)] at HR2
        replace HR2 := Lib.hid HR2
        clear he ht HR
        go_wp2
        go_roundw
        case rel => exact ⟨k + 1, q, e, C, by omega, by go_num, rfl, HR2, Kr⟩
        case measure => simp [intOf]; omega
      · have e1 : (y != x) = true := by simpa using he
        obtain ⟨i0, hi, hz0, hz1, hz2⟩ := info_parts int_info
        obtain ⟨C2, e2, w5, hap, R5, K5⟩ := run_app1 (P := Tryd.prog) (x := y) Tryd.underlying25 hi hz0 hz1 (by omega) HR.out hq2 Kr.size 25
        have HA := Lib.hid hap
        have HR2 := R5
        rw [← (show del (xs.take (k + 1)) x = del (xs.take k) x ++ [y] by have := ht.out; rw [if_neg he] at this; exact this)] at HR2
        replace HR2 := Lib.hid HR2
        have K6 := Kr.trans K5
        clear he ht HR hap R5 K5 hi hz0 hz1 hz2 hq2
        go_wp2_with (at_builtin; refine wpList_append_run rfl (.tmp 19) (.tmp 24) 25 rfl _ _ _ _ rfl rfl HA.out ?_)
        go_roundw
        case rel => exact ⟨k + 1, q + 1, e2, C2, by omega, by go_num, rfl, HR2, K6⟩
        case measure => simp [intOf]; omega
    · have HR2 := HR.out
      rw [List.take_of_length_le (by omega)] at HR2
      have I := Lib.hid ((HR2.is).lower (Nat.zero_le _))
      clear HR HR2
      go_wp2
      go_ret
      exact ⟨_, _, _, rfl, I.out, Kr⟩
set_option maxHeartbeats 1000000 in
theorem rwith_any (h : IS .i64 lo w A n c xs) (hn : n < 65536) (hr : Ris xs) (x : Int) :
    Calls Tryd.prog 23 #[.slice A n c, .int .i64 x] w (RetI .i64 (ins xs x) w) := by
  have hl := h.len
  replace hr := Lib.hid hr
  go_enter Tryd.func23, Tryd.ntmps23
  go_wp2
  go_loopw [5, 6, 7] (fun s dn i wr => ∃ (k q e : Nat) (C : Option Addr) (b : Bool), k ≤ n ∧ i = .int .i64 k ∧ s = .slice C q e ∧ dn = .bool b ∧ Hid ((b = true → ∃ j, j < k ∧ x ≤ gi xs j) ∧ (b = false → ∀ j, j < k → gi xs j < x)) ∧ Hid (Ri .i64 3 wr w.heap.size (.slice C q e) q (if b = true then ins (xs.take k) x else xs.take k)) ∧ Below w.heap.size w wr) (fun _ _ i _ => n - (intOf i).toNat)
  case atStart => exact ⟨0, 0, 0, none, false, Nat.zero_le _, rfl, rfl, rfl, ⟨(fun e => by cases e), fun _ j hj => by omega⟩, Lib.hid (Ri.nil _ _), Below.refl _ _⟩
  case round =>
    obtain ⟨k, q, e, C, dn, hk, rfl, rfl, rfl, HD, HR, Kr⟩ := hrel
    by_cases hlt : k < n
    · obtain ⟨b, o, rfl, _, hc⟩ := (h.below Kr).get hlt
      have ht := Lib.hid (take_gi (xs := xs) (j := k) (by omega))
      have hrt := Lib.hid (ris_take hr.out (k + 1))
      obtain ⟨i0, hi, hz0, hz1, hz2⟩ := info_parts int_info
      have hql : q ≤ k + 1 := by
        have h1 := HR.out.len
        have h2 := len_ins (xs := xs.take k) x
        rw [List.length_take] at h2
        split at h1
        · omega
        · rw [List.length_take] at h1; omega
      cases dn with
      | true =>
        obtain ⟨j, hj, hxj⟩ := HD.out.1 rfl
        have hgt : x < gi xs k := by have := hr.out.lt hj (by omega); omega
        obtain ⟨C2, e2, w5, hap, R5, K5⟩ := run_app1 (P := Tryd.prog) (x := gi xs k) Tryd.underlying25 hi hz0 hz1 (by omega) HR.out (by omega) Kr.size 25
        have HA := Lib.hid hap
        have E : ins (xs.take k) x ++ [gi xs k] = ins (xs.take (k + 1)) x := by
          have := hrt.out
          rw [ht.out] at this ⊢
          exact ins_snoc this hgt
        have HR2 : Hid (Ri .i64 3 w5 w.heap.size (.slice C2 (q + 1) e2) (q + 1) (if true = true then ins (xs.take (k + 1)) x else xs.take (k + 1))) := by
          rw [if_pos rfl] at R5 ⊢
          rw [E] at R5
          exact R5
        have HD2 : Hid ((true = true → ∃ j, j < k + 1 ∧ x ≤ gi xs j) ∧ (true = false → ∀ j, j < k + 1 → gi xs j < x)) := ⟨fun _ => ⟨j, by omega, hxj⟩, fun e => by cases e⟩
        have K6 := Kr.trans K5
        clear HR hap R5 K5 hi hz0 hz1 hz2 HD E ht hrt hgt hxj
        generalize gi xs k = y at *
        go_wp2_with (at_builtin; refine wpList_append_run rfl (.tmp 34) (.tmp 39) 25 rfl _ _ _ _ rfl rfl HA.out ?_)
        go_roundw
        case rel => exact ⟨k + 1, q + 1, e2, C2, true, by omega, by go_num, rfl, rfl, HD2, HR2, K6⟩
        case measure => simp [intOf]; omega
      | false =>
        have hb := HD.out.2 rfl
        have hqk : q = k := by
          have h1 := HR.out.len
          rw [if_neg (by simp), List.length_take] at h1
          omega
        subst hqk
        by_cases h1 : gi xs q < x
        · obtain ⟨C2, e2, w5, hap, R5, K5⟩ := run_app1 (P := Tryd.prog) (x := gi xs q) Tryd.underlying25 hi hz0 hz1 (by omega) HR.out (by omega) Kr.size 25
          have HA := Lib.hid hap
          have HR2 : Hid (Ri .i64 3 w5 w.heap.size (.slice C2 (q + 1) e2) (q + 1) (if false = true then ins (xs.take (q + 1)) x else xs.take (q + 1))) := by
            rw [if_neg (by simp)] at R5 ⊢
            rw [ht.out]
            exact R5
          have HD2 : Hid ((false = true → ∃ j, j < q + 1 ∧ x ≤ gi xs j) ∧ (false = false → ∀ j, j < q + 1 → gi xs j < x)) := ⟨(fun e => by cases e), fun _ j hj => by
            rcases Nat.lt_or_ge j q with g | g
            · exact hb j g
            · obtain rfl : j = q := by omega
              exact h1⟩
          have K6 := Kr.trans K5
          have e1 : decide (x ≤ gi xs q) = false := by simpa using h1
          clear HR hap R5 K5 hi hz0 hz1 hz2 HD ht hrt h1 hb
          generalize gi xs q = y at *
          go_wp2_with (at_builtin; refine wpList_append_run rfl (.tmp 34) (.tmp 39) 25 rfl _ _ _ _ rfl rfl HA.out ?_)
          go_roundw
          case rel => exact ⟨q + 1, q + 1, e2, C2, false, by omega, by go_num, rfl, rfl, HD2, HR2, K6⟩
          case measure => simp [intOf]; omega
        · have e1 : decide (x ≤ gi xs q) = true := by simp; omega
          have HD2 : Hid ((true = true → ∃ j, j < q + 1 ∧ x ≤ gi xs j) ∧ (true = false → ∀ j, j < q + 1 → gi xs j < x)) := ⟨fun _ => ⟨q, by omega, by omega⟩, fun e => by cases e⟩
          by_cases h2 : gi xs q = x
          · obtain ⟨C2, e2, w5, hap, R5, K5⟩ := run_app1 (P := Tryd.prog) (x := gi xs q) Tryd.underlying25 hi hz0 hz1 (by omega) HR.out (by omega) Kr.size 25
            have HA := Lib.hid hap
            have HR2 : Hid (Ri .i64 3 w5 w.heap.size (.slice C2 (q + 1) e2) (q + 1) (if true = true then ins (xs.take (q + 1)) x else xs.take (q + 1))) := by
              rw [if_pos rfl, ins_in hrt.out (hasB_iff.2 ((mem_take_gi (by omega)).2 ⟨q, by omega, h2⟩)), ht.out]
              rw [if_neg (by simp)] at R5
              exact R5
            have K6 := Kr.trans K5
            have e3 : decide (x < gi xs q) = false := by simp; omega
            clear HR hap R5 K5 hi hz0 hz1 hz2 HD ht hrt h1 h2 hb
            generalize gi xs q = y at *
            go_wp2_with (at_builtin; refine wpList_append_run rfl (.tmp 34) (.tmp 39) 25 rfl _ _ _ _ rfl rfl HA.out ?_)
            go_roundw
            case rel => exact ⟨q + 1, q + 1, e2, C2, true, by omega, by go_num, rfl, rfl, HD2, HR2, K6⟩
            case measure => simp [intOf]; omega
          · obtain ⟨C1, d1, w4, hap1, R4, K4⟩ := run_app1 (P := Tryd.prog) (x := x) Tryd.underlying25 hi hz0 hz1 (by omega) HR.out (by omega) Kr.size 25
            have K45 := Kr.trans K4
            obtain ⟨C2, e2, w5, hap, R5, K5⟩ := run_app1 (P := Tryd.prog) (x := gi xs q) Tryd.underlying25 hi hz0 hz1 (by omega) R4 (by omega) K45.size 25
            have HA1 := Lib.hid hap1
            have HA := Lib.hid hap
            have HR2 : Hid (Ri .i64 3 w5 w.heap.size (.slice C2 (q + 1 + 1) e2) (q + 1 + 1) (if true = true then ins (xs.take (q + 1)) x else xs.take (q + 1))) := by
              have hrq := hrt.out
              rw [if_pos rfl, ht.out]
              rw [ht.out] at hrq
              rw [if_neg (by simp)] at R5
              rw [← ins_snoc hrq (by omega), ← ins_last (ris_snoc hrq).1 fun z hz => by obtain ⟨j, hj, rfl⟩ := (mem_take_gi (by omega)).1 hz; exact hb j hj]
              exact R5
            have K6 := K45.trans K5
            have e3 : decide (x < gi xs q) = true := by simp; omega
            have hc4 := (h.below K45).here hlt
            clear HR hap hap1 R4 R5 K4 K5 K45 hi hz0 hz1 hz2 HD ht hrt h1 h2 hb
            generalize gi xs q = y at *
            go_wp2_with (first
              | (at_builtin; refine wpList_append_run rfl (.tmp 30) (.tmp 32) 25 rfl _ _ _ _ rfl rfl HA1.out ?_)
              | (at_builtin; refine wpList_append_run rfl (.tmp 34) (.tmp 39) 25 rfl _ _ _ _ rfl rfl HA.out ?_))
            go_roundw
            case rel => exact ⟨q + 1, q + 1 + 1, e2, C2, true, by omega, by go_num, rfl, rfl, HD2, HR2, K6⟩
            case measure => simp [intOf]; omega
    · obtain rfl : k = n := by omega
      have HR2 := HR.out
      rw [List.take_of_length_le (by omega)] at HR2
      cases dn with
      | true =>
        rw [if_pos rfl] at HR2
        have I := Lib.hid ((HR2.is).lower (Nat.zero_le _))
        clear HR HR2 HD
        go_wp2
        go_ret
        exact ⟨_, _, _, rfl, I.out, Kr⟩
      | false =>
        rw [if_neg (by simp)] at HR2
        obtain rfl : q = k := HR2.len.symm.trans hl
        obtain ⟨i0, hi, hz0, hz1, hz2⟩ := info_parts int_info
        obtain ⟨C2, e2, w5, hap, R5, K5⟩ := run_app1 (P := Tryd.prog) (x := x) Tryd.underlying25 hi hz0 hz1 (by omega) HR2 (by omega) Kr.size 25
        rw [ins_last hr.out fun z hz => by obtain ⟨j, hj, rfl⟩ := mem_gi.1 hz; exact HD.out.2 rfl j (by omega)] at R5
        have HA := Lib.hid hap
        have I := Lib.hid ((R5.is).lower (Nat.zero_le _))
        have K6 := Kr.trans K5
        clear HR HR2 HD hap R5 K5 hi hz0 hz1 hz2
        go_wp2_with (at_builtin; refine wpList_append_run rfl (.tmp 43) (.tmp 45) 25 rfl _ _ _ _ rfl rfl HA.out ?_)
        go_ret
        exact ⟨_, _, _, rfl, I.out, K6⟩
end
end Go.Proofs.YtmakbmmnjbnfiaaDoor

