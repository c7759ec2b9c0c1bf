/-
  The names of requests, the program's and the document's: a list in memory of the call's own; whether a request has few; nothing that was there is otherwise. Conditions: at most 60000 addresses.
-/
import Derived.Test.YtmakbmmnjbnfiaaDoorAskLib
namespace Go.Proofs.YtmakbmmnjbnfiaaDoor
open Go.RowKit
/-- A list of addresses in memory of the call's own is answered. -/
def RetR (l : List Int) (w : World) (e : Ending) (w' : World) : Prop := ∃ A n c, e = .returned (.slice A n c) ∧ Ri .u32 22 w' w.heap.size (.slice A n c) n l ∧ Below w.heap.size w w'
theorem known_yes {k : Int} (h : 1 ≤ k ∧ k ≤ 7) (w : World) : Calls Tryd.prog 45 #[.int .i64 k] w fun e w' => e = .returned (.bool true) ∧ w' = w := by
  have := known_any k w; rwa [decide_eq_true h] at this
theorem known_no {k : Int} (h : ¬ (1 ≤ k ∧ k ≤ 7)) (w : World) : Calls Tryd.prog 45 #[.int .i64 k] w fun e w' => e = .returned (.bool false) ∧ w' = w := by
  have := known_any k w; rwa [decide_eq_false h] at this
section
variable {w : World} {lo m d : Nat} {k : Int} {x : Int} {B : Option Addr} {ys : List Int}
theorem Ri.one {base : Nat} {w : World} (hb : base ≤ w.heap.size) (x : Int) : Ri .u32 22 (w.alloc (.cells #[.int .u32 x] 22)) base (.slice (some ⟨w.heap.size, 0, none⟩) 1 1) 1 [x] :=
  World.ownsRow_lit w #[.int .u32 x] 1 hb (by unfold maxLen; omega) rfl
theorem Ri.none_ {base : Nat} (w : World) : Ri .u32 22 w base (.slice none 0 0) 0 [] := World.ownsRow_nil w base _ 1
set_option maxHeartbeats 1000000 in
theorem names_any (hL : Laid w) (h : IS .u32 lo w B m d ys) (hm : m ≤ 60000) :
    Calls Tryd.prog 48 #[.agg #[.int .i64 k, .int .u32 x, .slice B m d]] w (RetR (nmI k x ys) w) := by
  have K := below_alloc w (.cells #[.int .i64 k, .int .u32 x, .slice B m d] 30)
  have H := Bk.new w #[.int .i64 k, .int .u32 x, .slice B m d] 30
  replace hL := hL.below K
  replace h := h.below K
  have hl := h.len
  go_enter Tryd.func48, Tryd.ntmps48
  go_upto_region 1 with (fail)
  generalize w.alloc (.cells #[.int .i64 k, .int .u32 x, .slice B m d] 30) = w1 at H K hL h ⊢
  generalize w.heap.size = g at H ⊢
  have KS := K.size
  have H_0 := H.at_ (v := .int .i64 k) 0 rfl
  have H_1 := H.at_ (v := .int .u32 x) 1 rfl
  have H_2 := H.at_ (v := .slice B m d) 2 rfl
  have H_z := H.lt
  by_cases hk : 1 ≤ k ∧ k ≤ 7
  · have T := known_yes hk w1
    by_cases h1 : k = 2 ∨ k = 3 ∨ k = 5
    · have N := Lib.hid (nmI_one (x := x) (ys := ys) h1)
      clear hk
      have L2 : w1.cell? ⟨0, 2, none⟩ = some (.bool true) := hL.2 2 (by omega)
      have L3 : w1.cell? ⟨0, 3, none⟩ = some (.bool true) := hL.2 3 (by omega)
      have L5 : w1.cell? ⟨0, 5, none⟩ = some (.bool true) := hL.2 5 (by omega)
      rcases h1 with rfl | rfl | rfl
      all_goals
        go_wp2_with fail
        refine T.mono ?_
        rintro e ww ⟨rfl, rfl⟩
        go_wp2
        go_ret
        rw [N.out]
        exact ⟨_, _, _, rfl, Ri.one KS x, Below.then_ K (below_alloc _ _)⟩
    · by_cases h4 : k = 4
      · subst h4
        rw [nmI_all]
        have L4 : w1.cell? ⟨0, 4, none⟩ = some (.bool false) := hL.2 4 (by omega)
        obtain ⟨i0, hi, hz0, hz1, hz2⟩ := info_parts u32_info
        obtain ⟨B1, b1, wq, hap, R1, K1⟩ := run_app (P := Tryd.prog) Tryd.underlying28 hi hz0 hz1 (by omega) (Ri.none_ (base := w.heap.size) w1) h (by omega) KS 28
        rw [Nat.zero_add] at hap R1
        rw [List.nil_append] at R1
        have HA := Lib.hid hap
        clear hap hi hz0 hz1 hz2
        go_wp2_with fail
        refine T.mono ?_
        rintro e ww ⟨rfl, rfl⟩
        go_wp2_with (first | (at_builtin; refine wpList_append_run rfl (.const (.slice none 0 0)) (.tmp 21) 28 rfl _ _ _ _ rfl rfl HA.out ?_))
        go_ret
        exact ⟨_, _, _, rfl, R1, K.trans K1⟩
      · have N := Lib.hid (nmI_none (x := x) (ys := ys) h1 h4)
        have L1 : w1.cell? ⟨0, 1, none⟩ = some (.bool false) := hL.2 1 (by omega)
        have L6 : w1.cell? ⟨0, 6, none⟩ = some (.bool false) := hL.2 6 (by omega)
        have L7 : w1.cell? ⟨0, 7, none⟩ = some (.bool false) := hL.2 7 (by omega)
        obtain rfl | rfl | rfl : k = 1 ∨ k = 6 ∨ k = 7 := by omega
        all_goals
          clear h1 h4 hk
          go_wp2_with fail
          refine T.mono ?_
          rintro e ww ⟨rfl, rfl⟩
          go_wp2
          go_ret
          rw [N.out]
          exact ⟨_, _, _, rfl, Ri.none_ _, K⟩
  · have T := known_no hk w1
    have N := Lib.hid (nmI_none (k := k) (x := x) (ys := ys) (by omega) (by omega))
    clear hk
    go_wp2_with fail
    refine T.mono ?_
    rintro e ww ⟨rfl, rfl⟩
    go_wp2
    go_ret
    rw [N.out]
    exact ⟨_, _, _, rfl, Ri.none_ _, K⟩
set_option maxHeartbeats 1000000 in
theorem rnames_any (h : IS .u32 lo w B m d ys) (hm : m ≤ 60000) :
    Calls Tryd.prog 42 #[.agg #[.int .i64 k, .int .u32 x, .slice B m d]] w (RetR (nmI k x ys) w) := by
  have K := below_alloc w (.cells #[.int .i64 k, .int .u32 x, .slice B m d] 30)
  have H := Bk.new w #[.int .i64 k, .int .u32 x, .slice B m d] 30
  replace h := h.below K
  have hl := h.len
  go_enter Tryd.func42, Tryd.ntmps42
  go_upto_region 1 with (fail)
  generalize w.alloc (.cells #[.int .i64 k, .int .u32 x, .slice B m d] 30) = w1 at H K h ⊢
  generalize w.heap.size = g at H ⊢
  have KS := K.size
  have H_0 := H.at_ (v := .int .i64 k) 0 rfl
  have H_1 := H.at_ (v := .int .u32 x) 1 rfl
  have H_2 := H.at_ (v := .slice B m d) 2 rfl
  have H_z := H.lt
  by_cases h1 : k = 2 ∨ k = 3 ∨ k = 5
  · have N := Lib.hid (nmI_one (x := x) (ys := ys) h1)
    rcases h1 with rfl | rfl | rfl
    all_goals
      go_wp2
      go_ret
      rw [N.out]
      exact ⟨_, _, _, rfl, Ri.one KS x, Below.then_ K (below_alloc _ _)⟩
  · by_cases h4 : k = 4
    · subst h4
      rw [nmI_all]
      obtain ⟨i0, hi, hz0, hz1, hz2⟩ := info_parts u32_info
      have hown : Ri .u32 22 (w1.alloc (.cells #[] 22)) w.heap.size (.slice (some ⟨w1.heap.size, 0, none⟩) 0 0) 0 [] := World.ownsRow_lit w1 #[] 0 KS (by unfold maxLen; omega) rfl
      have Ka := below_alloc w1 (.cells #[] 22)
      obtain ⟨B1, b1, wq, hap, R1, K1⟩ := run_app (P := Tryd.prog) Tryd.underlying28 hi hz0 hz1 (by omega) hown (h.below Ka) (by omega) (Nat.le_trans KS Ka.size) 28
      rw [Nat.zero_add] at hap R1
      rw [List.nil_append] at R1
      have HA := Lib.hid hap
      clear hap hi hz0 hz1 hz2 hown
      go_wp2_with (first | (at_builtin; refine wpList_append_run rfl (.tmp 22) (.tmp 24) 28 rfl _ _ _ _ rfl rfl HA.out ?_))
      go_ret
      exact ⟨_, _, _, rfl, R1, (Below.then_ K Ka).trans K1⟩
    · have N := Lib.hid (nmI_none (x := x) (ys := ys) h1 h4)
      have e2 : (k == 2) = false := by simp; omega
      have e3 : (k == 3) = false := by simp; omega
      have e5 : (k == 5) = false := by simp; omega
      have e4 : (k == 4) = false := by simp; omega
      clear h1 h4
      go_wp2
      go_ret
      rw [N.out]
      exact ⟨_, _, _, rfl, Ri.none_ _, K⟩
theorem few_any (h : IS .u32 lo w B m d ys) :
    Calls Tryd.prog 11 #[.agg #[.int .i64 k, .int .u32 x, .slice B m d]] w (RetBo (decide (m ≤ 100)) w) := by
  have K := below_alloc w (.cells #[.int .i64 k, .int .u32 x, .slice B m d] 30)
  have H := Bk.new w #[.int .i64 k, .int .u32 x, .slice B m d] 30
  have hc := h.cap
  have hm := h.most
  go_enter Tryd.func11, Tryd.ntmps11
  go_upto_region 1 with (fail)
  generalize w.alloc (.cells #[.int .i64 k, .int .u32 x, .slice B m d] 30) = w1 at H K ⊢
  generalize w.heap.size = g at H ⊢
  have H_2 := H.at_ (v := .slice B m d) 2 rfl
  have H_z := H.lt
  go_wp2
  go_ret
  exact ⟨ret_bool (by simp; omega), K⟩
theorem few_yes (h : IS .u32 lo w B m d ys) (hf : m ≤ 100) :
    Calls Tryd.prog 11 #[.agg #[.int .i64 k, .int .u32 x, .slice B m d]] w (RetBo true w) := by
  have := few_any (k := k) (x := x) h; rwa [decide_eq_true hf] at this
theorem few_no (h : IS .u32 lo w B m d ys) (hf : ¬ m ≤ 100) :
    Calls Tryd.prog 11 #[.agg #[.int .i64 k, .int .u32 x, .slice B m d]] w (RetBo false w) := by
  have := few_any (k := k) (x := x) h; rwa [decide_eq_false hf] at this
end
end Go.Proofs.YtmakbmmnjbnfiaaDoor

