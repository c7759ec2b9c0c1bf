/-
  The anchor of the statements of word answers true, in every world: the answers that the document fixes are given; no conditions.
-/
import Derived.Test.YtbipjdmaoofggaaWordRcells
namespace Go.Proofs.Ytbipjdmaoofggaa
open Go.RowKit
theorem a_first (w : World) : Calls Try.prog 9 #[.int .u64 4294967282] w fun e w' => e = .returned (.tuple #[.int .i64 0, .bool true]) ∧ w = w' := by
  have r0 : fi 4294967282 32 = 0 := by decide +kernel
  have r1 : fb 4294967282 32 = true := by decide +kernel
  have := wfirst_any 4294967282 (by decide) w
  rw [r0, r1] at this
  exact this
theorem a_claim (w : World) : Calls Try.prog 14 #[.int .u64 4294967282, .int .i64 0] w fun e w' => e = .returned (.int .u64 8589934579) ∧ w = w' := by
  have r0 : clm 4294967282 0 = 8589934579 := by decide +kernel
  have := claim_any 4294967282 0 (by decide) (by decide) w
  rw [r0] at this
  exact this
theorem a_drop (w : World) : Calls Try.prog 16 #[.int .u64 8589934579, .int .i64 0] w fun e w' => e = .returned (.int .u64 12884901874) ∧ w = w' := by
  have r0 : drp 8589934579 0 = 12884901874 := by decide +kernel
  have := drop_any 8589934579 0 (by decide) (by decide) w
  rw [r0] at this
  exact this
theorem a_changes (w : World) : Calls Try.prog 13 #[.int .u64 12884901874] w fun e w' => e = .returned (.int .u32 2) ∧ w = w' := by
  have r0 : cg 12884901874 = 2 := by decide +kernel
  have := changes_any 12884901874 (by decide) w
  rw [r0] at this
  exact this
theorem a_used1 (w : World) : Calls Try.prog 11 #[.int .u64 8589934579, .int .i64 0] w fun e w' => e = .returned (.bool true) ∧ w = w' := by
  have r0 : Nat.testBit 8589934579 0 = true := by decide +kernel
  have := used_any 8589934579 0 (by decide) (by decide) w
  rw [r0] at this
  exact this
theorem a_used2 (w : World) : Calls Try.prog 11 #[.int .u64 12884901874, .int .i64 0] w fun e w' => e = .returned (.bool false) ∧ w = w' := by
  have r0 : Nat.testBit 12884901874 0 = false := by decide +kernel
  have := used_any 12884901874 0 (by decide) (by decide) w
  rw [r0] at this
  exact this
theorem a_full1 (w : World) : Calls Try.prog 18 #[.int .u64 8589934579] w fun e w' => e = .returned (.bool false) ∧ w = w' := by
  have r0 : fl 8589934579 = false := by decide +kernel
  have := full_any 8589934579 (by decide) w
  rw [r0] at this
  exact this
theorem a_full2 (w : World) : Calls Try.prog 18 #[.int .u64 4294967295] w fun e w' => e = .returned (.bool true) ∧ w = w' := by
  have r0 : fl 4294967295 = true := by decide +kernel
  have := full_any 4294967295 (by decide) w
  rw [r0] at this
  exact this
theorem a_much : Much 0 30 4 := ⟨by decide +kernel, by decide +kernel⟩
theorem a_new {w : World} {A : Option Addr} (h : IS .i64 0 w A 1 1 [1]) : Calls Try.prog 23 #[.agg #[.int .u32 0, .int .i64 30, .slice A 1 1, .int .i64 1, .int .i64 1, .int .i64 1, .int .i64 1], .int .i64 0] w fun e w' => e = .returned (.int .u64 4294967282) ∧ Below w.heap.size w w' := by
  have r0 : nw 4 [1] 0 = 4294967282 := by decide +kernel
  have := wnew_any (l := 0) (a := 0) (p := 30) (M := 4) (sh := 1) (wo := 1) (qu := 1) (tr := 1) (by decide) a_much h (by decide) (by decide +kernel) (by decide)
  rw [r0] at this
  exact this
theorem a_cells {w : World} {A : Option Addr} (h : IS .i64 0 w A 1 1 [1]) : Calls Try.prog 26 #[.agg #[.int .u32 0, .int .i64 30, .slice A 1 1, .int .i64 1, .int .i64 1, .int .i64 1, .int .i64 1]] w (RetS 3 [4294967282, 18446744073709551614, 18446744073709551614] w) := by
  have r0 : cl (nw 4 [1]) (lv 4) (tv 4) (lv 4) = [4294967282, 18446744073709551614, 18446744073709551614] := by decide +kernel
  have r1 : lv 4 + tv 4 + 1 = 3 := by decide +kernel
  have := wcells_any (a := 0) (p := 30) (M := 4) (sh := 1) (wo := 1) (qu := 1) (tr := 1) (by decide) a_much h (by decide) (by decide +kernel)
  rw [r0, r1] at this
  exact this
set_option maxRecDepth 100000 in
set_option maxHeartbeats 1000000 in
theorem awake_any (w : World) : Calls Try.prog 8 #[] w fun e w' => e = .returned (.bool true) ∧ Below w.heap.size w w' := by
  have K := Below.refl w.heap.size w
  go_enter Try.func8, Try.ntmps8
  go_wp2_with fail
  replace K := Below.then_ K (below_alloc _ (.cells #[.int .i64 1] 3))
  have Hs := Bk.new (w) #[.int .i64 1] 3
  replace Hs := Hs.alloc (.cells #[.int .u32 0, .int .i64 30, .slice (some ⟨w.heap.size, 0, none⟩) 1 1, .int .i64 1, .int .i64 1, .int .i64 1, .int .i64 1] 36)
  replace K := Below.then_ K (below_alloc _ (.cells #[.int .u32 0, .int .i64 30, .slice (some ⟨w.heap.size, 0, none⟩) 1 1, .int .i64 1, .int .i64 1, .int .i64 1, .int .i64 1] 36))
  have Hc := Bk.new ((w).alloc (.cells #[.int .i64 1] 3)) #[.int .u32 0, .int .i64 30, .slice (some ⟨w.heap.size, 0, none⟩) 1 1, .int .i64 1, .int .i64 1, .int .i64 1, .int .i64 1] 36
  try simp only [World.size_alloc] at Hs Hc
  generalize ((w).alloc (.cells #[.int .i64 1] 3)).alloc (.cells #[.int .u32 0, .int .i64 30, .slice (some ⟨w.heap.size, 0, none⟩) 1 1, .int .i64 1, .int .i64 1, .int .i64 1, .int .i64 1] 36) = w1 at Hs Hc K ⊢
  generalize w.heap.size + 1 = gHc at Hs Hc ⊢
  generalize w.heap.size = gHs at Hs Hc ⊢
  have I : IS .i64 0 w1 (some ⟨gHs, 0, none⟩) 1 1 [1] := ⟨rfl, by omega, by unfold maxLen; omega, (fun h => by cases h), fun _ => ⟨gHs, 0, rfl, Nat.zero_le _, Hs.lt, fun j hj => by
    match j, hj with
    | 0, _ => exact Hs.at_ 0 rfl⟩⟩
  clear Hs
  refine (a_new I).mono ?_
  rintro e w2 ⟨rfl, K'⟩
  replace Hc := Hc.below K'
  replace I := I.below K'
  replace K := Below.then_ K K'
  clear K'
  have Hc_0 := Hc.at_ (v := .int .u32 0) 0 rfl
  have Hc_1 := Hc.at_ (v := .int .i64 30) 1 rfl
  have Hc_2 := Hc.at_ (v := .slice (some ⟨gHs, 0, none⟩) 1 1) 2 rfl
  have Hc_3 := Hc.at_ (v := .int .i64 1) 3 rfl
  have Hc_4 := Hc.at_ (v := .int .i64 1) 4 rfl
  have Hc_5 := Hc.at_ (v := .int .i64 1) 5 rfl
  have Hc_6 := Hc.at_ (v := .int .i64 1) 6 rfl
  have Hc_z := Hc.lt
  go_wp2_with (first
    | ((with_reducible refine (a_first _).mono ?_); rintro e w' ⟨rfl, rfl⟩)
    | ((with_reducible refine (a_claim _).mono ?_); rintro e w' ⟨rfl, rfl⟩)
    | ((with_reducible refine (a_drop _).mono ?_); rintro e w' ⟨rfl, rfl⟩)
    | ((with_reducible refine (a_changes _).mono ?_); rintro e w' ⟨rfl, rfl⟩)
    | ((with_reducible refine (a_used1 _).mono ?_); rintro e w' ⟨rfl, rfl⟩)
    | ((with_reducible refine (a_used2 _).mono ?_); rintro e w' ⟨rfl, rfl⟩)
    | ((with_reducible refine (a_full1 _).mono ?_); rintro e w' ⟨rfl, rfl⟩)
    | ((with_reducible refine (a_full2 _).mono ?_); rintro e w' ⟨rfl, rfl⟩))
  clear Hc_0 Hc_1 Hc_2 Hc_3 Hc_4 Hc_5 Hc_6 Hc_z
  refine (a_cells I).mono ?_
  rintro e w3 ⟨A, c, rfl, U3, K'⟩
  replace Hc := Hc.below K'
  replace I := I.below K'
  replace K := Below.then_ K K'
  clear K'
  have B4 : Blk (w3.alloc (.cells #[.int .u64 4294967282, .int .u64 18446744073709551614, .int .u64 18446744073709551614] 22)) w3.heap.size 22 [4294967282, 18446744073709551614, 18446744073709551614] := Bk.new w3 _ _
  have U4 := B4.us (n := 3) (by intro x hx; simp at hx; rcases hx with rfl | rfl | rfl <;> decide) rfl (by decide)
  have U5 := U3.below (below_alloc w3 (.cells #[.int .u64 4294967282, .int .u64 18446744073709551614, .int .u64 18446744073709551614] 22))
  replace K := Below.then_ K (below_alloc w3 (.cells #[.int .u64 4294967282, .int .u64 18446744073709551614, .int .u64 18446744073709551614] 22))
  have SM := Lib.hid (same_any U5 U4 (by decide))
  clear B4 U3
  go_wp2_with fail
  refine (SM.out).mono ?_
  rintro e w5 ⟨rfl, K'⟩
  replace K := Below.then_ K K'
  clear K'
  go_wp2
  go_ret
  exact ⟨rfl, K⟩
end Go.Proofs.Ytbipjdmaoofggaa
