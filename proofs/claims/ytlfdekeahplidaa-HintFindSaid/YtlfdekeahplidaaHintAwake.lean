/-
  The anchor of layer 8's laws answers true.
-/
import Derived.Test.YtlfdekeahplidaaHintStA
import Derived.Test.YtlfdekeahplidaaHintFind0
namespace Go.Proofs.Ytlfdekeahplidaa
open Go.RowKit
set_option linter.unusedVariables false
def aw0 : Nat := 4294967295
def awA : Nat := 18446744073709551614
def awB : Nat := 18446744073709551615
def awS0 : Sc := ⟨0, 0, 0, 0, false, 4, 0, 0, 0, 0, 0, true, 0, 0, 0, 0⟩
def awS1 : Sc := ⟨0, 0, 0, 0, false, 5, 0, 0, 0, 0, awA, true, 0, 0, 0, 0⟩
def awS2 : Sc := ⟨0, 0, 0, 0, false, 4, 0, 0, 0, 0, awB, true, 1, 0, 0, 0⟩
def awS3 : Sc := ⟨0, 0, 0, 0, false, 5, 0, 0, 0, 0, awA, true, 1, 0, 0, 0⟩
def awS4 : Sc := ⟨0, 0, 0, 0, false, 0, 0, 0, 0, 0, 0, false, 0, 0, 0, 0⟩
theorem much30 : Much 0 30 4 := ⟨by decide +kernel, by decide +kernel⟩
theorem awO0 : stO 0 4 0 [] [aw0, awA, awA] awS0 = awS1 := by kernel_rfl
theorem awC0 : stC 4 [aw0, awA, awA] awS0 = [aw0, awA, awA] := by kernel_rfl
theorem awO1 : stO 0 4 0 [] [aw0, awA, awA] awS1 = awS2 := by kernel_rfl
theorem awC1 : stC 4 [aw0, awA, awA] awS1 = [aw0, awB, awA] := by kernel_rfl
theorem awO2 : stO 0 4 0 [] [aw0, awB, awA] awS2 = awS3 := by kernel_rfl
theorem awC2 : stC 4 [aw0, awB, awA] awS2 = [aw0, awB, awA] := by kernel_rfl
theorem awO3 : stO 0 4 0 [] [aw0, awB, awA] awS3 = awS4 := by kernel_rfl
theorem awC3 : stC 4 [aw0, awB, awA] awS3 = [aw0, awB, awB] := by kernel_rfl
/-- A step of an operation that asks for nothing, in a block of one leaf. -/
def RetA (s : Sc) (ys : List Nat) (B0 : Option Addr) (w : World) (e : Ending) (w' : World) : Prop := ∃ A0 c0 A1 c1 A2 c2 A3 c3 B d, e = .returned (.tuple #[.slice B 3 d, .agg (opv ⟨A0, 0, c0, A1, 0, c1, A2, 0, c2, A3, 0, c3⟩ s)]) ∧ US w' B 3 d ys ∧ Lists w.heap.size w' ⟨A0, 0, c0, A1, 0, c1, A2, 0, c2, A3, 0, c3⟩ ⟨[], [], [], []⟩ ∧ (∀ k, k < w.heap.size → Apart k B0 → Apart k B) ∧ Below w.heap.size w w'
theorem US.rowA {w : World} {A : Option Addr} {n c : Nat} {xs : List Nat} (h : US w A n c xs) {k : Nat} (ap : Apart k A) (u : Array Value) : US (w.setRow k u) A n c xs :=
  h.keep (by simp) (fun b o e _ => setRow_other w k b u (ap b o e))
def awG : Sc := ⟨4, 0, 0, 0, false, 0, 0, 0, 0, 0, 0, true, 0, 0, 0, 0⟩
def awH : Sc := ⟨4, 0, 0, 0, false, 8, 0, 0, 0, 3, 0, false, 0, 0, 1, 0⟩
theorem awg : gon 0 2 [0, 3] awG = awH := by kernel_rfl
theorem awF1 (w : World) : Calls Try.prog 12 #[.int .u64 5, .int .i64 0, .int .i64 3] w fun e w' => e = .returned (.tuple #[.int .i64 1, .bool true]) ∧ w = w' := by
  have h := find_any 5 0 3 (by omega) (by omega) (by omega) w
  rw [show fi (fl_ 5 0) 3 = 1 by kernel_rfl, show fb (fl_ 5 0) 3 = true by kernel_rfl] at h
  exact h
theorem awF2 (w : World) : Calls Try.prog 12 #[.int .u64 5, .int .i64 2, .int .i64 3] w fun e w' => e = .returned (.tuple #[.int .i64 0, .bool false]) ∧ w = w' := by
  have h := find_any 5 2 3 (by omega) (by omega) (by omega) w
  rw [show fi (fl_ 5 2) 3 = 0 by kernel_rfl, show fb (fl_ 5 2) 3 = false by kernel_rfl] at h
  exact h
theorem awGo {w : World} {gA : Nat} (hA : Bk w gA 22 #[.int .u32 0, .int .u32 3]) :
    Calls Try.prog 15 #[.agg #[.int .u32 0, .int .i64 30, .slice none 0 0, .int .i64 1, .int .i64 1, .int .i64 1, .int .i64 1], .agg (opv ⟨some ⟨gA, 0, none⟩, 2, 2, none, 0, 0, none, 0, 0, none, 0, 0⟩ awG)] w (RetOwn ⟨some ⟨gA, 0, none⟩, 2, 2, none, 0, 0, none, 0, 0, none, 0, 0⟩ awH ⟨[0, 3], [], [], []⟩ w) := by
  have hI : IS .u32 0 w (some ⟨gA, 0, none⟩) 2 2 [0, 3] := ⟨rfl, Nat.le_refl _, by unfold maxLen; omega, (fun h => by cases h), fun _ => ⟨gA, 0, rfl, Nat.zero_le _, hA.lt, fun j hj => by
    match j, hj with
    | 0, _ => exact hA.at_ 0 rfl
    | 1, _ => exact hA.at_ 1 rfl⟩⟩
  have hin : InB 0 4 2 [0, 3] := fun i hi => by
    match i, hi with
    | 0, _ => exact ⟨0, rfl, by omega, by omega⟩
    | 1, _ => exact ⟨3, rfl, by omega, by omega⟩
  have h := goes_any (a := 0) (p := 30) (M := 4) (sh := 1) (wo := 1) (qu := 1) (tr := 1) (A := none) (n := 0) (c := 0) (h := ⟨some ⟨gA, 0, none⟩, 2, 2, none, 0, 0, none, 0, 0, none, 0, 0⟩) (s := awG) (l := ⟨[0, 3], [], [], []⟩) (lo2 := 0) (by omega) much30 (by show 2 ≤ 65536; omega) hI hin ⟨hI, IS.none_ _ _ _, IS.none_ _ _ _, IS.none_ _ _ _⟩ (by show 0 ≤ 65536; omega) (by show 0 ≤ 65536; omega) (by show 0 ≤ 65536; omega)
  rw [show gon 0 (Hd.n0 ⟨some ⟨gA, 0, none⟩, 2, 2, none, 0, 0, none, 0, 0, none, 0, 0⟩) [0, 3] awG = awH from awg] at h
  exact h
theorem awT0 {w : World} {lo : Nat} {B A0 A1 A2 A3 : Option Addr} {d c0 c1 c2 c3 : Nat} (U : US w B 3 d [aw0, awA, awA]) (L : Lists lo w ⟨A0, 0, c0, A1, 0, c1, A2, 0, c2, A3, 0, c3⟩ ⟨[], [], [], []⟩) :
    Calls Try.prog 17 #[.agg #[.int .u32 0, .int .i64 30, .slice none 0 0, .int .i64 1, .int .i64 1, .int .i64 1, .int .i64 1], .slice B 3 d, .agg (opv ⟨A0, 0, c0, A1, 0, c1, A2, 0, c2, A3, 0, c3⟩ awS0)] w (RetA awS1 [aw0, awA, awA] B w) := by
  have h := step_any (a := 0) (p := 30) (M := 4) (sh := 1) (wo := 1) (qu := 1) (tr := 1) (A := none) (n := 0) (c := 0) (h := ⟨A0, 0, c0, A1, 0, c1, A2, 0, c2, A3, 0, c3⟩) (s := awS0) (xs := []) (lf := 0) (by omega) much30 (by show 0 ≤ 65536; omega) L.i0 (fun i hi => absurd hi (by show ¬ i < 0; omega)) L (by show 0 ≤ 65536; omega) (by show 0 ≤ 65536; omega) (by show 0 ≤ 65536; omega) U (by decide +kernel) rfl (by decide +kernel) (by decide +kernel) (by decide +kernel) (by decide +kernel)
  refine Calls.mono h ?_
  rintro e w' ⟨A0', c0', A1', c1', A2', c2', A3', c3', B', d', he, hU, hL, hA, K⟩
  exact ⟨A0', c0', A1', c1', A2', c2', A3', c3', B', d', awO0 ▸ he, awC0 ▸ hU, hL, hA, K⟩
theorem awT1 {w : World} {lo : Nat} {B A0 A1 A2 A3 : Option Addr} {d c0 c1 c2 c3 : Nat} (U : US w B 3 d [aw0, awA, awA]) (L : Lists lo w ⟨A0, 0, c0, A1, 0, c1, A2, 0, c2, A3, 0, c3⟩ ⟨[], [], [], []⟩) :
    Calls Try.prog 17 #[.agg #[.int .u32 0, .int .i64 30, .slice none 0 0, .int .i64 1, .int .i64 1, .int .i64 1, .int .i64 1], .slice B 3 d, .agg (opv ⟨A0, 0, c0, A1, 0, c1, A2, 0, c2, A3, 0, c3⟩ awS1)] w (RetA awS2 [aw0, awB, awA] B w) := by
  have h := step_any (a := 0) (p := 30) (M := 4) (sh := 1) (wo := 1) (qu := 1) (tr := 1) (A := none) (n := 0) (c := 0) (h := ⟨A0, 0, c0, A1, 0, c1, A2, 0, c2, A3, 0, c3⟩) (s := awS1) (xs := []) (lf := 0) (by omega) much30 (by show 0 ≤ 65536; omega) L.i0 (fun i hi => absurd hi (by show ¬ i < 0; omega)) L (by show 0 ≤ 65536; omega) (by show 0 ≤ 65536; omega) (by show 0 ≤ 65536; omega) U (by decide +kernel) rfl (by decide +kernel) (by decide +kernel) (by decide +kernel) (by decide +kernel)
  refine Calls.mono h ?_
  rintro e w' ⟨A0', c0', A1', c1', A2', c2', A3', c3', B', d', he, hU, hL, hA, K⟩
  exact ⟨A0', c0', A1', c1', A2', c2', A3', c3', B', d', awO1 ▸ he, awC1 ▸ hU, hL, hA, K⟩
theorem awT2 {w : World} {lo : Nat} {B A0 A1 A2 A3 : Option Addr} {d c0 c1 c2 c3 : Nat} (U : US w B 3 d [aw0, awB, awA]) (L : Lists lo w ⟨A0, 0, c0, A1, 0, c1, A2, 0, c2, A3, 0, c3⟩ ⟨[], [], [], []⟩) :
    Calls Try.prog 17 #[.agg #[.int .u32 0, .int .i64 30, .slice none 0 0, .int .i64 1, .int .i64 1, .int .i64 1, .int .i64 1], .slice B 3 d, .agg (opv ⟨A0, 0, c0, A1, 0, c1, A2, 0, c2, A3, 0, c3⟩ awS2)] w (RetA awS3 [aw0, awB, awA] B w) := by
  have h := step_any (a := 0) (p := 30) (M := 4) (sh := 1) (wo := 1) (qu := 1) (tr := 1) (A := none) (n := 0) (c := 0) (h := ⟨A0, 0, c0, A1, 0, c1, A2, 0, c2, A3, 0, c3⟩) (s := awS2) (xs := []) (lf := 0) (by omega) much30 (by show 0 ≤ 65536; omega) L.i0 (fun i hi => absurd hi (by show ¬ i < 0; omega)) L (by show 0 ≤ 65536; omega) (by show 0 ≤ 65536; omega) (by show 0 ≤ 65536; omega) U (by decide +kernel) rfl (by decide +kernel) (by decide +kernel) (by decide +kernel) (by decide +kernel)
  refine Calls.mono h ?_
  rintro e w' ⟨A0', c0', A1', c1', A2', c2', A3', c3', B', d', he, hU, hL, hA, K⟩
  exact ⟨A0', c0', A1', c1', A2', c2', A3', c3', B', d', awO2 ▸ he, awC2 ▸ hU, hL, hA, K⟩
theorem awT3 {w : World} {lo : Nat} {B A0 A1 A2 A3 : Option Addr} {d c0 c1 c2 c3 : Nat} (U : US w B 3 d [aw0, awB, awA]) (L : Lists lo w ⟨A0, 0, c0, A1, 0, c1, A2, 0, c2, A3, 0, c3⟩ ⟨[], [], [], []⟩) :
    Calls Try.prog 17 #[.agg #[.int .u32 0, .int .i64 30, .slice none 0 0, .int .i64 1, .int .i64 1, .int .i64 1, .int .i64 1], .slice B 3 d, .agg (opv ⟨A0, 0, c0, A1, 0, c1, A2, 0, c2, A3, 0, c3⟩ awS3)] w (RetA awS4 [aw0, awB, awB] B w) := by
  have h := step_any (a := 0) (p := 30) (M := 4) (sh := 1) (wo := 1) (qu := 1) (tr := 1) (A := none) (n := 0) (c := 0) (h := ⟨A0, 0, c0, A1, 0, c1, A2, 0, c2, A3, 0, c3⟩) (s := awS3) (xs := []) (lf := 0) (by omega) much30 (by show 0 ≤ 65536; omega) L.i0 (fun i hi => absurd hi (by show ¬ i < 0; omega)) L (by show 0 ≤ 65536; omega) (by show 0 ≤ 65536; omega) (by show 0 ≤ 65536; omega) U (by decide +kernel) rfl (by decide +kernel) (by decide +kernel) (by decide +kernel) (by decide +kernel)
  refine Calls.mono h ?_
  rintro e w' ⟨A0', c0', A1', c1', A2', c2', A3', c3', B', d', he, hU, hL, hA, K⟩
  exact ⟨A0', c0', A1', c1', A2', c2', A3', c3', B', d', awO3 ▸ he, awC3 ▸ hU, hL, hA, K⟩
set_option maxRecDepth 100000 in
set_option maxHeartbeats 4000000 in
theorem awake_any (w : World) :
    Calls Try.prog 9 #[] w (RetBo true w) := by
  go_enter Try.func9, Try.ntmps9
  go_upto_region 2 with (refine wpList_store_row rfl 27 (.tmp 1) (.tmp 13) rfl _ _ rfl (show _ = Value.agg #[.int .u32 0, .int .i64 30, .slice none 0 0, .int .i64 1, .int .i64 1, .int .i64 1, .int .i64 1] from rfl) _ _ (Bk.new _ _ _) cf_sz rfl (by simp [Value.oneCell']) ?_)
  rw [World.setRow_alloc_new]
  have K := below_alloc w (.cells #[.int .u32 0, .int .i64 30, .slice none 0 0, .int .i64 1, .int .i64 1, .int .i64 1, .int .i64 1] 27)
  have H : Bk (World.alloc (w) (.cells #[.int .u32 0, .int .i64 30, .slice none 0 0, .int .i64 1, .int .i64 1, .int .i64 1, .int .i64 1] 27)) (World.heap (w)).size 27 (#[.int .u32 0, .int .i64 30, .slice none 0 0, .int .i64 1, .int .i64 1, .int .i64 1, .int .i64 1]) := Bk.new _ _ _
  try simp only [World.size_alloc] at H
  generalize (w).alloc (.cells #[.int .u32 0, .int .i64 30, .slice none 0 0, .int .i64 1, .int .i64 1, .int .i64 1, .int .i64 1] 27) = w1 at H K ⊢
  obtain ⟨gH, hgH⟩ : ∃ g, g = w.heap.size := ⟨_, rfl⟩
  rw [← hgH] at H ⊢
  have H_b : w.heap.size ≤ gH := by omega
  clear hgH
  have H_lt := H.lt
  have KS := K.size
  go_upto_region 3 with (fail)
  replace H := H.alloc (.cells #[.int .u64 4294967295, .int .u64 18446744073709551614, .int .u64 18446744073709551614] 36)
  replace K := Below.then_ K (below_alloc _ (.cells #[.int .u64 4294967295, .int .u64 18446744073709551614, .int .u64 18446744073709551614] 36))
  have Y : Bk (World.alloc (w1) (.cells #[.int .u64 4294967295, .int .u64 18446744073709551614, .int .u64 18446744073709551614] 36)) (World.heap (w1)).size 36 (#[.int .u64 4294967295, .int .u64 18446744073709551614, .int .u64 18446744073709551614]) := Bk.new _ _ _
  try simp only [World.size_alloc] at Y
  generalize (w1).alloc (.cells #[.int .u64 4294967295, .int .u64 18446744073709551614, .int .u64 18446744073709551614] 36) = w2 at H Y K ⊢
  obtain ⟨gY, hgY⟩ : ∃ g, g = w1.heap.size := ⟨_, rfl⟩
  rw [← hgY] at Y ⊢
  have Y_b : w.heap.size ≤ gY := by have := KS; omega
  have ne_H_Y : gH ≠ gY := by have := H_lt; omega
  clear hgY
  have Y_lt := Y.lt
  clear H_lt KS
  have H_lt := H.lt
  have KS := K.size
  go_upto_region 4 with (refine wpList_store_row rfl 38 (.tmp 3) (.tmp 15) rfl _ _ rfl (show _ = Value.agg (opv ⟨none, 0, 0, none, 0, 0, none, 0, 0, none, 0, 0⟩ awS0) from rfl) _ _ (Bk.new _ _ _) op_sz rfl (opv_one _ _) ?_)
  rw [World.setRow_alloc_new]
  replace H := H.alloc (.cells (opv ⟨none, 0, 0, none, 0, 0, none, 0, 0, none, 0, 0⟩ awS0) 38)
  replace Y := Y.alloc (.cells (opv ⟨none, 0, 0, none, 0, 0, none, 0, 0, none, 0, 0⟩ awS0) 38)
  replace K := Below.then_ K (below_alloc _ (.cells (opv ⟨none, 0, 0, none, 0, 0, none, 0, 0, none, 0, 0⟩ awS0) 38))
  have O : Bk (World.alloc (w2) (.cells (opv ⟨none, 0, 0, none, 0, 0, none, 0, 0, none, 0, 0⟩ awS0) 38)) (World.heap (w2)).size 38 (opv ⟨none, 0, 0, none, 0, 0, none, 0, 0, none, 0, 0⟩ awS0) := Bk.new _ _ _
  try simp only [World.size_alloc] at O
  generalize (w2).alloc (.cells (opv ⟨none, 0, 0, none, 0, 0, none, 0, 0, none, 0, 0⟩ awS0) 38) = w3 at H Y O K ⊢
  obtain ⟨gO, hgO⟩ : ∃ g, g = w2.heap.size := ⟨_, rfl⟩
  rw [← hgO] at O ⊢
  have O_b : w.heap.size ≤ gO := by have := KS; omega
  have ne_H_O : gH ≠ gO := by have := H_lt; omega
  have ne_Y_O : gY ≠ gO := by have := Y_lt; omega
  clear hgO
  clear H_lt Y_lt KS
  have U : US w3 (some ⟨gY, 0, none⟩) 3 3 [aw0, awA, awA] := Blk.us (show Blk w3 gY 36 [aw0, awA, awA] from Y) (by decide +kernel) rfl (by omega)
  have AP : Apart gO (some ⟨gY, 0, none⟩) := fun b o e => by cases e; exact ne_Y_O
  have L : Lists 0 w3 ⟨none, 0, 0, none, 0, 0, none, 0, 0, none, 0, 0⟩ ⟨[], [], [], []⟩ := Lists.hd0 _
  clear Y ne_H_Y ne_Y_O Y_b
  go_wp2
  refine wp_loop_rounds 5 ?_
  rw [rounds_succ]
  have O_8 := O.at_ (v := .int .i64 4) 8 rfl
  have O_z := O.lt
  go_wp2_with (first | (refine wpList_load_row rfl 27 (.tmp 1) rfl gH rfl _ _ (0, 0) _ H Try.underlying27 rfl cf_sz ?_) | (refine wpList_load_row rfl 38 (.tmp 3) rfl gO rfl _ _ (0, 0) _ O Try.underlying38 rfl op_sz ?_))
  refine (awT0 U L).mono ?_
  clear O_8
  rintro e w4 ⟨A00, c00, A10, c10, A20, c20, A30, c30, B0, d0, rfl, U', L', hA, K'⟩
  replace AP := hA gO O_z AP
  clear U L hA
  replace H := H.below K'
  replace O := O.below K'
  replace K := Below.then_ K K'
  clear K'
  go_wp2_with (refine wpList_store_row rfl 38 (.tmp 3) (.tmp 32) rfl gO _ rfl rfl _ _ O op_sz rfl (opv_one _ _) ?_)
  have U := U'.rowA AP (opv ⟨A00, 0, c00, A10, 0, c10, A20, 0, c20, A30, 0, c30⟩ awS1)
  have L := L'.set_row O_z (opv ⟨A00, 0, c00, A10, 0, c10, A20, 0, c20, A30, 0, c30⟩ awS1)
  clear U' L' O_z
  replace H := H.row_far ne_H_O (opv ⟨A00, 0, c00, A10, 0, c10, A20, 0, c20, A30, 0, c30⟩ awS1)
  replace O := O.row (opv ⟨A00, 0, c00, A10, 0, c10, A20, 0, c20, A30, 0, c30⟩ awS1)
  replace K := below_setRow K O_b (opv ⟨A00, 0, c00, A10, 0, c10, A20, 0, c20, A30, 0, c30⟩ awS1)
  generalize w4.setRow gO (opv ⟨A00, 0, c00, A10, 0, c10, A20, 0, c20, A30, 0, c30⟩ awS1) = w5 at H O U L K ⊢
  rw [rounds_succ]
  have O_8 := O.at_ (v := .int .i64 5) 8 rfl
  have O_z := O.lt
  go_wp2_with (first | (refine wpList_load_row rfl 27 (.tmp 1) rfl gH rfl _ _ (0, 0) _ H Try.underlying27 rfl cf_sz ?_) | (refine wpList_load_row rfl 38 (.tmp 3) rfl gO rfl _ _ (0, 0) _ O Try.underlying38 rfl op_sz ?_))
  refine (awT1 U L).mono ?_
  clear O_8
  rintro e w6 ⟨A01, c01, A11, c11, A21, c21, A31, c31, B1, d1, rfl, U', L', hA, K'⟩
  replace AP := hA gO O_z AP
  clear U L hA
  replace H := H.below K'
  replace O := O.below K'
  replace K := Below.then_ K K'
  clear K'
  go_wp2_with (refine wpList_store_row rfl 38 (.tmp 3) (.tmp 32) rfl gO _ rfl rfl _ _ O op_sz rfl (opv_one _ _) ?_)
  have U := U'.rowA AP (opv ⟨A01, 0, c01, A11, 0, c11, A21, 0, c21, A31, 0, c31⟩ awS2)
  have L := L'.set_row O_z (opv ⟨A01, 0, c01, A11, 0, c11, A21, 0, c21, A31, 0, c31⟩ awS2)
  clear U' L' O_z
  replace H := H.row_far ne_H_O (opv ⟨A01, 0, c01, A11, 0, c11, A21, 0, c21, A31, 0, c31⟩ awS2)
  replace O := O.row (opv ⟨A01, 0, c01, A11, 0, c11, A21, 0, c21, A31, 0, c31⟩ awS2)
  replace K := below_setRow K O_b (opv ⟨A01, 0, c01, A11, 0, c11, A21, 0, c21, A31, 0, c31⟩ awS2)
  generalize w6.setRow gO (opv ⟨A01, 0, c01, A11, 0, c11, A21, 0, c21, A31, 0, c31⟩ awS2) = w7 at H O U L K ⊢
  rw [rounds_succ]
  have O_8 := O.at_ (v := .int .i64 4) 8 rfl
  have O_z := O.lt
  go_wp2_with (first | (refine wpList_load_row rfl 27 (.tmp 1) rfl gH rfl _ _ (0, 0) _ H Try.underlying27 rfl cf_sz ?_) | (refine wpList_load_row rfl 38 (.tmp 3) rfl gO rfl _ _ (0, 0) _ O Try.underlying38 rfl op_sz ?_))
  refine (awT2 U L).mono ?_
  clear O_8
  rintro e w8 ⟨A02, c02, A12, c12, A22, c22, A32, c32, B2, d2, rfl, U', L', hA, K'⟩
  replace AP := hA gO O_z AP
  clear U L hA
  replace H := H.below K'
  replace O := O.below K'
  replace K := Below.then_ K K'
  clear K'
  go_wp2_with (refine wpList_store_row rfl 38 (.tmp 3) (.tmp 32) rfl gO _ rfl rfl _ _ O op_sz rfl (opv_one _ _) ?_)
  have U := U'.rowA AP (opv ⟨A02, 0, c02, A12, 0, c12, A22, 0, c22, A32, 0, c32⟩ awS3)
  have L := L'.set_row O_z (opv ⟨A02, 0, c02, A12, 0, c12, A22, 0, c22, A32, 0, c32⟩ awS3)
  clear U' L' O_z
  replace H := H.row_far ne_H_O (opv ⟨A02, 0, c02, A12, 0, c12, A22, 0, c22, A32, 0, c32⟩ awS3)
  replace O := O.row (opv ⟨A02, 0, c02, A12, 0, c12, A22, 0, c22, A32, 0, c32⟩ awS3)
  replace K := below_setRow K O_b (opv ⟨A02, 0, c02, A12, 0, c12, A22, 0, c22, A32, 0, c32⟩ awS3)
  generalize w8.setRow gO (opv ⟨A02, 0, c02, A12, 0, c12, A22, 0, c22, A32, 0, c32⟩ awS3) = w9 at H O U L K ⊢
  rw [rounds_succ]
  have O_8 := O.at_ (v := .int .i64 5) 8 rfl
  have O_z := O.lt
  go_wp2_with (first | (refine wpList_load_row rfl 27 (.tmp 1) rfl gH rfl _ _ (0, 0) _ H Try.underlying27 rfl cf_sz ?_) | (refine wpList_load_row rfl 38 (.tmp 3) rfl gO rfl _ _ (0, 0) _ O Try.underlying38 rfl op_sz ?_))
  refine (awT3 U L).mono ?_
  clear O_8
  rintro e w10 ⟨A03, c03, A13, c13, A23, c23, A33, c33, B3, d3, rfl, U', L', hA, K'⟩
  replace AP := hA gO O_z AP
  clear U L hA
  replace H := H.below K'
  replace O := O.below K'
  replace K := Below.then_ K K'
  clear K'
  go_wp2_with (refine wpList_store_row rfl 38 (.tmp 3) (.tmp 32) rfl gO _ rfl rfl _ _ O op_sz rfl (opv_one _ _) ?_)
  have U := U'.rowA AP (opv ⟨A03, 0, c03, A13, 0, c13, A23, 0, c23, A33, 0, c33⟩ awS4)
  have L := L'.set_row O_z (opv ⟨A03, 0, c03, A13, 0, c13, A23, 0, c23, A33, 0, c33⟩ awS4)
  clear U' L' O_z
  replace H := H.row_far ne_H_O (opv ⟨A03, 0, c03, A13, 0, c13, A23, 0, c23, A33, 0, c33⟩ awS4)
  replace O := O.row (opv ⟨A03, 0, c03, A13, 0, c13, A23, 0, c23, A33, 0, c33⟩ awS4)
  replace K := below_setRow K O_b (opv ⟨A03, 0, c03, A13, 0, c13, A23, 0, c23, A33, 0, c33⟩ awS4)
  generalize w10.setRow gO (opv ⟨A03, 0, c03, A13, 0, c13, A23, 0, c23, A33, 0, c33⟩ awS4) = w11 at H O U L K ⊢
  rw [rounds_succ]
  have O_8 := O.at_ (v := .int .i64 0) 8 rfl
  have O_z := O.lt
  go_upto_region 13 with (first | ((with_reducible refine (awF1 _).mono ?_); rintro e w' ⟨rfl, rfl⟩) | ((with_reducible refine (awF2 _).mono ?_); rintro e w' ⟨rfl, rfl⟩))
  clear O_8 O_z
  have H_lt := H.lt
  have O_lt := O.lt
  have KS := K.size
  go_wp2_with (refine wpList_load_row rfl 27 (.tmp 1) rfl gH rfl _ _ (0, 0) _ H Try.underlying27 rfl cf_sz ?_)
  replace H := H.alloc (.cells #[.int .u32 0, .int .u32 3] 22)
  replace O := O.alloc (.cells #[.int .u32 0, .int .u32 3] 22)
  replace U := U.below (below_alloc _ (.cells #[.int .u32 0, .int .u32 3] 22))
  replace K := Below.then_ K (below_alloc _ (.cells #[.int .u32 0, .int .u32 3] 22))
  have Q : Bk (World.alloc (w11) (.cells #[.int .u32 0, .int .u32 3] 22)) (World.heap (w11)).size 22 (#[.int .u32 0, .int .u32 3]) := Bk.new _ _ _
  try simp only [World.size_alloc] at Q
  generalize (w11).alloc (.cells #[.int .u32 0, .int .u32 3] 22) = w12 at H O Q U K ⊢
  obtain ⟨gQ, hgQ⟩ : ∃ g, g = w11.heap.size := ⟨_, rfl⟩
  rw [← hgQ] at Q ⊢
  have Q_b : w.heap.size ≤ gQ := by have := KS; omega
  have ne_H_Q : gH ≠ gQ := by have := H_lt; omega
  have ne_O_Q : gO ≠ gQ := by have := O_lt; omega
  clear hgQ
  refine (awGo Q).mono ?_
  rintro e w13 ⟨A0, c0, A1, c1, A2, c2, A3, c3, rfl, L', K'⟩
  clear L'
  replace H := H.below K'
  replace O := O.below K'
  replace Q := Q.below K'
  replace U := U.below K'
  replace K := Below.then_ K K'
  clear K'
  clear H_lt O_lt KS
  have H_lt := H.lt
  have O_lt := O.lt
  have Q_lt := Q.lt
  have KS := K.size
  go_upto_region 14 with (refine wpList_store_row rfl 38 (.tmp 11) (.tmp 47) rfl _ _ rfl rfl _ _ (Bk.new _ _ _) op_sz rfl (opv_one _ _) ?_)
  rw [World.setRow_alloc_new]
  replace H := H.alloc (.cells (opv ⟨A0, 2, c0, A1, 0, c1, A2, 0, c2, A3, 0, c3⟩ awH) 38)
  replace O := O.alloc (.cells (opv ⟨A0, 2, c0, A1, 0, c1, A2, 0, c2, A3, 0, c3⟩ awH) 38)
  replace Q := Q.alloc (.cells (opv ⟨A0, 2, c0, A1, 0, c1, A2, 0, c2, A3, 0, c3⟩ awH) 38)
  replace U := U.below (below_alloc _ (.cells (opv ⟨A0, 2, c0, A1, 0, c1, A2, 0, c2, A3, 0, c3⟩ awH) 38))
  replace K := Below.then_ K (below_alloc _ (.cells (opv ⟨A0, 2, c0, A1, 0, c1, A2, 0, c2, A3, 0, c3⟩ awH) 38))
  have X : Bk (World.alloc (w13) (.cells (opv ⟨A0, 2, c0, A1, 0, c1, A2, 0, c2, A3, 0, c3⟩ awH) 38)) (World.heap (w13)).size 38 (opv ⟨A0, 2, c0, A1, 0, c1, A2, 0, c2, A3, 0, c3⟩ awH) := Bk.new _ _ _
  try simp only [World.size_alloc] at X
  generalize (w13).alloc (.cells (opv ⟨A0, 2, c0, A1, 0, c1, A2, 0, c2, A3, 0, c3⟩ awH) 38) = w14 at H O Q X U K ⊢
  obtain ⟨gX, hgX⟩ : ∃ g, g = w13.heap.size := ⟨_, rfl⟩
  rw [← hgX] at X ⊢
  have X_b : w.heap.size ≤ gX := by have := KS; omega
  have ne_H_X : gH ≠ gX := by have := H_lt; omega
  have ne_O_X : gO ≠ gX := by have := O_lt; omega
  have ne_Q_X : gQ ≠ gX := by have := Q_lt; omega
  clear hgX
  clear H_lt O_lt Q_lt KS
  have H_lt := H.lt
  have O_lt := O.lt
  have Q_lt := Q.lt
  have X_lt := X.lt
  have KS := K.size
  go_wp2_with fail
  replace H := H.alloc (.cells #[.int .u64 4294967295, .int .u64 18446744073709551615, .int .u64 18446744073709551615] 36)
  replace O := O.alloc (.cells #[.int .u64 4294967295, .int .u64 18446744073709551615, .int .u64 18446744073709551615] 36)
  replace Q := Q.alloc (.cells #[.int .u64 4294967295, .int .u64 18446744073709551615, .int .u64 18446744073709551615] 36)
  replace X := X.alloc (.cells #[.int .u64 4294967295, .int .u64 18446744073709551615, .int .u64 18446744073709551615] 36)
  replace U := U.below (below_alloc _ (.cells #[.int .u64 4294967295, .int .u64 18446744073709551615, .int .u64 18446744073709551615] 36))
  replace K := Below.then_ K (below_alloc _ (.cells #[.int .u64 4294967295, .int .u64 18446744073709551615, .int .u64 18446744073709551615] 36))
  have E : Bk (World.alloc (w14) (.cells #[.int .u64 4294967295, .int .u64 18446744073709551615, .int .u64 18446744073709551615] 36)) (World.heap (w14)).size 36 (#[.int .u64 4294967295, .int .u64 18446744073709551615, .int .u64 18446744073709551615]) := Bk.new _ _ _
  try simp only [World.size_alloc] at E
  generalize (w14).alloc (.cells #[.int .u64 4294967295, .int .u64 18446744073709551615, .int .u64 18446744073709551615] 36) = w15 at H O Q X E U K ⊢
  obtain ⟨gE, hgE⟩ : ∃ g, g = w14.heap.size := ⟨_, rfl⟩
  rw [← hgE] at E ⊢
  have E_b : w.heap.size ≤ gE := by have := KS; omega
  have ne_H_E : gH ≠ gE := by have := H_lt; omega
  have ne_O_E : gO ≠ gE := by have := O_lt; omega
  have ne_Q_E : gQ ≠ gE := by have := Q_lt; omega
  have ne_X_E : gX ≠ gE := by have := X_lt; omega
  clear hgE
  have V : US w15 (some ⟨gE, 0, none⟩) 3 3 [aw0, awB, awB] := Blk.us (show Blk w15 gE 36 [aw0, awB, awB] from E) (by decide +kernel) rfl (by omega)
  refine (same_any U V (by omega)).mono ?_
  rintro e w16 ⟨rfl, K'⟩
  clear V
  replace H := H.below K'
  replace O := O.below K'
  replace Q := Q.below K'
  replace X := X.below K'
  replace E := E.below K'
  replace U := U.below K'
  replace K := Below.then_ K K'
  clear K'
  have X_18 := X.at_ (v := .int .i64 1) 18 rfl
  have X_8 := X.at_ (v := .int .i64 8) 8 rfl
  have X_12 := X.at_ (v := .int .i64 3) 12 rfl
  have X_14 := X.at_ (v := .bool false) 14 rfl
  have X_z := X.lt
  go_wp2
  go_ret
  exact ⟨rfl, K⟩
end Go.Proofs.Ytlfdekeahplidaa
