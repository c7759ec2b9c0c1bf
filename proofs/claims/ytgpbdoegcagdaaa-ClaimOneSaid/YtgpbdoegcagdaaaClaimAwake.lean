/-
  The anchor of layer 13's laws answers true.
-/
import Derived.Test.YtgpbdoegcagdaaaClaimFits
namespace Go.Proofs.Ytgpbdoegcagdaaa
open Go.RowKit
set_option linter.unusedVariables false
theorem much31 : Much 8 31 2 := ⟨by decide +kernel, by decide +kernel⟩
theorem no_items {k : IntKind} {lo : Nat} {w : World} {A : Option Addr} {n c : Nat} (h : IS k lo w A n c []) : n ≤ 65536 := by have := h.len; simp at this; omega
theorem aw1_e : lookS 1 (gt [4294967292, 0, 0] 0) ⟨1, 0, 0, 0, false, 2, 0, 0, 0, 0, 0, false, 0, 0, 0, 0⟩ = ⟨1, 0, 0, 0, false, 3, 0, 0, 0, 0, 4294967292, false, 0, 0, 0, 0⟩ := by kernel_rfl
theorem aw1 {A0 A1 A2 A3 B : Option Addr} {c0 n1 c1 n2 c2 n3 c3 d lo : Nat} {w : World} (L : Lists lo w ⟨A0, 0, c0, A1, n1, c1, A2, n2, c2, A3, n3, c3⟩ ⟨[], [], [], []⟩) (U : US w B 3 d [4294967292, 0, 0]) :
    Calls Try.prog 11 #[.agg #[.int .u32 8, .int .i64 31, .slice none 0 0, .int .i64 1, .int .i64 1, .int .i64 1, .int .i64 1], .slice B 3 d, .agg (opv ⟨A0, 0, c0, A1, n1, c1, A2, n2, c2, A3, n3, c3⟩ ⟨1, 0, 0, 0, false, 2, 0, 0, 0, 0, 0, false, 0, 0, 0, 0⟩)] w (RetStp w.heap.size 0 ⟨1, 0, 0, 0, false, 3, 0, 0, 0, 0, 4294967292, false, 0, 0, 0, 0⟩ ⟨[], [], [], []⟩ 3 [4294967292, 0, 0] false B w) := by
  have h := cstep_look (a := 8) (p := 31) (sh := 1) (wo := 1) (qu := 1) (tr := 1) (A := none) (n := 0) (c := 0) (lf := 0) (h := ⟨A0, 0, c0, A1, n1, c1, A2, n2, c2, A3, n3, c3⟩) (s := ⟨1, 0, 0, 0, false, 2, 0, 0, 0, 0, 0, false, 0, 0, 0, 0⟩) L (by show 0 ≤ 65536; omega) (no_items L.i1) (no_items L.i2) (no_items L.i3) U rfl (by omega) (by decide) (by decide) rfl
  rw [aw1_e, show lookL 1 (gt [4294967292, 0, 0] 0) ⟨1, 0, 0, 0, false, 2, 0, 0, 0, 0, 0, false, 0, 0, 0, 0⟩ ⟨[], [], [], []⟩ = ⟨[], [], [], []⟩ by kernel_rfl] at h
  exact h
theorem aw2_e : claimS 8 0 [] (gt [4294967292, 0, 0] 0) ⟨1, 0, 0, 0, false, 3, 0, 0, 0, 0, 4294967292, false, 0, 0, 0, 0⟩ = ⟨1, 0, 0, 8, false, 0, 0, 0, 0, 0, 0, false, 0, 0, 0, 0⟩ := by kernel_rfl
theorem aw2_c : claimC [4294967292, 0, 0] ⟨1, 0, 0, 0, false, 3, 0, 0, 0, 0, 4294967292, false, 0, 0, 0, 0⟩ = [8589934589, 0, 0] := by kernel_rfl
theorem aw2_b : decide (gt [4294967292, 0, 0] 0 = 4294967292) = true := by kernel_rfl
theorem aw2 {A0 A1 A2 A3 B : Option Addr} {c0 n1 c1 n2 c2 n3 c3 d lo : Nat} {w : World} (L : Lists lo w ⟨A0, 0, c0, A1, n1, c1, A2, n2, c2, A3, n3, c3⟩ ⟨[], [], [], []⟩) (U : US w B 3 d [4294967292, 0, 0]) :
    Calls Try.prog 11 #[.agg #[.int .u32 8, .int .i64 31, .slice none 0 0, .int .i64 1, .int .i64 1, .int .i64 1, .int .i64 1], .slice B 3 d, .agg (opv ⟨A0, 0, c0, A1, n1, c1, A2, n2, c2, A3, n3, c3⟩ ⟨1, 0, 0, 0, false, 3, 0, 0, 0, 0, 4294967292, false, 0, 0, 0, 0⟩)] w (RetStp w.heap.size 0 ⟨1, 0, 0, 8, false, 0, 0, 0, 0, 0, 0, false, 0, 0, 0, 0⟩ ⟨[], [], [], []⟩ 3 [8589934589, 0, 0] true B w) := by
  have h := cstep_claim (a := 8) (p := 31) (sh := 1) (wo := 1) (qu := 1) (tr := 1) (A := none) (n := 0) (c := 0) (lf := 0) (bt := 0) (M := 2) (xs := []) (h := ⟨A0, 0, c0, A1, n1, c1, A2, n2, c2, A3, n3, c3⟩) (s := ⟨1, 0, 0, 0, false, 3, 0, 0, 0, 0, 4294967292, false, 0, 0, 0, 0⟩) (by omega) much31 L.i0 (by show 0 ≤ 65536; omega) (fun i hi => absurd hi (by show ¬ i < 0; omega)) L (no_items L.i1) (no_items L.i2) (no_items L.i3) U (by omega) rfl (by omega) rfl (by omega) (by omega) (by decide +kernel) rfl
  rw [aw2_c, aw2_b] at h
  rw [show claimS 8 (Hd.n0 ⟨A0, 0, c0, A1, n1, c1, A2, n2, c2, A3, n3, c3⟩) [] (gt [4294967292, 0, 0] 0) ⟨1, 0, 0, 0, false, 3, 0, 0, 0, 0, 4294967292, false, 0, 0, 0, 0⟩ = ⟨1, 0, 0, 8, false, 0, 0, 0, 0, 0, 0, false, 0, 0, 0, 0⟩ from aw2_e] at h
  exact h
theorem aw3_e : claimS 8 0 [] (gt [8589934589, 0, 0] 0) ⟨1, 0, 0, 0, false, 3, 0, 0, 0, 0, 4294967292, false, 0, 0, 0, 0⟩ = ⟨1, 0, 0, 0, false, 2, 0, 0, 0, 0, 0, false, 0, 0, 0, 0⟩ := by kernel_rfl
theorem aw3_c : claimC [8589934589, 0, 0] ⟨1, 0, 0, 0, false, 3, 0, 0, 0, 0, 4294967292, false, 0, 0, 0, 0⟩ = [8589934589, 0, 0] := by kernel_rfl
theorem aw3_b : decide (gt [8589934589, 0, 0] 0 = 4294967292) = false := by kernel_rfl
theorem aw3 {A0 A1 A2 A3 B : Option Addr} {c0 n1 c1 n2 c2 n3 c3 d lo : Nat} {w : World} (L : Lists lo w ⟨A0, 0, c0, A1, n1, c1, A2, n2, c2, A3, n3, c3⟩ ⟨[], [], [], []⟩) (U : US w B 3 d [8589934589, 0, 0]) :
    Calls Try.prog 11 #[.agg #[.int .u32 8, .int .i64 31, .slice none 0 0, .int .i64 1, .int .i64 1, .int .i64 1, .int .i64 1], .slice B 3 d, .agg (opv ⟨A0, 0, c0, A1, n1, c1, A2, n2, c2, A3, n3, c3⟩ ⟨1, 0, 0, 0, false, 3, 0, 0, 0, 0, 4294967292, false, 0, 0, 0, 0⟩)] w (RetStp w.heap.size 0 ⟨1, 0, 0, 0, false, 2, 0, 0, 0, 0, 0, false, 0, 0, 0, 0⟩ ⟨[], [], [], []⟩ 3 [8589934589, 0, 0] false B w) := by
  have h := cstep_claim (a := 8) (p := 31) (sh := 1) (wo := 1) (qu := 1) (tr := 1) (A := none) (n := 0) (c := 0) (lf := 0) (bt := 0) (M := 2) (xs := []) (h := ⟨A0, 0, c0, A1, n1, c1, A2, n2, c2, A3, n3, c3⟩) (s := ⟨1, 0, 0, 0, false, 3, 0, 0, 0, 0, 4294967292, false, 0, 0, 0, 0⟩) (by omega) much31 L.i0 (by show 0 ≤ 65536; omega) (fun i hi => absurd hi (by show ¬ i < 0; omega)) L (no_items L.i1) (no_items L.i2) (no_items L.i3) U (by omega) rfl (by omega) rfl (by omega) (by omega) (by decide +kernel) rfl
  rw [aw3_c, aw3_b] at h
  rw [show claimS 8 (Hd.n0 ⟨A0, 0, c0, A1, n1, c1, A2, n2, c2, A3, n3, c3⟩) [] (gt [8589934589, 0, 0] 0) ⟨1, 0, 0, 0, false, 3, 0, 0, 0, 0, 4294967292, false, 0, 0, 0, 0⟩ = ⟨1, 0, 0, 0, false, 2, 0, 0, 0, 0, 0, false, 0, 0, 0, 0⟩ from aw3_e] at h
  exact h
theorem aw4_e : lookS 1 (gt [4294967295, 0, 0] 0) ⟨1, 0, 0, 0, false, 2, 0, 0, 0, 0, 0, false, 0, 0, 0, 0⟩ = ⟨1, 0, 0, 0, false, 6, 0, 1, 0, 0, 0, false, 0, 0, 0, 0⟩ := by kernel_rfl
theorem aw4 {A0 A1 A2 A3 B : Option Addr} {c0 n1 c1 n2 c2 n3 c3 d lo : Nat} {w : World} (L : Lists lo w ⟨A0, 0, c0, A1, n1, c1, A2, n2, c2, A3, n3, c3⟩ ⟨[], [], [], []⟩) (U : US w B 3 d [4294967295, 0, 0]) :
    Calls Try.prog 11 #[.agg #[.int .u32 8, .int .i64 31, .slice none 0 0, .int .i64 1, .int .i64 1, .int .i64 1, .int .i64 1], .slice B 3 d, .agg (opv ⟨A0, 0, c0, A1, n1, c1, A2, n2, c2, A3, n3, c3⟩ ⟨1, 0, 0, 0, false, 2, 0, 0, 0, 0, 0, false, 0, 0, 0, 0⟩)] w (RetStp w.heap.size 0 ⟨1, 0, 0, 0, false, 6, 0, 1, 0, 0, 0, false, 0, 0, 0, 0⟩ ⟨[], [], [], []⟩ 3 [4294967295, 0, 0] false B w) := by
  have h := cstep_look (a := 8) (p := 31) (sh := 1) (wo := 1) (qu := 1) (tr := 1) (A := none) (n := 0) (c := 0) (lf := 0) (h := ⟨A0, 0, c0, A1, n1, c1, A2, n2, c2, A3, n3, c3⟩) (s := ⟨1, 0, 0, 0, false, 2, 0, 0, 0, 0, 0, false, 0, 0, 0, 0⟩) L (by show 0 ≤ 65536; omega) (no_items L.i1) (no_items L.i2) (no_items L.i3) U rfl (by omega) (by decide) (by decide) rfl
  rw [aw4_e, show lookL 1 (gt [4294967295, 0, 0] 0) ⟨1, 0, 0, 0, false, 2, 0, 0, 0, 0, 0, false, 0, 0, 0, 0⟩ ⟨[], [], [], []⟩ = ⟨[], [], [], []⟩ by kernel_rfl] at h
  exact h
set_option maxRecDepth 100000 in
set_option maxHeartbeats 4000000 in
theorem awake_any (w : World) :
    Calls Try.prog 7 #[] w (RetBo true w) := by
  go_enter Try.func7, Try.ntmps7
  go_upto_region 1 with (fail)
  have L := Loc.start w
  go_upto_region 2 with (refine wpList_store_row rfl 27 (.tmp 1) (.tmp 17) rfl _ _ rfl (show _ = Value.agg (#[.int .u32 8, .int .i64 31, .slice none 0 0, .int .i64 1, .int .i64 1, .int .i64 1, .int .i64 1]) from rfl) _ _ (Bk.new _ _ _) cf_sz rfl (by simp [Value.oneCell']) ?_)
  try rw [World.setRow_alloc_new]
  replace L := (L).alloc #[.int .u32 8, .int .i64 31, .slice none 0 0, .int .i64 1, .int .i64 1, .int .i64 1, .int .i64 1] 27
  try simp only [World.size_alloc] at L
  try dsimp only [nput] at L
  generalize (w).alloc (.cells #[.int .u32 8, .int .i64 31, .slice none 0 0, .int .i64 1, .int .i64 1, .int .i64 1, .int .i64 1] 27) = w1 at L ⊢
  generalize w.heap.size = gH at L ⊢
  go_upto_region 3 with fail
  replace L := (L).alloc #[.int .u64 4294967292, .int .u64 0, .int .u64 0] 40
  try simp only [World.size_alloc] at L
  try dsimp only [nput] at L
  generalize (w1).alloc (.cells #[.int .u64 4294967292, .int .u64 0, .int .u64 0] 40) = w2 at L ⊢
  generalize w1.heap.size = gY18 at L ⊢
  replace L := L.cells_ (n := 3) 0 [4294967292, 0, 0] rfl (by decide +kernel) rfl (by decide)
  try dsimp only [ndel] at L
  go_upto_region 4 with (refine wpList_store_row rfl 42 (.tmp 3) (.tmp 20) rfl _ _ rfl (show _ = Value.agg (opv ⟨none, 0, 0, none, 0, 0, none, 0, 0, none, 0, 0⟩ ⟨1, 0, 0, 0, false, 2, 0, 0, 0, 0, 0, false, 0, 0, 0, 0⟩) from rfl) _ _ (Bk.new _ _ _) op_sz rfl (opv_one _ _) ?_)
  try rw [World.setRow_alloc_new]
  replace L := (L).alloc (opv ⟨none, 0, 0, none, 0, 0, none, 0, 0, none, 0, 0⟩ ⟨1, 0, 0, 0, false, 2, 0, 0, 0, 0, 0, false, 0, 0, 0, 0⟩) 42
  try simp only [World.size_alloc] at L
  try dsimp only [nput] at L
  generalize (w2).alloc (.cells (opv ⟨none, 0, 0, none, 0, 0, none, 0, 0, none, 0, 0⟩ ⟨1, 0, 0, 0, false, 2, 0, 0, 0, 0, 0, false, 0, 0, 0, 0⟩) 42) = w3 at L ⊢
  generalize w2.heap.size = gO at L ⊢
  go_wp2_with (first | (refine wpList_load_row rfl 27 (.tmp 1) rfl gH rfl _ _ (0, 0) _ (L.bk_ 1 rfl) Try.underlying27 rfl cf_sz ?_) | (refine wpList_load_row rfl 42 (.tmp 3) rfl gO rfl _ _ (0, 0) _ (L.bk_ 0 rfl) Try.underlying42 rfl op_sz ?_))
  refine (aw1 (Lists.hd0 (lo := 0) _) (L.us_ 0 rfl)).mono ?_
  rintro e w4 ⟨A0_1, c0_1, A1_1, n1_1, c1_1, A2_1, n2_1, c2_1, A3_1, n3_1, c3_1, B_1, d_1, rfl, U, L', hA, K'⟩
  have Lb := L.lts
  replace L := L.over K'
  replace L := L.us_av (fun i b e => hA b.1 (Lb i b e) (L.ap_ 0 rfl (by decide) i b e)) U
  replace L := L.lists Lb L'
  clear Lb
  try dsimp only [lF, List.cons_append, List.nil_append] at L
  clear L' U hA
  go_upto_region 5 with (refine wpList_store_row rfl 42 (.tmp 5) (.tmp 27) rfl _ _ rfl (show _ = Value.agg (opv ⟨A0_1, 0, c0_1, A1_1, n1_1, c1_1, A2_1, n2_1, c2_1, A3_1, n3_1, c3_1⟩ ⟨1, 0, 0, 0, false, 3, 0, 0, 0, 0, 4294967292, false, 0, 0, 0, 0⟩) from rfl) _ _ (Bk.new _ _ _) op_sz rfl (opv_one _ _) ?_)
  try rw [World.setRow_alloc_new]
  replace L := (L).alloc (opv ⟨A0_1, 0, c0_1, A1_1, n1_1, c1_1, A2_1, n2_1, c2_1, A3_1, n3_1, c3_1⟩ ⟨1, 0, 0, 0, false, 3, 0, 0, 0, 0, 4294967292, false, 0, 0, 0, 0⟩) 42
  try simp only [World.size_alloc] at L
  try dsimp only [nput] at L
  generalize (w4).alloc (.cells (opv ⟨A0_1, 0, c0_1, A1_1, n1_1, c1_1, A2_1, n2_1, c2_1, A3_1, n3_1, c3_1⟩ ⟨1, 0, 0, 0, false, 3, 0, 0, 0, 0, 4294967292, false, 0, 0, 0, 0⟩) 42) = w5 at L ⊢
  generalize w4.heap.size = gP at L ⊢
  go_wp2_with (first | (refine wpList_load_row rfl 27 (.tmp 1) rfl gH rfl _ _ (0, 0) _ (L.bk_ 2 rfl) Try.underlying27 rfl cf_sz ?_) | (refine wpList_load_row rfl 42 (.tmp 5) rfl gP rfl _ _ (0, 0) _ (L.bk_ 0 rfl) Try.underlying42 rfl op_sz ?_))
  refine (aw2 (L.lists_at 0 rfl) (L.us_ 4 rfl)).mono ?_
  rintro e w6 ⟨A0_2, c0_2, A1_2, n1_2, c1_2, A2_2, n2_2, c2_2, A3_2, n3_2, c3_2, B_2, d_2, rfl, U, L', hA, K'⟩
  have Lb := L.lts
  replace L := L.over K'
  replace L := L.us_av (fun i b e => hA b.1 (Lb i b e) (L.ap_ 4 rfl (by decide) i b e)) U
  replace L := L.lists Lb L'
  clear Lb
  try dsimp only [lF, List.cons_append, List.nil_append] at L
  clear L' U hA
  go_upto_region 6 with (refine wpList_store_row rfl 42 (.tmp 8) (.tmp 35) rfl _ _ rfl (show _ = Value.agg (opv ⟨A0_2, 0, c0_2, A1_2, n1_2, c1_2, A2_2, n2_2, c2_2, A3_2, n3_2, c3_2⟩ ⟨1, 0, 0, 8, false, 0, 0, 0, 0, 0, 0, false, 0, 0, 0, 0⟩) from rfl) _ _ (Bk.new _ _ _) op_sz rfl (opv_one _ _) ?_)
  try rw [World.setRow_alloc_new]
  replace L := (L).alloc (opv ⟨A0_2, 0, c0_2, A1_2, n1_2, c1_2, A2_2, n2_2, c2_2, A3_2, n3_2, c3_2⟩ ⟨1, 0, 0, 8, false, 0, 0, 0, 0, 0, 0, false, 0, 0, 0, 0⟩) 42
  try simp only [World.size_alloc] at L
  try dsimp only [nput] at L
  generalize (w6).alloc (.cells (opv ⟨A0_2, 0, c0_2, A1_2, n1_2, c1_2, A2_2, n2_2, c2_2, A3_2, n3_2, c3_2⟩ ⟨1, 0, 0, 8, false, 0, 0, 0, 0, 0, 0, false, 0, 0, 0, 0⟩) 42) = w7 at L ⊢
  generalize w6.heap.size = gQ at L ⊢
  go_wp2_with (first | (refine wpList_load_row rfl 27 (.tmp 1) rfl gH rfl _ _ (0, 0) _ (L.bk_ 3 rfl) Try.underlying27 rfl cf_sz ?_) | (refine wpList_load_row rfl 42 (.tmp 5) rfl gP rfl _ _ (0, 0) _ (L.bk_ 1 rfl) Try.underlying42 rfl op_sz ?_))
  refine (aw3 (L.lists_at 5 rfl) (L.us_ 4 rfl)).mono ?_
  rintro e w8 ⟨A0_3, c0_3, A1_3, n1_3, c1_3, A2_3, n2_3, c2_3, A3_3, n3_3, c3_3, B_3, d_3, rfl, U, L', hA, K'⟩
  have Lb := L.lts
  replace L := L.over K'
  replace L := L.us_av (fun i b e => hA b.1 (Lb i b e) (L.ap_ 4 rfl (by decide) i b e)) U
  replace L := L.lists Lb L'
  clear Lb
  try dsimp only [lF, List.cons_append, List.nil_append] at L
  clear L' U hA
  go_upto_region 7 with (refine wpList_store_row rfl 42 (.tmp 11) (.tmp 43) rfl _ _ rfl (show _ = Value.agg (opv ⟨A0_3, 0, c0_3, A1_3, n1_3, c1_3, A2_3, n2_3, c2_3, A3_3, n3_3, c3_3⟩ ⟨1, 0, 0, 0, false, 2, 0, 0, 0, 0, 0, false, 0, 0, 0, 0⟩) from rfl) _ _ (Bk.new _ _ _) op_sz rfl (opv_one _ _) ?_)
  try rw [World.setRow_alloc_new]
  replace L := (L).alloc (opv ⟨A0_3, 0, c0_3, A1_3, n1_3, c1_3, A2_3, n2_3, c2_3, A3_3, n3_3, c3_3⟩ ⟨1, 0, 0, 0, false, 2, 0, 0, 0, 0, 0, false, 0, 0, 0, 0⟩) 42
  try simp only [World.size_alloc] at L
  try dsimp only [nput] at L
  generalize (w8).alloc (.cells (opv ⟨A0_3, 0, c0_3, A1_3, n1_3, c1_3, A2_3, n2_3, c2_3, A3_3, n3_3, c3_3⟩ ⟨1, 0, 0, 0, false, 2, 0, 0, 0, 0, 0, false, 0, 0, 0, 0⟩) 42) = w9 at L ⊢
  generalize w8.heap.size = gR at L ⊢
  go_wp2_with (first | (refine wpList_load_row rfl 27 (.tmp 1) rfl gH rfl _ _ (0, 0) _ (L.bk_ 4 rfl) Try.underlying27 rfl cf_sz ?_) | (refine wpList_load_row rfl 42 (.tmp 3) rfl gO rfl _ _ (0, 0) _ ((L.other _).bk_ 3 rfl) Try.underlying42 rfl op_sz ?_))
  replace L := (L).alloc #[.int .u64 4294967295, .int .u64 0, .int .u64 0] 40
  try simp only [World.size_alloc] at L
  try dsimp only [nput] at L
  generalize (w9).alloc (.cells #[.int .u64 4294967295, .int .u64 0, .int .u64 0] 40) = w10 at L ⊢
  generalize w9.heap.size = gY47 at L ⊢
  replace L := L.cells_ (n := 3) 0 [4294967295, 0, 0] rfl (by decide +kernel) rfl (by decide)
  try dsimp only [ndel] at L
  refine (aw4 (Lists.hd0 (lo := 0) _) (L.us_ 0 rfl)).mono ?_
  rintro e w11 ⟨A0_4, c0_4, A1_4, n1_4, c1_4, A2_4, n2_4, c2_4, A3_4, n3_4, c3_4, B_4, d_4, rfl, U, L', hA, K'⟩
  have Lb := L.lts
  replace L := L.over K'
  replace L := L.us_av (fun i b e => hA b.1 (Lb i b e) (L.ap_ 0 rfl (by decide) i b e)) U
  replace L := L.lists Lb L'
  clear Lb
  try dsimp only [lF, List.cons_append, List.nil_append] at L
  clear L' U hA
  go_upto_region 8 with (refine wpList_store_row rfl 42 (.tmp 14) (.tmp 51) rfl _ _ rfl (show _ = Value.agg (opv ⟨A0_4, 0, c0_4, A1_4, n1_4, c1_4, A2_4, n2_4, c2_4, A3_4, n3_4, c3_4⟩ ⟨1, 0, 0, 0, false, 6, 0, 1, 0, 0, 0, false, 0, 0, 0, 0⟩) from rfl) _ _ (Bk.new _ _ _) op_sz rfl (opv_one _ _) ?_)
  try rw [World.setRow_alloc_new]
  replace L := (L).alloc (opv ⟨A0_4, 0, c0_4, A1_4, n1_4, c1_4, A2_4, n2_4, c2_4, A3_4, n3_4, c3_4⟩ ⟨1, 0, 0, 0, false, 6, 0, 1, 0, 0, 0, false, 0, 0, 0, 0⟩) 42
  try simp only [World.size_alloc] at L
  try dsimp only [nput] at L
  generalize (w11).alloc (.cells (opv ⟨A0_4, 0, c0_4, A1_4, n1_4, c1_4, A2_4, n2_4, c2_4, A3_4, n3_4, c3_4⟩ ⟨1, 0, 0, 0, false, 6, 0, 1, 0, 0, 0, false, 0, 0, 0, 0⟩) 42) = w12 at L ⊢
  generalize w11.heap.size = gS at L ⊢
  have P_8 := L.at_ 3 8 rfl (v := .int .i64 3) rfl
  have P_12 := L.at_ 3 12 rfl (v := .int .i64 0) rfl
  have Q_4 := L.at_ 2 4 rfl (v := .int .u32 8) rfl
  have Q_8 := L.at_ 2 8 rfl (v := .int .i64 0) rfl
  have P_z := L.lt 3 rfl
  have Q_z := L.lt 2 rfl
  go_wp2_with fail
  clear P_8 P_12 Q_4 Q_8 P_z Q_z
  replace L := (L).alloc #[.int .u64 8589934589, .int .u64 0, .int .u64 0] 40
  try simp only [World.size_alloc] at L
  try dsimp only [nput] at L
  generalize (w12).alloc (.cells #[.int .u64 8589934589, .int .u64 0, .int .u64 0] 40) = w13 at L ⊢
  generalize w12.heap.size = gY81 at L ⊢
  replace L := L.cells_ (n := 3) 0 [8589934589, 0, 0] rfl (by decide +kernel) rfl (by decide)
  try dsimp only [ndel] at L
  refine (same_any (L.us_ 16 rfl) (L.us_ 0 rfl) (by decide)).mono ?_
  rintro e w14 ⟨rfl, K'⟩
  replace L := L.over K'
  have R_8 := L.at_ 1 8 rfl (v := .int .i64 2) rfl
  have R_z := L.lt 1 rfl
  go_wp2_with fail
  refine (same_any (L.us_ 11 rfl) (L.us_ 16 rfl) (by decide)).mono ?_
  rintro e w15 ⟨rfl, K'⟩
  clear R_8 R_z
  replace L := L.over K'
  have S_8 := L.at_ 0 8 rfl (v := .int .i64 6) rfl
  have S_10 := L.at_ 0 10 rfl (v := .int .i64 1) rfl
  have S_z := L.lt 0 rfl
  go_wp2_with fail
  clear S_8 S_10 S_z
  go_ret
  exact ⟨rfl, L.K⟩
end Go.Proofs.Ytgpbdoegcagdaaa
