/-
  The anchor of layer 15's laws answers true.
-/
import Derived.Test.YtlaejiephpmniaaSeekStep
import Derived.Test.YtlaejiephpmniaaHintOpen
namespace Go.Proofs.Ytlaejiephpmniaa
open Go.RowKit
set_option linter.unusedVariables false
theorem much26 : Much 0 26 64 := ⟨by decide +kernel, by decide +kernel⟩
theorem no_items {k : IntKind} {lo : Nat} {w : World} {A : Option Addr} {n c : Nat} (h : IS k lo w A n c []) : n = 0 := by have := h.len; simpa using this.symm
/-- A block of integers of the call's own, as a list that is read. -/
theorem Loc.ints_ {w0 w : World} {bs : List Bl} {fs : List Fct} {k : IntKind} {n g lo : Nat} {t : TypeId} (h : Loc w0 w bs fs) (i : Nat) (xs : List Int) (hi : nth bs i = some (g, t, (xs.map (iv k)).toArray)) (hm : xs.length = n) (h9 : n ≤ 65536) (hlo : lo ≤ g) : IS k lo w (some ⟨g, 0, none⟩) n n xs := by
  refine ⟨hm, Nat.le_refl _, by unfold maxLen; omega, (fun e => by cases e), fun hn => ⟨g, 0, rfl, hlo, h.lt i hi, fun j hj => ?_⟩⟩
  have hj' : j < xs.length := by omega
  rw [gi_at hj']
  exact h.at_ i (0 + j) hi (by simp [hj', iv])
section
variable {w : World} {lo d : Nat} {B : Option Addr} {h : Hd}
theorem aw1_e : skS (2 : Int) 64 [0, 0, 18446744073709551614, 18446744073709551614] (ct (lv 64) 2 ((1 + 0) % 2)) (ct (lv 64) 2 ((1 + 0) % 2 + 1)) ⟨0, 0, 0, 0, false, 1, 1, 0, 0, 0, 0, false, 0, 0, 0, 0⟩ = ⟨0, 0, 0, 0, false, 1, 1, 0, 0, 0, 18446744073709551614, false, 1, 0, 0, 0⟩ := by kernel_rfl
theorem aw1_l : skL (2 : Int) 64 [0, 0, 18446744073709551614, 18446744073709551614] (ct (lv 64) 2 ((1 + 0) % 2)) (ct (lv 64) 2 ((1 + 0) % 2 + 1)) ⟨0, 0, 0, 0, false, 1, 1, 0, 0, 0, 0, false, 0, 0, 0, 0⟩ ⟨[], [], [], []⟩ = ⟨[], [], [], []⟩ := by kernel_rfl
theorem aw1 (L : Lists lo w h ⟨[], [], [], []⟩) (U : US w B 4 d [0, 0, 18446744073709551614, 18446744073709551614]) :
    Calls Try.prog 11 #[.agg #[.int .u32 0, .int .i64 26, .slice none 0 0, .int .i64 2, .int .i64 1, .int .i64 1, .int .i64 1], .slice B 4 d, .agg (opv h ⟨0, 0, 0, 0, false, 1, 1, 0, 0, 0, 0, false, 0, 0, 0, 0⟩)] w (RetSk ⟨0, 0, 0, 0, false, 1, 1, 0, 0, 0, 18446744073709551614, false, 1, 0, 0, 0⟩ ⟨[], [], [], []⟩ w) := by
  have h := sstep_any (a := 0) (p := 26) (M := 64) (ns := 2) (hd := 1) (k := 0) (tt := 0) (wo := 1) (qu := 1) (tr := 1) (A := none) (n := 0) (c := 0) (s := ⟨0, 0, 0, 0, false, 1, 1, 0, 0, 0, 0, false, 0, 0, 0, 0⟩) L (by have := L.i0.len; simp at this; omega) (by have := L.i1.len; simp at this; omega) (by have := L.i2.len; simp at this; omega) (by have := L.i3.len; simp at this; omega) U (by decide) (by decide) rfl (by omega) much26 (by omega) (by omega) rfl (by omega) rfl (by omega) rfl (by omega)
  exact (aw1_l ▸ aw1_e ▸ h)
theorem aw2_e : skS (2 : Int) 64 [0, 0, 18446744073709551614, 18446744073709551614] (ct (lv 64) 2 ((1 + 0) % 2)) (ct (lv 64) 2 ((1 + 0) % 2 + 1)) ⟨0, 0, 0, 0, false, 1, 1, 0, 0, 0, 18446744073709551614, false, 1, 0, 0, 0⟩ = ⟨0, 0, 0, 0, false, 1, 1, 1, 0, 0, 0, false, 0, 0, 0, 0⟩ := by kernel_rfl
theorem aw2_l : skL (2 : Int) 64 [0, 0, 18446744073709551614, 18446744073709551614] (ct (lv 64) 2 ((1 + 0) % 2)) (ct (lv 64) 2 ((1 + 0) % 2 + 1)) ⟨0, 0, 0, 0, false, 1, 1, 0, 0, 0, 18446744073709551614, false, 1, 0, 0, 0⟩ ⟨[], [], [], []⟩ = ⟨[], [], [], []⟩ := by kernel_rfl
theorem aw2 (L : Lists lo w h ⟨[], [], [], []⟩) (U : US w B 4 d [0, 0, 18446744073709551614, 18446744073709551614]) :
    Calls Try.prog 11 #[.agg #[.int .u32 0, .int .i64 26, .slice none 0 0, .int .i64 2, .int .i64 1, .int .i64 1, .int .i64 1], .slice B 4 d, .agg (opv h ⟨0, 0, 0, 0, false, 1, 1, 0, 0, 0, 18446744073709551614, false, 1, 0, 0, 0⟩)] w (RetSk ⟨0, 0, 0, 0, false, 1, 1, 1, 0, 0, 0, false, 0, 0, 0, 0⟩ ⟨[], [], [], []⟩ w) := by
  have h := sstep_any (a := 0) (p := 26) (M := 64) (ns := 2) (hd := 1) (k := 0) (tt := 1) (wo := 1) (qu := 1) (tr := 1) (A := none) (n := 0) (c := 0) (s := ⟨0, 0, 0, 0, false, 1, 1, 0, 0, 0, 18446744073709551614, false, 1, 0, 0, 0⟩) L (by have := L.i0.len; simp at this; omega) (by have := L.i1.len; simp at this; omega) (by have := L.i2.len; simp at this; omega) (by have := L.i3.len; simp at this; omega) U (by decide) (by decide) rfl (by omega) much26 (by omega) (by omega) rfl (by omega) rfl (by omega) rfl (by omega)
  exact (aw2_l ▸ aw2_e ▸ h)
theorem aw3_e : skS (2 : Int) 64 [0, 0, 18446744073709551614, 18446744073709551614] (ct (lv 64) 2 ((1 + 1) % 2)) (ct (lv 64) 2 ((1 + 1) % 2 + 1)) ⟨0, 0, 0, 0, false, 1, 1, 1, 0, 0, 0, false, 0, 0, 0, 0⟩ = ⟨0, 0, 0, 0, false, 1, 1, 1, 0, 0, 18446744073709551614, false, 1, 0, 0, 0⟩ := by kernel_rfl
theorem aw3_l : skL (2 : Int) 64 [0, 0, 18446744073709551614, 18446744073709551614] (ct (lv 64) 2 ((1 + 1) % 2)) (ct (lv 64) 2 ((1 + 1) % 2 + 1)) ⟨0, 0, 0, 0, false, 1, 1, 1, 0, 0, 0, false, 0, 0, 0, 0⟩ ⟨[], [], [], []⟩ = ⟨[], [], [], []⟩ := by kernel_rfl
theorem aw3 (L : Lists lo w h ⟨[], [], [], []⟩) (U : US w B 4 d [0, 0, 18446744073709551614, 18446744073709551614]) :
    Calls Try.prog 11 #[.agg #[.int .u32 0, .int .i64 26, .slice none 0 0, .int .i64 2, .int .i64 1, .int .i64 1, .int .i64 1], .slice B 4 d, .agg (opv h ⟨0, 0, 0, 0, false, 1, 1, 1, 0, 0, 0, false, 0, 0, 0, 0⟩)] w (RetSk ⟨0, 0, 0, 0, false, 1, 1, 1, 0, 0, 18446744073709551614, false, 1, 0, 0, 0⟩ ⟨[], [], [], []⟩ w) := by
  have h := sstep_any (a := 0) (p := 26) (M := 64) (ns := 2) (hd := 1) (k := 1) (tt := 0) (wo := 1) (qu := 1) (tr := 1) (A := none) (n := 0) (c := 0) (s := ⟨0, 0, 0, 0, false, 1, 1, 1, 0, 0, 0, false, 0, 0, 0, 0⟩) L (by have := L.i0.len; simp at this; omega) (by have := L.i1.len; simp at this; omega) (by have := L.i2.len; simp at this; omega) (by have := L.i3.len; simp at this; omega) U (by decide) (by decide) rfl (by omega) much26 (by omega) (by omega) rfl (by omega) rfl (by omega) rfl (by omega)
  exact (aw3_l ▸ aw3_e ▸ h)
theorem aw4_e : skS (2 : Int) 64 [0, 0, 18446744073709551614, 18446744073709551614] (ct (lv 64) 2 ((1 + 1) % 2)) (ct (lv 64) 2 ((1 + 1) % 2 + 1)) ⟨0, 0, 0, 0, false, 1, 1, 1, 0, 0, 18446744073709551614, false, 1, 0, 0, 0⟩ = ⟨0, 0, 0, 0, false, 2, 1, 1, 0, 0, 0, false, 0, 0, 0, 0⟩ := by kernel_rfl
theorem aw4_l : skL (2 : Int) 64 [0, 0, 18446744073709551614, 18446744073709551614] (ct (lv 64) 2 ((1 + 1) % 2)) (ct (lv 64) 2 ((1 + 1) % 2 + 1)) ⟨0, 0, 0, 0, false, 1, 1, 1, 0, 0, 18446744073709551614, false, 1, 0, 0, 0⟩ ⟨[], [], [], []⟩ = ⟨[], [], [], []⟩ := by kernel_rfl
theorem aw4 (L : Lists lo w h ⟨[], [], [], []⟩) (U : US w B 4 d [0, 0, 18446744073709551614, 18446744073709551614]) :
    Calls Try.prog 11 #[.agg #[.int .u32 0, .int .i64 26, .slice none 0 0, .int .i64 2, .int .i64 1, .int .i64 1, .int .i64 1], .slice B 4 d, .agg (opv h ⟨0, 0, 0, 0, false, 1, 1, 1, 0, 0, 18446744073709551614, false, 1, 0, 0, 0⟩)] w (RetSk ⟨0, 0, 0, 0, false, 2, 1, 1, 0, 0, 0, false, 0, 0, 0, 0⟩ ⟨[], [], [], []⟩ w) := by
  have h := sstep_any (a := 0) (p := 26) (M := 64) (ns := 2) (hd := 1) (k := 1) (tt := 1) (wo := 1) (qu := 1) (tr := 1) (A := none) (n := 0) (c := 0) (s := ⟨0, 0, 0, 0, false, 1, 1, 1, 0, 0, 18446744073709551614, false, 1, 0, 0, 0⟩) L (by have := L.i0.len; simp at this; omega) (by have := L.i1.len; simp at this; omega) (by have := L.i2.len; simp at this; omega) (by have := L.i3.len; simp at this; omega) U (by decide) (by decide) rfl (by omega) much26 (by omega) (by omega) rfl (by omega) rfl (by omega) rfl (by omega)
  exact (aw4_l ▸ aw4_e ▸ h)
theorem aw5_e : skS (2 : Int) 64 [0, 0, 0, 1] (ct (lv 64) 2 ((0 + 1) % 2)) (ct (lv 64) 2 ((0 + 1) % 2 + 1)) ⟨0, 0, 0, 0, false, 1, 0, 1, 0, 0, 0, false, 0, 0, 0, 0⟩ = ⟨0, 0, 0, 0, false, 6, 0, 2, 0, 0, 0, false, 0, 0, 0, 0⟩ := by kernel_rfl
theorem aw5_l : skL (2 : Int) 64 [0, 0, 0, 1] (ct (lv 64) 2 ((0 + 1) % 2)) (ct (lv 64) 2 ((0 + 1) % 2 + 1)) ⟨0, 0, 0, 0, false, 1, 0, 1, 0, 0, 0, false, 0, 0, 0, 0⟩ ⟨[], [], [], [1]⟩ = ⟨[], [], [], []⟩ := by kernel_rfl
theorem aw5 (L : Lists lo w h ⟨[], [], [], [1]⟩) (U : US w B 4 d [0, 0, 0, 1]) :
    Calls Try.prog 11 #[.agg #[.int .u32 0, .int .i64 26, .slice none 0 0, .int .i64 2, .int .i64 1, .int .i64 1, .int .i64 1], .slice B 4 d, .agg (opv h ⟨0, 0, 0, 0, false, 1, 0, 1, 0, 0, 0, false, 0, 0, 0, 0⟩)] w (RetSk ⟨0, 0, 0, 0, false, 6, 0, 2, 0, 0, 0, false, 0, 0, 0, 0⟩ ⟨[], [], [], []⟩ w) := by
  have h := sstep_any (a := 0) (p := 26) (M := 64) (ns := 2) (hd := 0) (k := 1) (tt := 0) (wo := 1) (qu := 1) (tr := 1) (A := none) (n := 0) (c := 0) (s := ⟨0, 0, 0, 0, false, 1, 0, 1, 0, 0, 0, false, 0, 0, 0, 0⟩) L (by have := L.i0.len; simp at this; omega) (by have := L.i1.len; simp at this; omega) (by have := L.i2.len; simp at this; omega) (by have := L.i3.len; simp at this; omega) U (by decide) (by decide) rfl (by omega) much26 (by omega) (by omega) rfl (by omega) rfl (by omega) rfl (by omega)
  exact (aw5_l ▸ aw5_e ▸ h)
end
set_option maxRecDepth 100000 in
set_option maxHeartbeats 4000000 in
theorem awake_any (w : World) :
    Calls Try.prog 7 #[] w (RetBo true w) := by
  go_enter Try.func7, Try.ntmps7
  go_upto_region 1 with (fail)
  have L := Loc.start w
  go_upto_region 2 with (refine wpList_store_row rfl 27 (.tmp 1) (.tmp 10) rfl _ _ rfl (show _ = Value.agg (#[.int .u32 0, .int .i64 26, .slice none 0 0, .int .i64 2, .int .i64 1, .int .i64 1, .int .i64 1]) from rfl) _ _ (Bk.new _ _ _) cf_sz rfl (by simp [Value.oneCell']) ?_)
  try rw [World.setRow_alloc_new]
  replace L := (L).alloc #[.int .u32 0, .int .i64 26, .slice none 0 0, .int .i64 2, .int .i64 1, .int .i64 1, .int .i64 1] 27
  try simp only [World.size_alloc] at L
  try dsimp only [nput] at L
  generalize (w).alloc (.cells #[.int .u32 0, .int .i64 26, .slice none 0 0, .int .i64 2, .int .i64 1, .int .i64 1, .int .i64 1] 27) = w1 at L ⊢
  generalize w.heap.size = gH at L ⊢
  go_upto_region 3 with fail
  replace L := (L).alloc #[.int .u64 0, .int .u64 0, .int .u64 18446744073709551614, .int .u64 18446744073709551614] 39
  try simp only [World.size_alloc] at L
  try dsimp only [nput] at L
  generalize (w1).alloc (.cells #[.int .u64 0, .int .u64 0, .int .u64 18446744073709551614, .int .u64 18446744073709551614] 39) = w2 at L ⊢
  generalize w1.heap.size = gY11 at L ⊢
  replace L := L.cells_ (n := 4) 0 [0, 0, 18446744073709551614, 18446744073709551614] rfl (by decide +kernel) rfl (by decide)
  try dsimp only [ndel] at L
  go_upto_region 4 with (refine wpList_store_row rfl 41 (.tmp 3) (.tmp 12) rfl _ _ rfl (show _ = Value.agg (opv ⟨none, 0, 0, none, 0, 0, none, 0, 0, none, 0, 0⟩ ⟨0, 0, 0, 0, false, 1, 1, 0, 0, 0, 0, false, 0, 0, 0, 0⟩) from rfl) _ _ (Bk.new _ _ _) op_sz rfl (opv_one _ _) ?_)
  try rw [World.setRow_alloc_new]
  replace L := (L).alloc (opv ⟨none, 0, 0, none, 0, 0, none, 0, 0, none, 0, 0⟩ ⟨0, 0, 0, 0, false, 1, 1, 0, 0, 0, 0, false, 0, 0, 0, 0⟩) 41
  try simp only [World.size_alloc] at L
  try dsimp only [nput] at L
  generalize (w2).alloc (.cells (opv ⟨none, 0, 0, none, 0, 0, none, 0, 0, none, 0, 0⟩ ⟨0, 0, 0, 0, false, 1, 1, 0, 0, 0, 0, false, 0, 0, 0, 0⟩) 41) = w3 at L ⊢
  generalize w2.heap.size = gO at L ⊢
  go_wp2_with (first | (refine wpList_load_row rfl 27 (.tmp 1) rfl gH rfl _ _ (0, 0) _ (L.bk_ 1 rfl) Try.underlying27 rfl cf_sz ?_) | (refine wpList_load_row rfl 41 (.tmp 3) rfl gO rfl _ _ (0, 0) _ (L.bk_ 0 rfl) Try.underlying41 rfl op_sz ?_))
  refine (aw1 (Lists.hd0 (lo := 0) _) (L.us_ 0 rfl)).mono ?_
  rintro e w4 ⟨h1, rfl, L', K'⟩
  have Lb := L.lts
  replace L := L.over K'
  replace L := L.lists Lb L'
  clear Lb
  try dsimp only [lF, List.cons_append, List.nil_append] at L
  skip
  clear L'
  go_upto_region 5 with (refine wpList_store_row rfl 41 (.tmp 4) (.tmp 16) rfl _ _ rfl (show _ = Value.agg (opv h1 ⟨0, 0, 0, 0, false, 1, 1, 0, 0, 0, 18446744073709551614, false, 1, 0, 0, 0⟩) from rfl) _ _ (Bk.new _ _ _) op_sz rfl (opv_one _ _) ?_)
  try rw [World.setRow_alloc_new]
  replace L := (L).alloc (opv h1 ⟨0, 0, 0, 0, false, 1, 1, 0, 0, 0, 18446744073709551614, false, 1, 0, 0, 0⟩) 41
  try simp only [World.size_alloc] at L
  try dsimp only [nput] at L
  generalize (w4).alloc (.cells (opv h1 ⟨0, 0, 0, 0, false, 1, 1, 0, 0, 0, 18446744073709551614, false, 1, 0, 0, 0⟩) 41) = w5 at L ⊢
  generalize w4.heap.size = gP at L ⊢
  go_wp2_with (first | (refine wpList_load_row rfl 27 (.tmp 1) rfl gH rfl _ _ (0, 0) _ (L.bk_ 2 rfl) Try.underlying27 rfl cf_sz ?_) | (refine wpList_load_row rfl 41 (.tmp 4) rfl gP rfl _ _ (0, 0) _ (L.bk_ 0 rfl) Try.underlying41 rfl op_sz ?_))
  refine (aw2 (L.lists_at 0 rfl) (L.us_ 4 rfl)).mono ?_
  rintro e w6 ⟨h2, rfl, L', K'⟩
  have Lb := L.lts
  replace L := L.over K'
  replace L := L.lists Lb L'
  clear Lb
  try dsimp only [lF, List.cons_append, List.nil_append] at L
  skip
  clear L'
  go_upto_region 6 with (refine wpList_store_row rfl 41 (.tmp 5) (.tmp 20) rfl _ _ rfl (show _ = Value.agg (opv h2 ⟨0, 0, 0, 0, false, 1, 1, 1, 0, 0, 0, false, 0, 0, 0, 0⟩) from rfl) _ _ (Bk.new _ _ _) op_sz rfl (opv_one _ _) ?_)
  try rw [World.setRow_alloc_new]
  replace L := (L).alloc (opv h2 ⟨0, 0, 0, 0, false, 1, 1, 1, 0, 0, 0, false, 0, 0, 0, 0⟩) 41
  try simp only [World.size_alloc] at L
  try dsimp only [nput] at L
  generalize (w6).alloc (.cells (opv h2 ⟨0, 0, 0, 0, false, 1, 1, 1, 0, 0, 0, false, 0, 0, 0, 0⟩) 41) = w7 at L ⊢
  generalize w6.heap.size = gQ at L ⊢
  go_wp2_with (first | (refine wpList_load_row rfl 27 (.tmp 1) rfl gH rfl _ _ (0, 0) _ (L.bk_ 3 rfl) Try.underlying27 rfl cf_sz ?_) | (refine wpList_load_row rfl 41 (.tmp 5) rfl gQ rfl _ _ (0, 0) _ (L.bk_ 0 rfl) Try.underlying41 rfl op_sz ?_))
  refine (aw3 (L.lists_at 0 rfl) (L.us_ 8 rfl)).mono ?_
  rintro e w8 ⟨h3, rfl, L', K'⟩
  have Lb := L.lts
  replace L := L.over K'
  replace L := L.lists Lb L'
  clear Lb
  try dsimp only [lF, List.cons_append, List.nil_append] at L
  skip
  clear L'
  go_upto_region 7 with (refine wpList_store_row rfl 41 (.tmp 6) (.tmp 24) rfl _ _ rfl (show _ = Value.agg (opv h3 ⟨0, 0, 0, 0, false, 1, 1, 1, 0, 0, 18446744073709551614, false, 1, 0, 0, 0⟩) from rfl) _ _ (Bk.new _ _ _) op_sz rfl (opv_one _ _) ?_)
  try rw [World.setRow_alloc_new]
  replace L := (L).alloc (opv h3 ⟨0, 0, 0, 0, false, 1, 1, 1, 0, 0, 18446744073709551614, false, 1, 0, 0, 0⟩) 41
  try simp only [World.size_alloc] at L
  try dsimp only [nput] at L
  generalize (w8).alloc (.cells (opv h3 ⟨0, 0, 0, 0, false, 1, 1, 1, 0, 0, 18446744073709551614, false, 1, 0, 0, 0⟩) 41) = w9 at L ⊢
  generalize w8.heap.size = gR at L ⊢
  go_wp2_with (first | (refine wpList_load_row rfl 27 (.tmp 1) rfl gH rfl _ _ (0, 0) _ (L.bk_ 4 rfl) Try.underlying27 rfl cf_sz ?_) | (refine wpList_load_row rfl 41 (.tmp 6) rfl gR rfl _ _ (0, 0) _ (L.bk_ 0 rfl) Try.underlying41 rfl op_sz ?_))
  refine (aw4 (L.lists_at 0 rfl) (L.us_ 12 rfl)).mono ?_
  rintro e w10 ⟨h4, rfl, L', K'⟩
  have Lb := L.lts
  replace L := L.over K'
  replace L := L.lists Lb L'
  clear Lb
  try dsimp only [lF, List.cons_append, List.nil_append] at L
  skip
  clear L'
  go_upto_region 8 with (refine wpList_store_row rfl 41 (.tmp 7) (.tmp 28) rfl _ _ rfl (show _ = Value.agg (opv h4 ⟨0, 0, 0, 0, false, 2, 1, 1, 0, 0, 0, false, 0, 0, 0, 0⟩) from rfl) _ _ (Bk.new _ _ _) op_sz rfl (opv_one _ _) ?_)
  try rw [World.setRow_alloc_new]
  replace L := (L).alloc (opv h4 ⟨0, 0, 0, 0, false, 2, 1, 1, 0, 0, 0, false, 0, 0, 0, 0⟩) 41
  try simp only [World.size_alloc] at L
  try dsimp only [nput] at L
  generalize (w10).alloc (.cells (opv h4 ⟨0, 0, 0, 0, false, 2, 1, 1, 0, 0, 0, false, 0, 0, 0, 0⟩) 41) = w11 at L ⊢
  generalize w10.heap.size = gS at L ⊢
  go_wp2_with (refine wpList_load_row rfl 27 (.tmp 1) rfl gH rfl _ _ (0, 0) _ (L.bk_ 5 rfl) Try.underlying27 rfl cf_sz ?_)
  replace L := ((L).alloc #[.int .u64 0, .int .u64 0, .int .u64 0, .int .u64 1] 39).alloc #[.int .u64 1] 39
  try simp only [World.size_alloc] at L
  try dsimp only [nput] at L
  generalize ((w11).alloc (.cells #[.int .u64 0, .int .u64 0, .int .u64 0, .int .u64 1] 39)).alloc (.cells #[.int .u64 1] 39) = w12 at L ⊢
  generalize w11.heap.size + 1 = gY31 at L ⊢
  generalize w11.heap.size = gY30 at L ⊢
  replace L := L.cells_ (n := 4) 1 [0, 0, 0, 1] rfl (by decide +kernel) rfl (by decide)
  try dsimp only [ndel] at L
  refine (aw5 (show Lists 0 _ ⟨none, 0, 0, none, 0, 0, none, 0, 0, some ⟨gY31, 0, none⟩, 1, 1⟩ _ from ⟨IS.none_ _ _ _, IS.none_ _ _ _, IS.none_ _ _ _, L.ints_ (k := .u64) (lo := 0) 0 [1] rfl rfl (by show 1 ≤ 65536; omega) (Nat.zero_le _)⟩) (L.us_ 0 rfl)).mono ?_
  rintro e w13 ⟨h5, rfl, L', K'⟩
  have Lb := L.lts
  replace L := L.over K'
  replace L := L.lists Lb L'
  clear Lb
  try dsimp only [lF, List.cons_append, List.nil_append] at L
  have e3_5 : h5.n3 = 0 := no_items L'.i3
  clear L'
  go_upto_region 9 with (refine wpList_store_row rfl 41 (.tmp 8) (.tmp 33) rfl _ _ rfl (show _ = Value.agg (opv h5 ⟨0, 0, 0, 0, false, 6, 0, 2, 0, 0, 0, false, 0, 0, 0, 0⟩) from rfl) _ _ (Bk.new _ _ _) op_sz rfl (opv_one _ _) ?_)
  try rw [World.setRow_alloc_new]
  replace L := (L).alloc (opv h5 ⟨0, 0, 0, 0, false, 6, 0, 2, 0, 0, 0, false, 0, 0, 0, 0⟩) 41
  try simp only [World.size_alloc] at L
  try dsimp only [nput] at L
  generalize (w13).alloc (.cells (opv h5 ⟨0, 0, 0, 0, false, 6, 0, 2, 0, 0, 0, false, 0, 0, 0, 0⟩) 41) = w14 at L ⊢
  generalize w13.heap.size = gT at L ⊢
  have P_16 := L.at_ 5 16 rfl (v := .int .i64 1) rfl
  have P_13 := L.at_ 5 13 rfl (v := .int .u64 18446744073709551614) rfl
  have Q_10 := L.at_ 4 10 rfl (v := .int .i64 1) rfl
  have Q_16 := L.at_ 4 16 rfl (v := .int .i64 0) rfl
  have Q_8 := L.at_ 4 8 rfl (v := .int .i64 1) rfl
  have R_16 := L.at_ 3 16 rfl (v := .int .i64 1) rfl
  have S_8 := L.at_ 2 8 rfl (v := .int .i64 2) rfl
  have S_11 := L.at_ 2 11 rfl (v := .int .i64 0) rfl
  have T_8 := L.at_ 0 8 rfl (v := .int .i64 6) rfl
  have T_10 := L.at_ 0 10 rfl (v := .int .i64 2) rfl
  have T_15 := L.at_ 0 15 rfl (v := .slice h5.A3 h5.n3 h5.c3) rfl
  have P_z := L.lt 5 rfl
  have Q_z := L.lt 4 rfl
  have R_z := L.lt 3 rfl
  have S_z := L.lt 2 rfl
  have T_z := L.lt 0 rfl
  go_wp2_with fail
  clear P_16 P_13 Q_10 Q_16 Q_8 R_16 S_8 S_11 T_8 T_10 T_15 P_z Q_z R_z S_z T_z
  go_ret
  exact ⟨rfl, L.K⟩
end Go.Proofs.Ytlaejiephpmniaa
