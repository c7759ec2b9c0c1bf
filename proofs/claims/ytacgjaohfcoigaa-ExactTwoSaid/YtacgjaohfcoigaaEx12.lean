/-
  What the functions that these laws call answer, and what follows of it; conditions: those that each theorem names. In this file: ExactAwake, ExactOpen.
-/
import Derived.Test.YtacgjaohfcoigaaEx11
import Derived.Deep.DeepCutAuto
/-
  The anchor of layer 18's laws answers true.
-/
namespace Go.Proofs.Ytacgjaohfcoigaa
set_option maxRecDepth 100000
set_option maxRecDepth 100000
open Go.RowKit
set_option linter.unusedVariables false
theorem much30 : Much 4 30 4 := ⟨by decide +kernel, by decide +kernel⟩
/-- The anchor's operations: beginning (2: a grant, 5: a question), read, claimed; another grant, a question, the claim again; the cells ahead and behind. -/
def axA : Sc := eS0 2 6 2
def axQ : Sc := eS0 5 6 2
def axY : List Nat := cl (nw 4 []) (lv 4) (tv 4) (lv 4)
def ax1 : Sc := eS 4 4 axY axA
def axZ : List Nat := gC 4 axY ax1
def ax2 : Sc := eS 4 4 axY ax1
def ax3 : Sc := eS 4 4 axZ axA
def ax4 : Sc := eS 4 4 axZ axQ
def ax5 : Sc := eS 4 4 axZ ax1
theorem ax1_p : ax1.phase = 3 := by decide +kernel
theorem ax2_a : ax2.aad = 6 := by decide +kernel
theorem ax2_p : ax2.phase = 0 := by decide +kernel
theorem ax3_e : ax3.err = 5 := by decide +kernel
theorem ax4_u : ax4.used = true := by decide +kernel
theorem ax5_p : ax5.phase = 8 := by decide +kernel
theorem ax_y : YI 4 [] axY := yi_start.1
theorem ax_a : EI 4 4 [] 2 axA := ei_start (.inl rfl) (by omega) (by decide +kernel)
theorem ax_q : EI 4 4 [] 2 axQ := ei_start (.inr rfl) (by omega) (by decide +kernel)
theorem ax_1 : EI 4 4 [] 2 ax1 := (ei_step (by omega) (by omega) ax_a ax_y).1
theorem ax_z : YI 4 [] axZ := (ei_step (by omega) (by omega) ax_1 ax_y).2
theorem ax_cells (w : World) : Calls Try.prog 8 #[.agg #[.int .u32 4, .int .i64 30, .slice none 0 0, .int .i64 1, .int .i64 1, .int .i64 1, .int .i64 1]] w (RetSM 3 axY w) :=
  wcells_new (a := 4) (M := 4) (lo := 0) (by omega) much30 (IS.none_ _ _ _) (by omega) (by decide +kernel)
theorem ax_begin (kd : Int) (w : World) : Calls Try.prog 11 #[.agg #[.int .u32 4, .int .i64 30, .slice none 0 0, .int .i64 1, .int .i64 1, .int .i64 1, .int .i64 1], .agg #[.int .i64 kd, .int .u32 6, .slice none 0 0]] w (RetXB (eS0 kd 6 2) [] hd0 w) :=
  xbegin_any (a := 4) (M := 4) (ns := 1) (o := 2) (X := 6) (kd := kd) (p := 30) (wo := 1) (qu := 1) (tr := 1) (A := none) (n := 0) (c := 0) (by omega) much30 (by omega) (by omega) (by omega) (IS.none_ .u32 0 w) (by omega)
theorem ax_step {w : World} {lo d : Nat} {B : Option Addr} {h : Hd} {s : Sc} {ys : List Nat} (hE : EI 4 4 [] 2 s) (hY : YI 4 [] ys) (hU : US w B 3 d ys) (hL : Lists lo w h ⟨[], [], [], []⟩) :
    Calls Try.prog 13 #[.agg #[.int .u32 4, .int .i64 30, .slice none 0 0, .int .i64 1, .int .i64 1, .int .i64 1, .int .i64 1], .slice B 3 d, .agg (opv h s)] w (RetX (eS 4 4 ys s) ⟨[], [], [], []⟩ 3 (gC 4 ys s) (eB ys s) B w) :=
  xs_any (a := 4) (M := 4) (ns := 1) (wo := 1) (qu := 1) (tr := 1) (A := none) (n := 0) (c := 0) (by omega) much30 hE hY hU hL (by decide)
theorem ax_s1 {w : World} {lo d : Nat} {B : Option Addr} {h : Hd} (hU : US w B 3 d axY) (hL : Lists lo w h ⟨[], [], [], []⟩) : Calls Try.prog 13 #[.agg #[.int .u32 4, .int .i64 30, .slice none 0 0, .int .i64 1, .int .i64 1, .int .i64 1, .int .i64 1], .slice B 3 d, .agg (opv h axA)] w (RetX ax1 ⟨[], [], [], []⟩ 3 (gC 4 axY axA) false B w) := by
  have R := ax_step ax_a ax_y hU hL
  rw [show eB axY axA = false by decide +kernel] at R; exact R
theorem ax_s2 {w : World} {lo d : Nat} {B : Option Addr} {h : Hd} (hU : US w B 3 d axY) (hL : Lists lo w h ⟨[], [], [], []⟩) : Calls Try.prog 13 #[.agg #[.int .u32 4, .int .i64 30, .slice none 0 0, .int .i64 1, .int .i64 1, .int .i64 1, .int .i64 1], .slice B 3 d, .agg (opv h ax1)] w (RetX ax2 ⟨[], [], [], []⟩ 3 axZ true B w) := by
  have R := ax_step ax_1 ax_y hU hL
  rw [show eB axY ax1 = true by decide +kernel] at R; exact R
theorem ax_s3 {w : World} {lo d : Nat} {B : Option Addr} {h : Hd} (hU : US w B 3 d axZ) (hL : Lists lo w h ⟨[], [], [], []⟩) : Calls Try.prog 13 #[.agg #[.int .u32 4, .int .i64 30, .slice none 0 0, .int .i64 1, .int .i64 1, .int .i64 1, .int .i64 1], .slice B 3 d, .agg (opv h axA)] w (RetX ax3 ⟨[], [], [], []⟩ 3 (gC 4 axZ axA) true B w) := by
  have R := ax_step ax_a ax_z hU hL
  rw [show eB axZ axA = true by decide +kernel] at R; exact R
theorem ax_s4 {w : World} {lo d : Nat} {B : Option Addr} {h : Hd} (hU : US w B 3 d axZ) (hL : Lists lo w h ⟨[], [], [], []⟩) : Calls Try.prog 13 #[.agg #[.int .u32 4, .int .i64 30, .slice none 0 0, .int .i64 1, .int .i64 1, .int .i64 1, .int .i64 1], .slice B 3 d, .agg (opv h axQ)] w (RetX ax4 ⟨[], [], [], []⟩ 3 (gC 4 axZ axQ) true B w) := by
  have R := ax_step ax_q ax_z hU hL
  rw [show eB axZ axQ = true by decide +kernel] at R; exact R
theorem ax_s5 {w : World} {lo d : Nat} {B : Option Addr} {h : Hd} (hU : US w B 3 d axZ) (hL : Lists lo w h ⟨[], [], [], []⟩) : Calls Try.prog 13 #[.agg #[.int .u32 4, .int .i64 30, .slice none 0 0, .int .i64 1, .int .i64 1, .int .i64 1, .int .i64 1], .slice B 3 d, .agg (opv h ax1)] w (RetX ax5 ⟨[], [], [], []⟩ 3 (gC 4 axZ ax1) false B w) := by
  have R := ax_step ax_1 ax_z hU hL
  rw [show eB axZ ax1 = false by decide +kernel] at R; exact R
set_option maxRecDepth 100000 in
set_option maxHeartbeats 2000000 in
theorem awake_any (w : World) :
    Calls Try.prog 6 #[] w (RetBo true w) := by
  have hH0 : Lists 0 w hd0 ⟨[], [], [], []⟩ := ⟨IS.none_ _ _ _, IS.none_ _ _ _, IS.none_ _ _ _, IS.none_ _ _ _⟩
  go_enter Try.func6, Try.ntmps6
  go_upto_region 1 with (fail)
  have L := Loc.start w
  go_upto_region 2 with (refine wpList_store_row rfl 27 (.tmp 1) (.tmp 20) rfl _ _ rfl (show _ = Value.agg (#[.int .u32 4, .int .i64 30, .slice none 0 0, .int .i64 1, .int .i64 1, .int .i64 1, .int .i64 1]) from rfl) _ _ (Bk.new _ _ _) cf_sz rfl (by simp [Value.oneCell']) ?_)
  try rw [World.setRow_alloc_new]
  replace L := (L).alloc #[.int .u32 4, .int .i64 30, .slice none 0 0, .int .i64 1, .int .i64 1, .int .i64 1, .int .i64 1] 27
  try simp only [World.size_alloc] at L
  try dsimp only [nput] at L
  generalize (w).alloc (.cells #[.int .u32 4, .int .i64 30, .slice none 0 0, .int .i64 1, .int .i64 1, .int .i64 1, .int .i64 1] 27) = w1 at L ⊢
  generalize w.heap.size = gC at L ⊢
  go_wp2_with (refine wpList_load_row rfl 27 (.tmp 1) rfl gC rfl _ _ (0, 0) _ (L.bk_ 0 rfl) Try.underlying27 rfl cf_sz ?_)
  refine (ax_cells _).mono ?_
  rintro e w2 ⟨gU, dU, rfl, U, hgU, K'⟩
  have Lb := L.lts
  replace L := L.over K'
  replace L := L.us_av (fun i b e b' o e' => by injection e' with e'; injection e' with e1; have := Lb i b e; omega) U
  clear Lb
  try dsimp only [lF, List.cons_append, List.nil_append] at L
  clear U hgU
  go_upto_region 4 with (refine wpList_store_row rfl 30 (.tmp 3) (.tmp 23) rfl _ _ rfl (show _ = Value.agg (#[.int .i64 2, .int .u32 6, .slice none 0 0]) from rfl) _ _ (Bk.new _ _ _) ak_sz rfl (by simp [Value.oneCell']) ?_)
  try rw [World.setRow_alloc_new]
  replace L := (L).alloc #[.int .i64 2, .int .u32 6, .slice none 0 0] 30
  try simp only [World.size_alloc] at L
  try dsimp only [nput] at L
  generalize (w2).alloc (.cells #[.int .i64 2, .int .u32 6, .slice none 0 0] 30) = w3 at L ⊢
  generalize w2.heap.size = gQ at L ⊢
  try simp only [Act.put]
  go_cut [4, 5, 6] from 24 to 33 (fun q0 q1 q2 wx => ∃ (gO : Nat) (h1 : Hd) (B1 : Option Addr) (d1 : Nat), q0 = Value.slice B1 3 d1 ∧ q1 = Value.pointer (some ⟨gO, 0, none⟩) ∧ q2 = Value.bool false ∧ Loc w wx [(gO, 44, opv h1 ax1), (gQ, 30, #[.int .i64 2, .int .u32 6, .slice none 0 0]), (gC, 27, #[.int .u32 4, .int .i64 30, .slice none 0 0, .int .i64 1, .int .i64 1, .int .i64 1, .int .i64 1])] [oF h1 ⟨[], [], [], []⟩, uF (some ⟨gU, 0, none⟩) 3 dU axY])
  case first =>
    replace L := L.drew
    refine wp_region_held_drew (S := fun w' => Loc w w' [(gQ, 30, #[.int .i64 2, .int .u32 6, .slice none 0 0]), (gC, 27, #[.int .u32 4, .int .i64 30, .slice none 0 0, .int .i64 1, .int .i64 1, .int .i64 1, .int .i64 1])] [uF (some ⟨gU, 0, none⟩) 3 dU axY]) (by kernel_rfl) L (fun hHeld => ?_)
    generalize w3.drew = v4 at hHeld L ⊢
    refine wpAnyH_take (i := 0) (oi := ⟨some 25, _, _, _, _, _⟩) (v := .agg (#[.int .u32 4, .int .i64 30, .slice none 0 0, .int .i64 1, .int .i64 1, .int .i64 1, .int .i64 1])) rfl (by kernel_rfl) (by kernel_rfl) (by kernel_rfl) (fun _ _ _ h => h) (yieldsIf_load_row (by rfl) 27 (.tmp 1) rfl gC rfl 27 _ (0, 0) _ (fun _ hS => ((hS).bk_ 1 rfl)) Try.underlying27 rfl cf_sz) hHeld ?_
    try simp only [Act.put, List.setIfInBounds_toArray, List.set_cons_zero, List.set_cons_succ]
    refine wpAnyH_take (i := 1) (oi := ⟨some 26, _, _, _, _, _⟩) (v := .slice (some ⟨gU, 0, none⟩) 3 dU) rfl (by kernel_rfl) (by kernel_rfl) (by kernel_rfl) (fun _ _ _ h => h) (Or.inl ⟨by rfl, ?_⟩) hHeld ?_
    · intro ww hS
      try dsimp only at hS
      go_simp
      try with_reducible rfl
      try omega
    try simp only [Act.put, List.setIfInBounds_toArray, List.set_cons_zero, List.set_cons_succ]
    refine wpAnyH_take (i := 2) (oi := ⟨some 27, _, _, _, _, _⟩) (v := .agg (#[.int .u32 4, .int .i64 30, .slice none 0 0, .int .i64 1, .int .i64 1, .int .i64 1, .int .i64 1])) rfl (by kernel_rfl) (by kernel_rfl) (by kernel_rfl) (fun _ _ _ h => h) (yieldsIf_load_row (by rfl) 27 (.tmp 1) rfl gC rfl 27 _ (0, 0) _ (fun _ hS => ((hS).bk_ 1 rfl)) Try.underlying27 rfl cf_sz) hHeld ?_
    try simp only [Act.put, List.setIfInBounds_toArray, List.set_cons_zero, List.set_cons_succ]
    refine wpAnyH_take (i := 3) (oi := ⟨some 28, _, _, _, _, _⟩) (v := .agg (#[.int .i64 2, .int .u32 6, .slice none 0 0])) rfl (by kernel_rfl) (by kernel_rfl) (by kernel_rfl) (fun _ _ _ h => h) (yieldsIf_load_row (by rfl) 30 (.tmp 3) rfl gQ rfl 30 _ (0, 0) _ (fun _ hS => ((hS).bk_ 0 rfl)) Try.underlying30 rfl ak_sz) hHeld ?_
    try simp only [Act.put, List.setIfInBounds_toArray, List.set_cons_zero, List.set_cons_succ]
    refine wpAnyH_ready (rs := [4, 10]) (by kernel_rfl) (by simp) ?_
    refine (AllReadyH.cons (o := ⟨some 29, _, _, _, _, _⟩) rfl (fun K0 hK => ?_) (AllReadyH.cons (o := ⟨some 5, _, _, _, _, _⟩) rfl (fun K0 hK => ?_) AllReadyH.nil))
    · go_simp
      refine (ax_begin 2 _).mono ?_
      rintro e w5 ⟨h0, rfl, L', hSA, K'⟩
      have Lb := L.lts
      replace L := L.over K'
      replace L := L.of_ap L' (fun i b e => hSA b.1 (Lb i b e) (hH0.hap L i b e))
      clear Lb
      try dsimp only [lF, List.cons_append, List.nil_append] at L
      clear L' hSA
      refine hK.out _ _ (L.less 1) (fun hHeld' => ?_)
      clear hHeld hK K0
      have hHeld := hHeld'
      clear hHeld'
      clear K'
      try simp only [Act.put, List.setIfInBounds_toArray, List.set_cons_zero, List.set_cons_succ]
      refine wpAnyH_ready (rs := [5, 10]) (by kernel_rfl) (by simp) ?_
      refine (AllReadyH.cons (o := ⟨some 30, _, _, _, _, _⟩) rfl (fun K0 hK => ?_) (AllReadyH.cons (o := ⟨some 5, _, _, _, _, _⟩) rfl (fun K0 hK => ?_) AllReadyH.nil))
      · go_simp
        refine (ax_s1 (L.us_ 1 rfl) (L.of_ 0 rfl)).mono ?_
        rintro e w6 ⟨h1, B1, d1, rfl, U, L', hA, K'⟩
        have Lb := L.lts
        replace L := L.over K'
        replace L := L.us_av (fun i b e => hA b.1 (Lb i b e) (L.ap_ 1 rfl (by omega) i b e)) U
        replace L := L.of_new Lb L'
        clear Lb
        try dsimp only [lF, List.cons_append, List.nil_append] at L
        clear U L' hA
        refine hK.out _ _ (L.less 3) (fun hHeld' => ?_)
        clear hHeld hK K0
        have hHeld := hHeld'
        clear hHeld'
        clear K'
        try simp only [Act.put, List.setIfInBounds_toArray, List.set_cons_zero, List.set_cons_succ]
        refine wpAnyH_take (i := 6) (oi := ⟨some 24, _, _, _, _, _⟩) (v := ?_) rfl (by kernel_rfl) (by kernel_rfl) (by kernel_rfl) (fun _ _ _ h => h) (Or.inl ⟨by rfl, ?_⟩) hHeld ?_
        rotate_left
        · intro ww hS
          try dsimp only at hS
          go_simp
          try with_reducible rfl
          try omega
        try simp only [Act.put, List.setIfInBounds_toArray, List.set_cons_zero, List.set_cons_succ]
        refine wpAnyH_take (i := 7) (oi := ⟨some 31, _, _, _, _, _⟩) (v := .slice B1 3 d1) rfl (by kernel_rfl) (by kernel_rfl) (by kernel_rfl) (fun _ _ _ h => h) (Or.inl ⟨by rfl, ?_⟩) hHeld ?_
        · intro ww hS
          try dsimp only at hS
          go_simp
          try with_reducible rfl
          try omega
        try simp only [Act.put, List.setIfInBounds_toArray, List.set_cons_zero, List.set_cons_succ]
        refine wpAnyH_take (i := 8) (oi := ⟨some 32, _, _, _, _, _⟩) (v := .agg (opv h1 ax1)) rfl (by kernel_rfl) (by kernel_rfl) (by kernel_rfl) (fun _ _ _ h => h) (Or.inl ⟨by rfl, ?_⟩) hHeld ?_
        · intro ww hS
          try dsimp only at hS
          go_simp
          try with_reducible rfl
          try omega
        try simp only [Act.put, List.setIfInBounds_toArray, List.set_cons_zero, List.set_cons_succ]
        refine wpAnyH_take (i := 9) (oi := ⟨some 33, _, _, _, _, _⟩) (v := .bool false) rfl (by kernel_rfl) (by kernel_rfl) (by kernel_rfl) (fun _ _ _ h => h) (Or.inl ⟨by rfl, ?_⟩) hHeld ?_
        · intro ww hS
          try dsimp only at hS
          go_simp
          try with_reducible rfl
          try omega
        try simp only [Act.put, List.setIfInBounds_toArray, List.set_cons_zero, List.set_cons_succ]
        refine wpAnyH_ready (rs := [10]) (by kernel_rfl) (by simp) ?_
        refine AllReadyH.cons (o := ⟨some 5, _, _, _, _, _⟩) rfl (fun K0 hK => ?_) AllReadyH.nil
        go_simp
        refine hK.out _ _ ((L.other _).less 3) (fun hHeld' => ?_)
        clear hHeld hK K0
        have hHeld := hHeld'
        clear hHeld'
        replace L := L.alloc #[.int .i64 0, .int .u32 0, .slice none 0 0, .int .i64 0, .int .u32 0, .bool false, .slice none 0 0, .slice none 0 0, .int .i64 0, .int .i64 0, .int .i64 0, .int .i64 0, .int .i64 0, .int .u64 0, .bool false, .slice none 0 0, .int .i64 0, .int .i64 0, .int .i64 0, .int .i64 0] 44
        replace L := L.is 0 (opv hd0 sc0) rfl
        try dsimp only [nput] at L
        generalize w6.alloc (.cells #[.int .i64 0, .int .u32 0, .slice none 0 0, .int .i64 0, .int .u32 0, .bool false, .slice none 0 0, .slice none 0 0, .int .i64 0, .int .i64 0, .int .i64 0, .int .i64 0, .int .i64 0, .int .u64 0, .bool false, .slice none 0 0, .int .i64 0, .int .i64 0, .int .i64 0, .int .i64 0] 44) = v7 at hHeld L ⊢
        generalize w6.heap.size = gO at L ⊢
        try simp only [Act.put, List.setIfInBounds_toArray, List.set_cons_zero, List.set_cons_succ]
        refine wpAnyH_take (i := 11) (oi := ⟨some 4, _, _, _, _, _⟩) (v := .slice B1 3 d1) rfl (by kernel_rfl) (by kernel_rfl) (by kernel_rfl) (fun _ _ _ h => h) (Or.inl ⟨by rfl, ?_⟩) hHeld ?_
        · intro ww hS
          try dsimp only at hS
          go_simp
          try with_reducible rfl
          try omega
        try simp only [Act.put, List.setIfInBounds_toArray, List.set_cons_zero, List.set_cons_succ]
        refine wpAnyH_ready (rs := [12]) (by kernel_rfl) (by simp) ?_
        refine AllReadyH.cons (o := ⟨none, _, _, _, _, _⟩) rfl (fun K0 hK => ?_) AllReadyH.nil
        rw [if_pos (by rfl)]
        refine wp_store_row 44 (.tmp 5) (.tmp 32) rfl gO _ rfl rfl _ _ (L.bk_ 0 rfl) op_sz rfl (opv_one _ _) ?_
        replace L := L.row 0 rfl (opv h1 ax1)
        try dsimp only [nput] at L
        refine hK.out _ _ ((L.less 3).del 0) (fun hHeld' => ?_)
        clear hHeld hK K0
        have hHeld := hHeld'
        clear hHeld'
        generalize v7.setRow gO (opv h1 ax1) = v8 at hHeld L ⊢
        try simp only [Act.put]
        refine wpAnyH_take (i := 13) (oi := ⟨some 6, _, _, _, _, _⟩) (v := .bool false) rfl (by kernel_rfl) (by kernel_rfl) (by kernel_rfl) (fun _ _ _ h => h) (Or.inl ⟨by rfl, ?_⟩) hHeld ?_
        · intro ww hS
          try dsimp only at hS
          go_simp
          try with_reducible rfl
          try omega
        try simp only [Act.put, List.setIfInBounds_toArray, List.set_cons_zero, List.set_cons_succ]
        refine wpAnyH_done (by kernel_rfl) ?_ _
        clear hHeld
        go_wp2
        replace L := L.only (fs' := [oF h1 ⟨[], [], [], []⟩, uF (some ⟨gU, 0, none⟩) 3 dU axY]) (by simp)
        go_meet
        exact ⟨_, _, _, _, rfl, rfl, rfl, L⟩
      · go_simp
        refine hK.out _ _ ((L.other _).less 1) (fun hHeld' => ?_)
        clear hHeld hK K0
        have hHeld := hHeld'
        clear hHeld'
        replace L := L.alloc #[.int .i64 0, .int .u32 0, .slice none 0 0, .int .i64 0, .int .u32 0, .bool false, .slice none 0 0, .slice none 0 0, .int .i64 0, .int .i64 0, .int .i64 0, .int .i64 0, .int .i64 0, .int .u64 0, .bool false, .slice none 0 0, .int .i64 0, .int .i64 0, .int .i64 0, .int .i64 0] 44
        replace L := L.is 0 (opv hd0 sc0) rfl
        try dsimp only [nput] at L
        generalize w5.alloc (.cells #[.int .i64 0, .int .u32 0, .slice none 0 0, .int .i64 0, .int .u32 0, .bool false, .slice none 0 0, .slice none 0 0, .int .i64 0, .int .i64 0, .int .i64 0, .int .i64 0, .int .i64 0, .int .u64 0, .bool false, .slice none 0 0, .int .i64 0, .int .i64 0, .int .i64 0, .int .i64 0] 44) = v6 at hHeld L ⊢
        generalize w5.heap.size = gO at L ⊢
        try simp only [Act.put, List.setIfInBounds_toArray, List.set_cons_zero, List.set_cons_succ]
        refine wpAnyH_ready (rs := [5]) (by kernel_rfl) (by simp) ?_
        refine AllReadyH.cons (o := ⟨some 30, _, _, _, _, _⟩) rfl (fun K0 hK => ?_) AllReadyH.nil
        go_simp
        refine (ax_s1 (L.us_ 1 rfl) (L.of_ 0 rfl)).mono ?_
        rintro e w7 ⟨h1, B1, d1, rfl, U, L', hA, K'⟩
        have Lb := L.lts
        replace L := L.over K'
        replace L := L.us_av (fun i b e => hA b.1 (Lb i b e) (L.ap_ 1 rfl (by omega) i b e)) U
        replace L := L.of_new Lb L'
        clear Lb
        try dsimp only [lF, List.cons_append, List.nil_append] at L
        clear U L' hA
        refine hK.out _ _ ((L.less 3).del 0) (fun hHeld' => ?_)
        clear hHeld hK K0
        have hHeld := hHeld'
        clear hHeld'
        clear K'
        try simp only [Act.put, List.setIfInBounds_toArray, List.set_cons_zero, List.set_cons_succ]
        refine wpAnyH_take (i := 6) (oi := ⟨some 24, _, _, _, _, _⟩) (v := ?_) rfl (by kernel_rfl) (by kernel_rfl) (by kernel_rfl) (fun _ _ _ h => h) (Or.inl ⟨by rfl, ?_⟩) hHeld ?_
        rotate_left
        · intro ww hS
          try dsimp only at hS
          go_simp
          try with_reducible rfl
          try omega
        try simp only [Act.put, List.setIfInBounds_toArray, List.set_cons_zero, List.set_cons_succ]
        refine wpAnyH_take (i := 7) (oi := ⟨some 31, _, _, _, _, _⟩) (v := .slice B1 3 d1) rfl (by kernel_rfl) (by kernel_rfl) (by kernel_rfl) (fun _ _ _ h => h) (Or.inl ⟨by rfl, ?_⟩) hHeld ?_
        · intro ww hS
          try dsimp only at hS
          go_simp
          try with_reducible rfl
          try omega
        try simp only [Act.put, List.setIfInBounds_toArray, List.set_cons_zero, List.set_cons_succ]
        refine wpAnyH_take (i := 8) (oi := ⟨some 32, _, _, _, _, _⟩) (v := .agg (opv h1 ax1)) rfl (by kernel_rfl) (by kernel_rfl) (by kernel_rfl) (fun _ _ _ h => h) (Or.inl ⟨by rfl, ?_⟩) hHeld ?_
        · intro ww hS
          try dsimp only at hS
          go_simp
          try with_reducible rfl
          try omega
        try simp only [Act.put, List.setIfInBounds_toArray, List.set_cons_zero, List.set_cons_succ]
        refine wpAnyH_take (i := 9) (oi := ⟨some 33, _, _, _, _, _⟩) (v := .bool false) rfl (by kernel_rfl) (by kernel_rfl) (by kernel_rfl) (fun _ _ _ h => h) (Or.inl ⟨by rfl, ?_⟩) hHeld ?_
        · intro ww hS
          try dsimp only at hS
          go_simp
          try with_reducible rfl
          try omega
        try simp only [Act.put, List.setIfInBounds_toArray, List.set_cons_zero, List.set_cons_succ]
        refine wpAnyH_take (i := 11) (oi := ⟨some 4, _, _, _, _, _⟩) (v := .slice B1 3 d1) rfl (by kernel_rfl) (by kernel_rfl) (by kernel_rfl) (fun _ _ _ h => h) (Or.inl ⟨by rfl, ?_⟩) hHeld ?_
        · intro ww hS
          try dsimp only at hS
          go_simp
          try with_reducible rfl
          try omega
        try simp only [Act.put, List.setIfInBounds_toArray, List.set_cons_zero, List.set_cons_succ]
        refine wpAnyH_ready (rs := [12]) (by kernel_rfl) (by simp) ?_
        refine AllReadyH.cons (o := ⟨none, _, _, _, _, _⟩) rfl (fun K0 hK => ?_) AllReadyH.nil
        rw [if_pos (by rfl)]
        refine wp_store_row 44 (.tmp 5) (.tmp 32) rfl gO _ rfl rfl _ _ (L.bk_ 0 rfl) op_sz rfl (opv_one _ _) ?_
        replace L := L.row 0 rfl (opv h1 ax1)
        try dsimp only [nput] at L
        refine hK.out _ _ ((L.less 3).del 0) (fun hHeld' => ?_)
        clear hHeld hK K0
        have hHeld := hHeld'
        clear hHeld'
        generalize w7.setRow gO (opv h1 ax1) = v8 at hHeld L ⊢
        try simp only [Act.put]
        refine wpAnyH_take (i := 13) (oi := ⟨some 6, _, _, _, _, _⟩) (v := .bool false) rfl (by kernel_rfl) (by kernel_rfl) (by kernel_rfl) (fun _ _ _ h => h) (Or.inl ⟨by rfl, ?_⟩) hHeld ?_
        · intro ww hS
          try dsimp only at hS
          go_simp
          try with_reducible rfl
          try omega
        try simp only [Act.put, List.setIfInBounds_toArray, List.set_cons_zero, List.set_cons_succ]
        refine wpAnyH_done (by kernel_rfl) ?_ _
        clear hHeld
        go_wp2
        replace L := L.only (fs' := [oF h1 ⟨[], [], [], []⟩, uF (some ⟨gU, 0, none⟩) 3 dU axY]) (by simp)
        go_meet
        exact ⟨_, _, _, _, rfl, rfl, rfl, L⟩
    · go_simp
      refine hK.out _ _ (L.other _) (fun hHeld' => ?_)
      clear hHeld hK K0
      have hHeld := hHeld'
      clear hHeld'
      replace L := L.alloc #[.int .i64 0, .int .u32 0, .slice none 0 0, .int .i64 0, .int .u32 0, .bool false, .slice none 0 0, .slice none 0 0, .int .i64 0, .int .i64 0, .int .i64 0, .int .i64 0, .int .i64 0, .int .u64 0, .bool false, .slice none 0 0, .int .i64 0, .int .i64 0, .int .i64 0, .int .i64 0] 44
      replace L := L.is 0 (opv hd0 sc0) rfl
      try dsimp only [nput] at L
      generalize v4.alloc (.cells #[.int .i64 0, .int .u32 0, .slice none 0 0, .int .i64 0, .int .u32 0, .bool false, .slice none 0 0, .slice none 0 0, .int .i64 0, .int .i64 0, .int .i64 0, .int .i64 0, .int .i64 0, .int .u64 0, .bool false, .slice none 0 0, .int .i64 0, .int .i64 0, .int .i64 0, .int .i64 0] 44) = v5 at hHeld L ⊢
      generalize v4.heap.size = gO at L ⊢
      try simp only [Act.put, List.setIfInBounds_toArray, List.set_cons_zero, List.set_cons_succ]
      refine wpAnyH_ready (rs := [4]) (by kernel_rfl) (by simp) ?_
      refine AllReadyH.cons (o := ⟨some 29, _, _, _, _, _⟩) rfl (fun K0 hK => ?_) AllReadyH.nil
      go_simp
      refine (ax_begin 2 _).mono ?_
      rintro e w6 ⟨h0, rfl, L', hSA, K'⟩
      have Lb := L.lts
      replace L := L.over K'
      replace L := L.of_ap L' (fun i b e => hSA b.1 (Lb i b e) (hH0.hap L i b e))
      clear Lb
      try dsimp only [lF, List.cons_append, List.nil_append] at L
      clear L' hSA
      refine hK.out _ _ ((L.less 1).del 0) (fun hHeld' => ?_)
      clear hHeld hK K0
      have hHeld := hHeld'
      clear hHeld'
      clear K'
      try simp only [Act.put, List.setIfInBounds_toArray, List.set_cons_zero, List.set_cons_succ]
      refine wpAnyH_ready (rs := [5]) (by kernel_rfl) (by simp) ?_
      refine AllReadyH.cons (o := ⟨some 30, _, _, _, _, _⟩) rfl (fun K0 hK => ?_) AllReadyH.nil
      go_simp
      refine (ax_s1 (L.us_ 1 rfl) (L.of_ 0 rfl)).mono ?_
      rintro e w7 ⟨h1, B1, d1, rfl, U, L', hA, K'⟩
      have Lb := L.lts
      replace L := L.over K'
      replace L := L.us_av (fun i b e => hA b.1 (Lb i b e) (L.ap_ 1 rfl (by omega) i b e)) U
      replace L := L.of_new Lb L'
      clear Lb
      try dsimp only [lF, List.cons_append, List.nil_append] at L
      clear U L' hA
      refine hK.out _ _ ((L.less 3).del 0) (fun hHeld' => ?_)
      clear hHeld hK K0
      have hHeld := hHeld'
      clear hHeld'
      clear K'
      try simp only [Act.put, List.setIfInBounds_toArray, List.set_cons_zero, List.set_cons_succ]
      refine wpAnyH_take (i := 6) (oi := ⟨some 24, _, _, _, _, _⟩) (v := ?_) rfl (by kernel_rfl) (by kernel_rfl) (by kernel_rfl) (fun _ _ _ h => h) (Or.inl ⟨by rfl, ?_⟩) hHeld ?_
      rotate_left
      · intro ww hS
        try dsimp only at hS
        go_simp
        try with_reducible rfl
        try omega
      try simp only [Act.put, List.setIfInBounds_toArray, List.set_cons_zero, List.set_cons_succ]
      refine wpAnyH_take (i := 7) (oi := ⟨some 31, _, _, _, _, _⟩) (v := .slice B1 3 d1) rfl (by kernel_rfl) (by kernel_rfl) (by kernel_rfl) (fun _ _ _ h => h) (Or.inl ⟨by rfl, ?_⟩) hHeld ?_
      · intro ww hS
        try dsimp only at hS
        go_simp
        try with_reducible rfl
        try omega
      try simp only [Act.put, List.setIfInBounds_toArray, List.set_cons_zero, List.set_cons_succ]
      refine wpAnyH_take (i := 8) (oi := ⟨some 32, _, _, _, _, _⟩) (v := .agg (opv h1 ax1)) rfl (by kernel_rfl) (by kernel_rfl) (by kernel_rfl) (fun _ _ _ h => h) (Or.inl ⟨by rfl, ?_⟩) hHeld ?_
      · intro ww hS
        try dsimp only at hS
        go_simp
        try with_reducible rfl
        try omega
      try simp only [Act.put, List.setIfInBounds_toArray, List.set_cons_zero, List.set_cons_succ]
      refine wpAnyH_take (i := 9) (oi := ⟨some 33, _, _, _, _, _⟩) (v := .bool false) rfl (by kernel_rfl) (by kernel_rfl) (by kernel_rfl) (fun _ _ _ h => h) (Or.inl ⟨by rfl, ?_⟩) hHeld ?_
      · intro ww hS
        try dsimp only at hS
        go_simp
        try with_reducible rfl
        try omega
      try simp only [Act.put, List.setIfInBounds_toArray, List.set_cons_zero, List.set_cons_succ]
      refine wpAnyH_take (i := 11) (oi := ⟨some 4, _, _, _, _, _⟩) (v := .slice B1 3 d1) rfl (by kernel_rfl) (by kernel_rfl) (by kernel_rfl) (fun _ _ _ h => h) (Or.inl ⟨by rfl, ?_⟩) hHeld ?_
      · intro ww hS
        try dsimp only at hS
        go_simp
        try with_reducible rfl
        try omega
      try simp only [Act.put, List.setIfInBounds_toArray, List.set_cons_zero, List.set_cons_succ]
      refine wpAnyH_ready (rs := [12]) (by kernel_rfl) (by simp) ?_
      refine AllReadyH.cons (o := ⟨none, _, _, _, _, _⟩) rfl (fun K0 hK => ?_) AllReadyH.nil
      rw [if_pos (by rfl)]
      refine wp_store_row 44 (.tmp 5) (.tmp 32) rfl gO _ rfl rfl _ _ (L.bk_ 0 rfl) op_sz rfl (opv_one _ _) ?_
      replace L := L.row 0 rfl (opv h1 ax1)
      try dsimp only [nput] at L
      refine hK.out _ _ ((L.less 3).del 0) (fun hHeld' => ?_)
      clear hHeld hK K0
      have hHeld := hHeld'
      clear hHeld'
      generalize w7.setRow gO (opv h1 ax1) = v8 at hHeld L ⊢
      try simp only [Act.put]
      refine wpAnyH_take (i := 13) (oi := ⟨some 6, _, _, _, _, _⟩) (v := .bool false) rfl (by kernel_rfl) (by kernel_rfl) (by kernel_rfl) (fun _ _ _ h => h) (Or.inl ⟨by rfl, ?_⟩) hHeld ?_
      · intro ww hS
        try dsimp only at hS
        go_simp
        try with_reducible rfl
        try omega
      try simp only [Act.put, List.setIfInBounds_toArray, List.set_cons_zero, List.set_cons_succ]
      refine wpAnyH_done (by kernel_rfl) ?_ _
      clear hHeld
      go_wp2
      replace L := L.only (fs' := [oF h1 ⟨[], [], [], []⟩, uF (some ⟨gU, 0, none⟩) 3 dU axY]) (by simp)
      go_meet
      exact ⟨_, _, _, _, rfl, rfl, rfl, L⟩
  case rest =>
    clear L
    obtain ⟨gO, h1, B1, d1, rfl, rfl, rfl, L⟩ := hcut
    go_wp2_with (first | (refine wpList_load_row rfl 27 (.tmp 1) rfl gC rfl _ _ (0, 0) _ (L.bk_ 2 rfl) Try.underlying27 rfl cf_sz ?_) | (refine wpList_load_row rfl 44 (.tmp 5) rfl gO rfl _ _ (0, 0) _ (L.bk_ 0 rfl) Try.underlying44 rfl op_sz ?_))
    refine (ax_s2 (L.us_ 1 rfl) (L.of_ 0 rfl)).mono ?_
    rintro e w9 ⟨h2, B2, d2, rfl, U, L', hA, K'⟩
    have Lb := L.lts
    replace L := L.over K'
    replace L := L.us_av (fun i b e => hA b.1 (Lb i b e) (L.ap_ 1 rfl (by omega) i b e)) U
    replace L := L.of_new Lb L'
    clear Lb
    try dsimp only [lF, List.cons_append, List.nil_append] at L
    clear U L' hA
    go_upto_region 6 with (refine wpList_store_row rfl 44 (.tmp 8) (.tmp 40) rfl _ _ rfl (show _ = Value.agg (opv h2 ax2) from rfl) _ _ (Bk.new _ _ _) op_sz rfl (opv_one _ _) ?_)
    try rw [World.setRow_alloc_new]
    replace L := (L).alloc (opv h2 ax2) 44
    try simp only [World.size_alloc] at L
    try dsimp only [nput] at L
    generalize (w9).alloc (.cells (opv h2 ax2) 44) = w10 at L ⊢
    generalize w9.heap.size = gP at L ⊢
    replace L := L.only (fs' := [oF h1 ⟨[], [], [], []⟩, uF B2 3 d2 axZ]) (by simp)
    try simp only [Act.put, List.setIfInBounds_toArray, List.set_cons_zero, List.set_cons_succ]
    go_cut [10, 11, 12] from 42 to 51 (fun q0 q1 q2 wx => ∃ (gS : Nat) (h3 : Hd) (B3 : Option Addr) (d3 : Nat), q0 = Value.slice B3 3 d3 ∧ q1 = Value.pointer (some ⟨gS, 0, none⟩) ∧ q2 = Value.bool true ∧ Loc w wx [(gS, 44, opv h3 ax3), (gP, 44, opv h2 ax2), (gO, 44, opv h1 ax1), (gQ, 30, #[.int .i64 2, .int .u32 6, .slice none 0 0]), (gC, 27, #[.int .u32 4, .int .i64 30, .slice none 0 0, .int .i64 1, .int .i64 1, .int .i64 1, .int .i64 1])] [oF h1 ⟨[], [], [], []⟩, uF B2 3 d2 axZ])
    case first =>
      replace L := L.drew
      refine wp_region_held_drew (S := fun w' => Loc w w' [(gP, 44, opv h2 ax2), (gO, 44, opv h1 ax1), (gQ, 30, #[.int .i64 2, .int .u32 6, .slice none 0 0]), (gC, 27, #[.int .u32 4, .int .i64 30, .slice none 0 0, .int .i64 1, .int .i64 1, .int .i64 1, .int .i64 1])] [oF h1 ⟨[], [], [], []⟩, uF B2 3 d2 axZ]) (by kernel_rfl) L (fun hHeld => ?_)
      generalize w10.drew = v11 at hHeld L ⊢
      refine wpAnyH_take (i := 0) (oi := ⟨some 43, _, _, _, _, _⟩) (v := .agg (#[.int .u32 4, .int .i64 30, .slice none 0 0, .int .i64 1, .int .i64 1, .int .i64 1, .int .i64 1])) rfl (by kernel_rfl) (by kernel_rfl) (by kernel_rfl) (fun _ _ _ h => h) (yieldsIf_load_row (by rfl) 27 (.tmp 1) rfl gC rfl 27 _ (0, 0) _ (fun _ hS => ((hS).bk_ 3 rfl)) Try.underlying27 rfl cf_sz) hHeld ?_
      try simp only [Act.put, List.setIfInBounds_toArray, List.set_cons_zero, List.set_cons_succ]
      refine wpAnyH_take (i := 1) (oi := ⟨some 44, _, _, _, _, _⟩) (v := .slice B2 3 d2) rfl (by kernel_rfl) (by kernel_rfl) (by kernel_rfl) (fun _ _ _ h => h) (Or.inl ⟨by rfl, ?_⟩) hHeld ?_
      · intro ww hS
        try dsimp only at hS
        go_simp
        try with_reducible rfl
        try omega
      try simp only [Act.put, List.setIfInBounds_toArray, List.set_cons_zero, List.set_cons_succ]
      refine wpAnyH_take (i := 2) (oi := ⟨some 45, _, _, _, _, _⟩) (v := .agg (#[.int .u32 4, .int .i64 30, .slice none 0 0, .int .i64 1, .int .i64 1, .int .i64 1, .int .i64 1])) rfl (by kernel_rfl) (by kernel_rfl) (by kernel_rfl) (fun _ _ _ h => h) (yieldsIf_load_row (by rfl) 27 (.tmp 1) rfl gC rfl 27 _ (0, 0) _ (fun _ hS => ((hS).bk_ 3 rfl)) Try.underlying27 rfl cf_sz) hHeld ?_
      try simp only [Act.put, List.setIfInBounds_toArray, List.set_cons_zero, List.set_cons_succ]
      refine wpAnyH_take (i := 3) (oi := ⟨some 46, _, _, _, _, _⟩) (v := .agg (#[.int .i64 2, .int .u32 6, .slice none 0 0])) rfl (by kernel_rfl) (by kernel_rfl) (by kernel_rfl) (fun _ _ _ h => h) (yieldsIf_load_row (by rfl) 30 (.tmp 3) rfl gQ rfl 30 _ (0, 0) _ (fun _ hS => ((hS).bk_ 2 rfl)) Try.underlying30 rfl ak_sz) hHeld ?_
      try simp only [Act.put, List.setIfInBounds_toArray, List.set_cons_zero, List.set_cons_succ]
      refine wpAnyH_ready (rs := [4, 10]) (by kernel_rfl) (by simp) ?_
      refine (AllReadyH.cons (o := ⟨some 47, _, _, _, _, _⟩) rfl (fun K0 hK => ?_) (AllReadyH.cons (o := ⟨some 11, _, _, _, _, _⟩) rfl (fun K0 hK => ?_) AllReadyH.nil))
      · go_simp
        refine (ax_begin 2 _).mono ?_
        rintro e w12 ⟨h0, rfl, L', hSA, K'⟩
        have Lb := L.lts
        replace L := L.over K'
        replace L := L.of_ap L' (fun i b e => hSA b.1 (Lb i b e) (hH0.hap L i b e))
        clear Lb
        try dsimp only [lF, List.cons_append, List.nil_append] at L
        clear L' hSA
        refine hK.out _ _ (L.less 1) (fun hHeld' => ?_)
        clear hHeld hK K0
        have hHeld := hHeld'
        clear hHeld'
        clear K'
        try simp only [Act.put, List.setIfInBounds_toArray, List.set_cons_zero, List.set_cons_succ]
        refine wpAnyH_ready (rs := [5, 10]) (by kernel_rfl) (by simp) ?_
        refine (AllReadyH.cons (o := ⟨some 48, _, _, _, _, _⟩) rfl (fun K0 hK => ?_) (AllReadyH.cons (o := ⟨some 11, _, _, _, _, _⟩) rfl (fun K0 hK => ?_) AllReadyH.nil))
        · go_simp
          refine (ax_s3 (L.us_ 2 rfl) (L.of_ 0 rfl)).mono ?_
          rintro e w13 ⟨h3, B3, d3, rfl, U, L', hA, K'⟩
          have Lb := L.lts
          replace L := L.over K'
          replace L := L.us_av (fun i b e => hA b.1 (Lb i b e) (L.ap_ 2 rfl (by omega) i b e)) U
          replace L := L.of_new Lb L'
          clear Lb
          try dsimp only [lF, List.cons_append, List.nil_append] at L
          clear U L' hA
          refine hK.out _ _ (L.less 3) (fun hHeld' => ?_)
          clear hHeld hK K0
          have hHeld := hHeld'
          clear hHeld'
          clear K'
          try simp only [Act.put, List.setIfInBounds_toArray, List.set_cons_zero, List.set_cons_succ]
          refine wpAnyH_take (i := 6) (oi := ⟨some 42, _, _, _, _, _⟩) (v := ?_) rfl (by kernel_rfl) (by kernel_rfl) (by kernel_rfl) (fun _ _ _ h => h) (Or.inl ⟨by rfl, ?_⟩) hHeld ?_
          rotate_left
          · intro ww hS
            try dsimp only at hS
            go_simp
            try with_reducible rfl
            try omega
          try simp only [Act.put, List.setIfInBounds_toArray, List.set_cons_zero, List.set_cons_succ]
          refine wpAnyH_take (i := 7) (oi := ⟨some 49, _, _, _, _, _⟩) (v := .slice B3 3 d3) rfl (by kernel_rfl) (by kernel_rfl) (by kernel_rfl) (fun _ _ _ h => h) (Or.inl ⟨by rfl, ?_⟩) hHeld ?_
          · intro ww hS
            try dsimp only at hS
            go_simp
            try with_reducible rfl
            try omega
          try simp only [Act.put, List.setIfInBounds_toArray, List.set_cons_zero, List.set_cons_succ]
          refine wpAnyH_take (i := 8) (oi := ⟨some 50, _, _, _, _, _⟩) (v := .agg (opv h3 ax3)) rfl (by kernel_rfl) (by kernel_rfl) (by kernel_rfl) (fun _ _ _ h => h) (Or.inl ⟨by rfl, ?_⟩) hHeld ?_
          · intro ww hS
            try dsimp only at hS
            go_simp
            try with_reducible rfl
            try omega
          try simp only [Act.put, List.setIfInBounds_toArray, List.set_cons_zero, List.set_cons_succ]
          refine wpAnyH_take (i := 9) (oi := ⟨some 51, _, _, _, _, _⟩) (v := .bool true) rfl (by kernel_rfl) (by kernel_rfl) (by kernel_rfl) (fun _ _ _ h => h) (Or.inl ⟨by rfl, ?_⟩) hHeld ?_
          · intro ww hS
            try dsimp only at hS
            go_simp
            try with_reducible rfl
            try omega
          try simp only [Act.put, List.setIfInBounds_toArray, List.set_cons_zero, List.set_cons_succ]
          refine wpAnyH_ready (rs := [10]) (by kernel_rfl) (by simp) ?_
          refine AllReadyH.cons (o := ⟨some 11, _, _, _, _, _⟩) rfl (fun K0 hK => ?_) AllReadyH.nil
          go_simp
          refine hK.out _ _ ((L.other _).less 3) (fun hHeld' => ?_)
          clear hHeld hK K0
          have hHeld := hHeld'
          clear hHeld'
          replace L := L.alloc #[.int .i64 0, .int .u32 0, .slice none 0 0, .int .i64 0, .int .u32 0, .bool false, .slice none 0 0, .slice none 0 0, .int .i64 0, .int .i64 0, .int .i64 0, .int .i64 0, .int .i64 0, .int .u64 0, .bool false, .slice none 0 0, .int .i64 0, .int .i64 0, .int .i64 0, .int .i64 0] 44
          replace L := L.is 0 (opv hd0 sc0) rfl
          try dsimp only [nput] at L
          generalize w13.alloc (.cells #[.int .i64 0, .int .u32 0, .slice none 0 0, .int .i64 0, .int .u32 0, .bool false, .slice none 0 0, .slice none 0 0, .int .i64 0, .int .i64 0, .int .i64 0, .int .i64 0, .int .i64 0, .int .u64 0, .bool false, .slice none 0 0, .int .i64 0, .int .i64 0, .int .i64 0, .int .i64 0] 44) = v14 at hHeld L ⊢
          generalize w13.heap.size = gS at L ⊢
          try simp only [Act.put, List.setIfInBounds_toArray, List.set_cons_zero, List.set_cons_succ]
          refine wpAnyH_take (i := 11) (oi := ⟨some 10, _, _, _, _, _⟩) (v := .slice B3 3 d3) rfl (by kernel_rfl) (by kernel_rfl) (by kernel_rfl) (fun _ _ _ h => h) (Or.inl ⟨by rfl, ?_⟩) hHeld ?_
          · intro ww hS
            try dsimp only at hS
            go_simp
            try with_reducible rfl
            try omega
          try simp only [Act.put, List.setIfInBounds_toArray, List.set_cons_zero, List.set_cons_succ]
          refine wpAnyH_ready (rs := [12]) (by kernel_rfl) (by simp) ?_
          refine AllReadyH.cons (o := ⟨none, _, _, _, _, _⟩) rfl (fun K0 hK => ?_) AllReadyH.nil
          rw [if_pos (by rfl)]
          refine wp_store_row 44 (.tmp 11) (.tmp 50) rfl gS _ rfl rfl _ _ (L.bk_ 0 rfl) op_sz rfl (opv_one _ _) ?_
          replace L := L.row 0 rfl (opv h3 ax3)
          try dsimp only [nput] at L
          refine hK.out _ _ ((L.less 3).del 0) (fun hHeld' => ?_)
          clear hHeld hK K0
          have hHeld := hHeld'
          clear hHeld'
          generalize v14.setRow gS (opv h3 ax3) = v15 at hHeld L ⊢
          try simp only [Act.put]
          refine wpAnyH_take (i := 13) (oi := ⟨some 12, _, _, _, _, _⟩) (v := .bool true) rfl (by kernel_rfl) (by kernel_rfl) (by kernel_rfl) (fun _ _ _ h => h) (Or.inl ⟨by rfl, ?_⟩) hHeld ?_
          · intro ww hS
            try dsimp only at hS
            go_simp
            try with_reducible rfl
            try omega
          try simp only [Act.put, List.setIfInBounds_toArray, List.set_cons_zero, List.set_cons_succ]
          refine wpAnyH_done (by kernel_rfl) ?_ _
          clear hHeld
          go_wp2
          replace L := L.only (fs' := [oF h1 ⟨[], [], [], []⟩, uF B2 3 d2 axZ]) (by simp)
          go_meet
          exact ⟨_, _, _, _, rfl, rfl, rfl, L⟩
        · go_simp
          refine hK.out _ _ ((L.other _).less 1) (fun hHeld' => ?_)
          clear hHeld hK K0
          have hHeld := hHeld'
          clear hHeld'
          replace L := L.alloc #[.int .i64 0, .int .u32 0, .slice none 0 0, .int .i64 0, .int .u32 0, .bool false, .slice none 0 0, .slice none 0 0, .int .i64 0, .int .i64 0, .int .i64 0, .int .i64 0, .int .i64 0, .int .u64 0, .bool false, .slice none 0 0, .int .i64 0, .int .i64 0, .int .i64 0, .int .i64 0] 44
          replace L := L.is 0 (opv hd0 sc0) rfl
          try dsimp only [nput] at L
          generalize w12.alloc (.cells #[.int .i64 0, .int .u32 0, .slice none 0 0, .int .i64 0, .int .u32 0, .bool false, .slice none 0 0, .slice none 0 0, .int .i64 0, .int .i64 0, .int .i64 0, .int .i64 0, .int .i64 0, .int .u64 0, .bool false, .slice none 0 0, .int .i64 0, .int .i64 0, .int .i64 0, .int .i64 0] 44) = v13 at hHeld L ⊢
          generalize w12.heap.size = gS at L ⊢
          try simp only [Act.put, List.setIfInBounds_toArray, List.set_cons_zero, List.set_cons_succ]
          refine wpAnyH_ready (rs := [5]) (by kernel_rfl) (by simp) ?_
          refine AllReadyH.cons (o := ⟨some 48, _, _, _, _, _⟩) rfl (fun K0 hK => ?_) AllReadyH.nil
          go_simp
          refine (ax_s3 (L.us_ 2 rfl) (L.of_ 0 rfl)).mono ?_
          rintro e w14 ⟨h3, B3, d3, rfl, U, L', hA, K'⟩
          have Lb := L.lts
          replace L := L.over K'
          replace L := L.us_av (fun i b e => hA b.1 (Lb i b e) (L.ap_ 2 rfl (by omega) i b e)) U
          replace L := L.of_new Lb L'
          clear Lb
          try dsimp only [lF, List.cons_append, List.nil_append] at L
          clear U L' hA
          refine hK.out _ _ ((L.less 3).del 0) (fun hHeld' => ?_)
          clear hHeld hK K0
          have hHeld := hHeld'
          clear hHeld'
          clear K'
          try simp only [Act.put, List.setIfInBounds_toArray, List.set_cons_zero, List.set_cons_succ]
          refine wpAnyH_take (i := 6) (oi := ⟨some 42, _, _, _, _, _⟩) (v := ?_) rfl (by kernel_rfl) (by kernel_rfl) (by kernel_rfl) (fun _ _ _ h => h) (Or.inl ⟨by rfl, ?_⟩) hHeld ?_
          rotate_left
          · intro ww hS
            try dsimp only at hS
            go_simp
            try with_reducible rfl
            try omega
          try simp only [Act.put, List.setIfInBounds_toArray, List.set_cons_zero, List.set_cons_succ]
          refine wpAnyH_take (i := 7) (oi := ⟨some 49, _, _, _, _, _⟩) (v := .slice B3 3 d3) rfl (by kernel_rfl) (by kernel_rfl) (by kernel_rfl) (fun _ _ _ h => h) (Or.inl ⟨by rfl, ?_⟩) hHeld ?_
          · intro ww hS
            try dsimp only at hS
            go_simp
            try with_reducible rfl
            try omega
          try simp only [Act.put, List.setIfInBounds_toArray, List.set_cons_zero, List.set_cons_succ]
          refine wpAnyH_take (i := 8) (oi := ⟨some 50, _, _, _, _, _⟩) (v := .agg (opv h3 ax3)) rfl (by kernel_rfl) (by kernel_rfl) (by kernel_rfl) (fun _ _ _ h => h) (Or.inl ⟨by rfl, ?_⟩) hHeld ?_
          · intro ww hS
            try dsimp only at hS
            go_simp
            try with_reducible rfl
            try omega
          try simp only [Act.put, List.setIfInBounds_toArray, List.set_cons_zero, List.set_cons_succ]
          refine wpAnyH_take (i := 9) (oi := ⟨some 51, _, _, _, _, _⟩) (v := .bool true) rfl (by kernel_rfl) (by kernel_rfl) (by kernel_rfl) (fun _ _ _ h => h) (Or.inl ⟨by rfl, ?_⟩) hHeld ?_
          · intro ww hS
            try dsimp only at hS
            go_simp
            try with_reducible rfl
            try omega
          try simp only [Act.put, List.setIfInBounds_toArray, List.set_cons_zero, List.set_cons_succ]
          refine wpAnyH_take (i := 11) (oi := ⟨some 10, _, _, _, _, _⟩) (v := .slice B3 3 d3) rfl (by kernel_rfl) (by kernel_rfl) (by kernel_rfl) (fun _ _ _ h => h) (Or.inl ⟨by rfl, ?_⟩) hHeld ?_
          · intro ww hS
            try dsimp only at hS
            go_simp
            try with_reducible rfl
            try omega
          try simp only [Act.put, List.setIfInBounds_toArray, List.set_cons_zero, List.set_cons_succ]
          refine wpAnyH_ready (rs := [12]) (by kernel_rfl) (by simp) ?_
          refine AllReadyH.cons (o := ⟨none, _, _, _, _, _⟩) rfl (fun K0 hK => ?_) AllReadyH.nil
          rw [if_pos (by rfl)]
          refine wp_store_row 44 (.tmp 11) (.tmp 50) rfl gS _ rfl rfl _ _ (L.bk_ 0 rfl) op_sz rfl (opv_one _ _) ?_
          replace L := L.row 0 rfl (opv h3 ax3)
          try dsimp only [nput] at L
          refine hK.out _ _ ((L.less 3).del 0) (fun hHeld' => ?_)
          clear hHeld hK K0
          have hHeld := hHeld'
          clear hHeld'
          generalize w14.setRow gS (opv h3 ax3) = v15 at hHeld L ⊢
          try simp only [Act.put]
          refine wpAnyH_take (i := 13) (oi := ⟨some 12, _, _, _, _, _⟩) (v := .bool true) rfl (by kernel_rfl) (by kernel_rfl) (by kernel_rfl) (fun _ _ _ h => h) (Or.inl ⟨by rfl, ?_⟩) hHeld ?_
          · intro ww hS
            try dsimp only at hS
            go_simp
            try with_reducible rfl
            try omega
          try simp only [Act.put, List.setIfInBounds_toArray, List.set_cons_zero, List.set_cons_succ]
          refine wpAnyH_done (by kernel_rfl) ?_ _
          clear hHeld
          go_wp2
          replace L := L.only (fs' := [oF h1 ⟨[], [], [], []⟩, uF B2 3 d2 axZ]) (by simp)
          go_meet
          exact ⟨_, _, _, _, rfl, rfl, rfl, L⟩
      · go_simp
        refine hK.out _ _ (L.other _) (fun hHeld' => ?_)
        clear hHeld hK K0
        have hHeld := hHeld'
        clear hHeld'
        replace L := L.alloc #[.int .i64 0, .int .u32 0, .slice none 0 0, .int .i64 0, .int .u32 0, .bool false, .slice none 0 0, .slice none 0 0, .int .i64 0, .int .i64 0, .int .i64 0, .int .i64 0, .int .i64 0, .int .u64 0, .bool false, .slice none 0 0, .int .i64 0, .int .i64 0, .int .i64 0, .int .i64 0] 44
        replace L := L.is 0 (opv hd0 sc0) rfl
        try dsimp only [nput] at L
        generalize v11.alloc (.cells #[.int .i64 0, .int .u32 0, .slice none 0 0, .int .i64 0, .int .u32 0, .bool false, .slice none 0 0, .slice none 0 0, .int .i64 0, .int .i64 0, .int .i64 0, .int .i64 0, .int .i64 0, .int .u64 0, .bool false, .slice none 0 0, .int .i64 0, .int .i64 0, .int .i64 0, .int .i64 0] 44) = v12 at hHeld L ⊢
        generalize v11.heap.size = gS at L ⊢
        try simp only [Act.put, List.setIfInBounds_toArray, List.set_cons_zero, List.set_cons_succ]
        refine wpAnyH_ready (rs := [4]) (by kernel_rfl) (by simp) ?_
        refine AllReadyH.cons (o := ⟨some 47, _, _, _, _, _⟩) rfl (fun K0 hK => ?_) AllReadyH.nil
        go_simp
        refine (ax_begin 2 _).mono ?_
        rintro e w13 ⟨h0, rfl, L', hSA, K'⟩
        have Lb := L.lts
        replace L := L.over K'
        replace L := L.of_ap L' (fun i b e => hSA b.1 (Lb i b e) (hH0.hap L i b e))
        clear Lb
        try dsimp only [lF, List.cons_append, List.nil_append] at L
        clear L' hSA
        refine hK.out _ _ ((L.less 1).del 0) (fun hHeld' => ?_)
        clear hHeld hK K0
        have hHeld := hHeld'
        clear hHeld'
        clear K'
        try simp only [Act.put, List.setIfInBounds_toArray, List.set_cons_zero, List.set_cons_succ]
        refine wpAnyH_ready (rs := [5]) (by kernel_rfl) (by simp) ?_
        refine AllReadyH.cons (o := ⟨some 48, _, _, _, _, _⟩) rfl (fun K0 hK => ?_) AllReadyH.nil
        go_simp
        refine (ax_s3 (L.us_ 2 rfl) (L.of_ 0 rfl)).mono ?_
        rintro e w14 ⟨h3, B3, d3, rfl, U, L', hA, K'⟩
        have Lb := L.lts
        replace L := L.over K'
        replace L := L.us_av (fun i b e => hA b.1 (Lb i b e) (L.ap_ 2 rfl (by omega) i b e)) U
        replace L := L.of_new Lb L'
        clear Lb
        try dsimp only [lF, List.cons_append, List.nil_append] at L
        clear U L' hA
        refine hK.out _ _ ((L.less 3).del 0) (fun hHeld' => ?_)
        clear hHeld hK K0
        have hHeld := hHeld'
        clear hHeld'
        clear K'
        try simp only [Act.put, List.setIfInBounds_toArray, List.set_cons_zero, List.set_cons_succ]
        refine wpAnyH_take (i := 6) (oi := ⟨some 42, _, _, _, _, _⟩) (v := ?_) rfl (by kernel_rfl) (by kernel_rfl) (by kernel_rfl) (fun _ _ _ h => h) (Or.inl ⟨by rfl, ?_⟩) hHeld ?_
        rotate_left
        · intro ww hS
          try dsimp only at hS
          go_simp
          try with_reducible rfl
          try omega
        try simp only [Act.put, List.setIfInBounds_toArray, List.set_cons_zero, List.set_cons_succ]
        refine wpAnyH_take (i := 7) (oi := ⟨some 49, _, _, _, _, _⟩) (v := .slice B3 3 d3) rfl (by kernel_rfl) (by kernel_rfl) (by kernel_rfl) (fun _ _ _ h => h) (Or.inl ⟨by rfl, ?_⟩) hHeld ?_
        · intro ww hS
          try dsimp only at hS
          go_simp
          try with_reducible rfl
          try omega
        try simp only [Act.put, List.setIfInBounds_toArray, List.set_cons_zero, List.set_cons_succ]
        refine wpAnyH_take (i := 8) (oi := ⟨some 50, _, _, _, _, _⟩) (v := .agg (opv h3 ax3)) rfl (by kernel_rfl) (by kernel_rfl) (by kernel_rfl) (fun _ _ _ h => h) (Or.inl ⟨by rfl, ?_⟩) hHeld ?_
        · intro ww hS
          try dsimp only at hS
          go_simp
          try with_reducible rfl
          try omega
        try simp only [Act.put, List.setIfInBounds_toArray, List.set_cons_zero, List.set_cons_succ]
        refine wpAnyH_take (i := 9) (oi := ⟨some 51, _, _, _, _, _⟩) (v := .bool true) rfl (by kernel_rfl) (by kernel_rfl) (by kernel_rfl) (fun _ _ _ h => h) (Or.inl ⟨by rfl, ?_⟩) hHeld ?_
        · intro ww hS
          try dsimp only at hS
          go_simp
          try with_reducible rfl
          try omega
        try simp only [Act.put, List.setIfInBounds_toArray, List.set_cons_zero, List.set_cons_succ]
        refine wpAnyH_take (i := 11) (oi := ⟨some 10, _, _, _, _, _⟩) (v := .slice B3 3 d3) rfl (by kernel_rfl) (by kernel_rfl) (by kernel_rfl) (fun _ _ _ h => h) (Or.inl ⟨by rfl, ?_⟩) hHeld ?_
        · intro ww hS
          try dsimp only at hS
          go_simp
          try with_reducible rfl
          try omega
        try simp only [Act.put, List.setIfInBounds_toArray, List.set_cons_zero, List.set_cons_succ]
        refine wpAnyH_ready (rs := [12]) (by kernel_rfl) (by simp) ?_
        refine AllReadyH.cons (o := ⟨none, _, _, _, _, _⟩) rfl (fun K0 hK => ?_) AllReadyH.nil
        rw [if_pos (by rfl)]
        refine wp_store_row 44 (.tmp 11) (.tmp 50) rfl gS _ rfl rfl _ _ (L.bk_ 0 rfl) op_sz rfl (opv_one _ _) ?_
        replace L := L.row 0 rfl (opv h3 ax3)
        try dsimp only [nput] at L
        refine hK.out _ _ ((L.less 3).del 0) (fun hHeld' => ?_)
        clear hHeld hK K0
        have hHeld := hHeld'
        clear hHeld'
        generalize w14.setRow gS (opv h3 ax3) = v15 at hHeld L ⊢
        try simp only [Act.put]
        refine wpAnyH_take (i := 13) (oi := ⟨some 12, _, _, _, _, _⟩) (v := .bool true) rfl (by kernel_rfl) (by kernel_rfl) (by kernel_rfl) (fun _ _ _ h => h) (Or.inl ⟨by rfl, ?_⟩) hHeld ?_
        · intro ww hS
          try dsimp only at hS
          go_simp
          try with_reducible rfl
          try omega
        try simp only [Act.put, List.setIfInBounds_toArray, List.set_cons_zero, List.set_cons_succ]
        refine wpAnyH_done (by kernel_rfl) ?_ _
        clear hHeld
        go_wp2
        replace L := L.only (fs' := [oF h1 ⟨[], [], [], []⟩, uF B2 3 d2 axZ]) (by simp)
        go_meet
        exact ⟨_, _, _, _, rfl, rfl, rfl, L⟩
    case rest =>
      clear L
      obtain ⟨gS, h3, B3, d3, rfl, rfl, rfl, L⟩ := hcut
      go_upto_region 7 with (fail)
      try simp only [Act.put, List.setIfInBounds_toArray, List.set_cons_zero, List.set_cons_succ]
      go_cut [13, 14, 15] from 52 to 61 (fun q0 q1 q2 wx => ∃ (gT : Nat) (h4 : Hd) (B4 : Option Addr) (d4 : Nat), q0 = Value.slice B4 3 d4 ∧ q1 = Value.pointer (some ⟨gT, 0, none⟩) ∧ q2 = Value.bool true ∧ Loc w wx [(gT, 44, opv h4 ax4), (gS, 44, opv h3 ax3), (gP, 44, opv h2 ax2), (gO, 44, opv h1 ax1), (gQ, 30, #[.int .i64 2, .int .u32 6, .slice none 0 0]), (gC, 27, #[.int .u32 4, .int .i64 30, .slice none 0 0, .int .i64 1, .int .i64 1, .int .i64 1, .int .i64 1])] [oF h1 ⟨[], [], [], []⟩, uF B2 3 d2 axZ])
      case first =>
        replace L := L.drew
        refine wp_region_held_drew (S := fun w' => Loc w w' [(gS, 44, opv h3 ax3), (gP, 44, opv h2 ax2), (gO, 44, opv h1 ax1), (gQ, 30, #[.int .i64 2, .int .u32 6, .slice none 0 0]), (gC, 27, #[.int .u32 4, .int .i64 30, .slice none 0 0, .int .i64 1, .int .i64 1, .int .i64 1, .int .i64 1])] [oF h1 ⟨[], [], [], []⟩, uF B2 3 d2 axZ]) (by kernel_rfl) L (fun hHeld => ?_)
        generalize wc.drew = v16 at hHeld L ⊢
        refine wpAnyH_take (i := 0) (oi := ⟨some 53, _, _, _, _, _⟩) (v := .agg (#[.int .u32 4, .int .i64 30, .slice none 0 0, .int .i64 1, .int .i64 1, .int .i64 1, .int .i64 1])) rfl (by kernel_rfl) (by kernel_rfl) (by kernel_rfl) (fun _ _ _ h => h) (yieldsIf_load_row (by rfl) 27 (.tmp 1) rfl gC rfl 27 _ (0, 0) _ (fun _ hS => ((hS).bk_ 4 rfl)) Try.underlying27 rfl cf_sz) hHeld ?_
        try simp only [Act.put, List.setIfInBounds_toArray, List.set_cons_zero, List.set_cons_succ]
        refine wpAnyH_take (i := 1) (oi := ⟨some 54, _, _, _, _, _⟩) (v := .slice B2 3 d2) rfl (by kernel_rfl) (by kernel_rfl) (by kernel_rfl) (fun _ _ _ h => h) (Or.inl ⟨by rfl, ?_⟩) hHeld ?_
        · intro ww hS
          try dsimp only at hS
          go_simp
          try with_reducible rfl
          try omega
        try simp only [Act.put, List.setIfInBounds_toArray, List.set_cons_zero, List.set_cons_succ]
        refine wpAnyH_take (i := 2) (oi := ⟨some 55, _, _, _, _, _⟩) (v := .agg (#[.int .u32 4, .int .i64 30, .slice none 0 0, .int .i64 1, .int .i64 1, .int .i64 1, .int .i64 1])) rfl (by kernel_rfl) (by kernel_rfl) (by kernel_rfl) (fun _ _ _ h => h) (yieldsIf_load_row (by rfl) 27 (.tmp 1) rfl gC rfl 27 _ (0, 0) _ (fun _ hS => ((hS).bk_ 4 rfl)) Try.underlying27 rfl cf_sz) hHeld ?_
        try simp only [Act.put, List.setIfInBounds_toArray, List.set_cons_zero, List.set_cons_succ]
        refine wpAnyH_take (i := 3) (oi := ⟨some 56, _, _, _, _, _⟩) (v := ?_) rfl (by kernel_rfl) (by kernel_rfl) (by kernel_rfl) (fun _ _ _ h => h) (Or.inl ⟨by rfl, ?_⟩) hHeld ?_
        rotate_left
        · intro ww hS
          try dsimp only at hS
          go_simp
          try with_reducible rfl
          try omega
        try simp only [Act.put, List.setIfInBounds_toArray, List.set_cons_zero, List.set_cons_succ]
        refine wpAnyH_ready (rs := [4, 10]) (by kernel_rfl) (by simp) ?_
        refine (AllReadyH.cons (o := ⟨some 57, _, _, _, _, _⟩) rfl (fun K0 hK => ?_) (AllReadyH.cons (o := ⟨some 14, _, _, _, _, _⟩) rfl (fun K0 hK => ?_) AllReadyH.nil))
        · go_simp
          refine (ax_begin 5 _).mono ?_
          rintro e w17 ⟨h0, rfl, L', hSA, K'⟩
          have Lb := L.lts
          replace L := L.over K'
          replace L := L.of_ap L' (fun i b e => hSA b.1 (Lb i b e) (hH0.hap L i b e))
          clear Lb
          try dsimp only [lF, List.cons_append, List.nil_append] at L
          clear L' hSA
          refine hK.out _ _ (L.less 1) (fun hHeld' => ?_)
          clear hHeld hK K0
          have hHeld := hHeld'
          clear hHeld'
          clear K'
          try simp only [Act.put, List.setIfInBounds_toArray, List.set_cons_zero, List.set_cons_succ]
          refine wpAnyH_ready (rs := [5, 10]) (by kernel_rfl) (by simp) ?_
          refine (AllReadyH.cons (o := ⟨some 58, _, _, _, _, _⟩) rfl (fun K0 hK => ?_) (AllReadyH.cons (o := ⟨some 14, _, _, _, _, _⟩) rfl (fun K0 hK => ?_) AllReadyH.nil))
          · go_simp
            refine (ax_s4 (L.us_ 2 rfl) (L.of_ 0 rfl)).mono ?_
            rintro e w18 ⟨h4, B4, d4, rfl, U, L', hA, K'⟩
            have Lb := L.lts
            replace L := L.over K'
            replace L := L.us_av (fun i b e => hA b.1 (Lb i b e) (L.ap_ 2 rfl (by omega) i b e)) U
            replace L := L.of_new Lb L'
            clear Lb
            try dsimp only [lF, List.cons_append, List.nil_append] at L
            clear U L' hA
            refine hK.out _ _ (L.less 3) (fun hHeld' => ?_)
            clear hHeld hK K0
            have hHeld := hHeld'
            clear hHeld'
            clear K'
            try simp only [Act.put, List.setIfInBounds_toArray, List.set_cons_zero, List.set_cons_succ]
            refine wpAnyH_take (i := 6) (oi := ⟨some 52, _, _, _, _, _⟩) (v := ?_) rfl (by kernel_rfl) (by kernel_rfl) (by kernel_rfl) (fun _ _ _ h => h) (Or.inl ⟨by rfl, ?_⟩) hHeld ?_
            rotate_left
            · intro ww hS
              try dsimp only at hS
              go_simp
              try with_reducible rfl
              try omega
            try simp only [Act.put, List.setIfInBounds_toArray, List.set_cons_zero, List.set_cons_succ]
            refine wpAnyH_take (i := 7) (oi := ⟨some 59, _, _, _, _, _⟩) (v := .slice B4 3 d4) rfl (by kernel_rfl) (by kernel_rfl) (by kernel_rfl) (fun _ _ _ h => h) (Or.inl ⟨by rfl, ?_⟩) hHeld ?_
            · intro ww hS
              try dsimp only at hS
              go_simp
              try with_reducible rfl
              try omega
            try simp only [Act.put, List.setIfInBounds_toArray, List.set_cons_zero, List.set_cons_succ]
            refine wpAnyH_take (i := 8) (oi := ⟨some 60, _, _, _, _, _⟩) (v := .agg (opv h4 ax4)) rfl (by kernel_rfl) (by kernel_rfl) (by kernel_rfl) (fun _ _ _ h => h) (Or.inl ⟨by rfl, ?_⟩) hHeld ?_
            · intro ww hS
              try dsimp only at hS
              go_simp
              try with_reducible rfl
              try omega
            try simp only [Act.put, List.setIfInBounds_toArray, List.set_cons_zero, List.set_cons_succ]
            refine wpAnyH_take (i := 9) (oi := ⟨some 61, _, _, _, _, _⟩) (v := .bool true) rfl (by kernel_rfl) (by kernel_rfl) (by kernel_rfl) (fun _ _ _ h => h) (Or.inl ⟨by rfl, ?_⟩) hHeld ?_
            · intro ww hS
              try dsimp only at hS
              go_simp
              try with_reducible rfl
              try omega
            try simp only [Act.put, List.setIfInBounds_toArray, List.set_cons_zero, List.set_cons_succ]
            refine wpAnyH_ready (rs := [10]) (by kernel_rfl) (by simp) ?_
            refine AllReadyH.cons (o := ⟨some 14, _, _, _, _, _⟩) rfl (fun K0 hK => ?_) AllReadyH.nil
            go_simp
            refine hK.out _ _ ((L.other _).less 3) (fun hHeld' => ?_)
            clear hHeld hK K0
            have hHeld := hHeld'
            clear hHeld'
            replace L := L.alloc #[.int .i64 0, .int .u32 0, .slice none 0 0, .int .i64 0, .int .u32 0, .bool false, .slice none 0 0, .slice none 0 0, .int .i64 0, .int .i64 0, .int .i64 0, .int .i64 0, .int .i64 0, .int .u64 0, .bool false, .slice none 0 0, .int .i64 0, .int .i64 0, .int .i64 0, .int .i64 0] 44
            replace L := L.is 0 (opv hd0 sc0) rfl
            try dsimp only [nput] at L
            generalize w18.alloc (.cells #[.int .i64 0, .int .u32 0, .slice none 0 0, .int .i64 0, .int .u32 0, .bool false, .slice none 0 0, .slice none 0 0, .int .i64 0, .int .i64 0, .int .i64 0, .int .i64 0, .int .i64 0, .int .u64 0, .bool false, .slice none 0 0, .int .i64 0, .int .i64 0, .int .i64 0, .int .i64 0] 44) = v19 at hHeld L ⊢
            generalize w18.heap.size = gT at L ⊢
            try simp only [Act.put, List.setIfInBounds_toArray, List.set_cons_zero, List.set_cons_succ]
            refine wpAnyH_take (i := 11) (oi := ⟨some 13, _, _, _, _, _⟩) (v := .slice B4 3 d4) rfl (by kernel_rfl) (by kernel_rfl) (by kernel_rfl) (fun _ _ _ h => h) (Or.inl ⟨by rfl, ?_⟩) hHeld ?_
            · intro ww hS
              try dsimp only at hS
              go_simp
              try with_reducible rfl
              try omega
            try simp only [Act.put, List.setIfInBounds_toArray, List.set_cons_zero, List.set_cons_succ]
            refine wpAnyH_ready (rs := [12]) (by kernel_rfl) (by simp) ?_
            refine AllReadyH.cons (o := ⟨none, _, _, _, _, _⟩) rfl (fun K0 hK => ?_) AllReadyH.nil
            rw [if_pos (by rfl)]
            refine wp_store_row 44 (.tmp 14) (.tmp 60) rfl gT _ rfl rfl _ _ (L.bk_ 0 rfl) op_sz rfl (opv_one _ _) ?_
            replace L := L.row 0 rfl (opv h4 ax4)
            try dsimp only [nput] at L
            refine hK.out _ _ ((L.less 3).del 0) (fun hHeld' => ?_)
            clear hHeld hK K0
            have hHeld := hHeld'
            clear hHeld'
            generalize v19.setRow gT (opv h4 ax4) = v20 at hHeld L ⊢
            try simp only [Act.put]
            refine wpAnyH_take (i := 13) (oi := ⟨some 15, _, _, _, _, _⟩) (v := .bool true) rfl (by kernel_rfl) (by kernel_rfl) (by kernel_rfl) (fun _ _ _ h => h) (Or.inl ⟨by rfl, ?_⟩) hHeld ?_
            · intro ww hS
              try dsimp only at hS
              go_simp
              try with_reducible rfl
              try omega
            try simp only [Act.put, List.setIfInBounds_toArray, List.set_cons_zero, List.set_cons_succ]
            refine wpAnyH_done (by kernel_rfl) ?_ _
            clear hHeld
            go_wp2
            replace L := L.only (fs' := [oF h1 ⟨[], [], [], []⟩, uF B2 3 d2 axZ]) (by simp)
            go_meet
            exact ⟨_, _, _, _, rfl, rfl, rfl, L⟩
          · go_simp
            refine hK.out _ _ ((L.other _).less 1) (fun hHeld' => ?_)
            clear hHeld hK K0
            have hHeld := hHeld'
            clear hHeld'
            replace L := L.alloc #[.int .i64 0, .int .u32 0, .slice none 0 0, .int .i64 0, .int .u32 0, .bool false, .slice none 0 0, .slice none 0 0, .int .i64 0, .int .i64 0, .int .i64 0, .int .i64 0, .int .i64 0, .int .u64 0, .bool false, .slice none 0 0, .int .i64 0, .int .i64 0, .int .i64 0, .int .i64 0] 44
            replace L := L.is 0 (opv hd0 sc0) rfl
            try dsimp only [nput] at L
            generalize w17.alloc (.cells #[.int .i64 0, .int .u32 0, .slice none 0 0, .int .i64 0, .int .u32 0, .bool false, .slice none 0 0, .slice none 0 0, .int .i64 0, .int .i64 0, .int .i64 0, .int .i64 0, .int .i64 0, .int .u64 0, .bool false, .slice none 0 0, .int .i64 0, .int .i64 0, .int .i64 0, .int .i64 0] 44) = v18 at hHeld L ⊢
            generalize w17.heap.size = gT at L ⊢
            try simp only [Act.put, List.setIfInBounds_toArray, List.set_cons_zero, List.set_cons_succ]
            refine wpAnyH_ready (rs := [5]) (by kernel_rfl) (by simp) ?_
            refine AllReadyH.cons (o := ⟨some 58, _, _, _, _, _⟩) rfl (fun K0 hK => ?_) AllReadyH.nil
            go_simp
            refine (ax_s4 (L.us_ 2 rfl) (L.of_ 0 rfl)).mono ?_
            rintro e w19 ⟨h4, B4, d4, rfl, U, L', hA, K'⟩
            have Lb := L.lts
            replace L := L.over K'
            replace L := L.us_av (fun i b e => hA b.1 (Lb i b e) (L.ap_ 2 rfl (by omega) i b e)) U
            replace L := L.of_new Lb L'
            clear Lb
            try dsimp only [lF, List.cons_append, List.nil_append] at L
            clear U L' hA
            refine hK.out _ _ ((L.less 3).del 0) (fun hHeld' => ?_)
            clear hHeld hK K0
            have hHeld := hHeld'
            clear hHeld'
            clear K'
            try simp only [Act.put, List.setIfInBounds_toArray, List.set_cons_zero, List.set_cons_succ]
            refine wpAnyH_take (i := 6) (oi := ⟨some 52, _, _, _, _, _⟩) (v := ?_) rfl (by kernel_rfl) (by kernel_rfl) (by kernel_rfl) (fun _ _ _ h => h) (Or.inl ⟨by rfl, ?_⟩) hHeld ?_
            rotate_left
            · intro ww hS
              try dsimp only at hS
              go_simp
              try with_reducible rfl
              try omega
            try simp only [Act.put, List.setIfInBounds_toArray, List.set_cons_zero, List.set_cons_succ]
            refine wpAnyH_take (i := 7) (oi := ⟨some 59, _, _, _, _, _⟩) (v := .slice B4 3 d4) rfl (by kernel_rfl) (by kernel_rfl) (by kernel_rfl) (fun _ _ _ h => h) (Or.inl ⟨by rfl, ?_⟩) hHeld ?_
            · intro ww hS
              try dsimp only at hS
              go_simp
              try with_reducible rfl
              try omega
            try simp only [Act.put, List.setIfInBounds_toArray, List.set_cons_zero, List.set_cons_succ]
            refine wpAnyH_take (i := 8) (oi := ⟨some 60, _, _, _, _, _⟩) (v := .agg (opv h4 ax4)) rfl (by kernel_rfl) (by kernel_rfl) (by kernel_rfl) (fun _ _ _ h => h) (Or.inl ⟨by rfl, ?_⟩) hHeld ?_
            · intro ww hS
              try dsimp only at hS
              go_simp
              try with_reducible rfl
              try omega
            try simp only [Act.put, List.setIfInBounds_toArray, List.set_cons_zero, List.set_cons_succ]
            refine wpAnyH_take (i := 9) (oi := ⟨some 61, _, _, _, _, _⟩) (v := .bool true) rfl (by kernel_rfl) (by kernel_rfl) (by kernel_rfl) (fun _ _ _ h => h) (Or.inl ⟨by rfl, ?_⟩) hHeld ?_
            · intro ww hS
              try dsimp only at hS
              go_simp
              try with_reducible rfl
              try omega
            try simp only [Act.put, List.setIfInBounds_toArray, List.set_cons_zero, List.set_cons_succ]
            refine wpAnyH_take (i := 11) (oi := ⟨some 13, _, _, _, _, _⟩) (v := .slice B4 3 d4) rfl (by kernel_rfl) (by kernel_rfl) (by kernel_rfl) (fun _ _ _ h => h) (Or.inl ⟨by rfl, ?_⟩) hHeld ?_
            · intro ww hS
              try dsimp only at hS
              go_simp
              try with_reducible rfl
              try omega
            try simp only [Act.put, List.setIfInBounds_toArray, List.set_cons_zero, List.set_cons_succ]
            refine wpAnyH_ready (rs := [12]) (by kernel_rfl) (by simp) ?_
            refine AllReadyH.cons (o := ⟨none, _, _, _, _, _⟩) rfl (fun K0 hK => ?_) AllReadyH.nil
            rw [if_pos (by rfl)]
            refine wp_store_row 44 (.tmp 14) (.tmp 60) rfl gT _ rfl rfl _ _ (L.bk_ 0 rfl) op_sz rfl (opv_one _ _) ?_
            replace L := L.row 0 rfl (opv h4 ax4)
            try dsimp only [nput] at L
            refine hK.out _ _ ((L.less 3).del 0) (fun hHeld' => ?_)
            clear hHeld hK K0
            have hHeld := hHeld'
            clear hHeld'
            generalize w19.setRow gT (opv h4 ax4) = v20 at hHeld L ⊢
            try simp only [Act.put]
            refine wpAnyH_take (i := 13) (oi := ⟨some 15, _, _, _, _, _⟩) (v := .bool true) rfl (by kernel_rfl) (by kernel_rfl) (by kernel_rfl) (fun _ _ _ h => h) (Or.inl ⟨by rfl, ?_⟩) hHeld ?_
            · intro ww hS
              try dsimp only at hS
              go_simp
              try with_reducible rfl
              try omega
            try simp only [Act.put, List.setIfInBounds_toArray, List.set_cons_zero, List.set_cons_succ]
            refine wpAnyH_done (by kernel_rfl) ?_ _
            clear hHeld
            go_wp2
            replace L := L.only (fs' := [oF h1 ⟨[], [], [], []⟩, uF B2 3 d2 axZ]) (by simp)
            go_meet
            exact ⟨_, _, _, _, rfl, rfl, rfl, L⟩
        · go_simp
          refine hK.out _ _ (L.other _) (fun hHeld' => ?_)
          clear hHeld hK K0
          have hHeld := hHeld'
          clear hHeld'
          replace L := L.alloc #[.int .i64 0, .int .u32 0, .slice none 0 0, .int .i64 0, .int .u32 0, .bool false, .slice none 0 0, .slice none 0 0, .int .i64 0, .int .i64 0, .int .i64 0, .int .i64 0, .int .i64 0, .int .u64 0, .bool false, .slice none 0 0, .int .i64 0, .int .i64 0, .int .i64 0, .int .i64 0] 44
          replace L := L.is 0 (opv hd0 sc0) rfl
          try dsimp only [nput] at L
          generalize v16.alloc (.cells #[.int .i64 0, .int .u32 0, .slice none 0 0, .int .i64 0, .int .u32 0, .bool false, .slice none 0 0, .slice none 0 0, .int .i64 0, .int .i64 0, .int .i64 0, .int .i64 0, .int .i64 0, .int .u64 0, .bool false, .slice none 0 0, .int .i64 0, .int .i64 0, .int .i64 0, .int .i64 0] 44) = v17 at hHeld L ⊢
          generalize v16.heap.size = gT at L ⊢
          try simp only [Act.put, List.setIfInBounds_toArray, List.set_cons_zero, List.set_cons_succ]
          refine wpAnyH_ready (rs := [4]) (by kernel_rfl) (by simp) ?_
          refine AllReadyH.cons (o := ⟨some 57, _, _, _, _, _⟩) rfl (fun K0 hK => ?_) AllReadyH.nil
          go_simp
          refine (ax_begin 5 _).mono ?_
          rintro e w18 ⟨h0, rfl, L', hSA, K'⟩
          have Lb := L.lts
          replace L := L.over K'
          replace L := L.of_ap L' (fun i b e => hSA b.1 (Lb i b e) (hH0.hap L i b e))
          clear Lb
          try dsimp only [lF, List.cons_append, List.nil_append] at L
          clear L' hSA
          refine hK.out _ _ ((L.less 1).del 0) (fun hHeld' => ?_)
          clear hHeld hK K0
          have hHeld := hHeld'
          clear hHeld'
          clear K'
          try simp only [Act.put, List.setIfInBounds_toArray, List.set_cons_zero, List.set_cons_succ]
          refine wpAnyH_ready (rs := [5]) (by kernel_rfl) (by simp) ?_
          refine AllReadyH.cons (o := ⟨some 58, _, _, _, _, _⟩) rfl (fun K0 hK => ?_) AllReadyH.nil
          go_simp
          refine (ax_s4 (L.us_ 2 rfl) (L.of_ 0 rfl)).mono ?_
          rintro e w19 ⟨h4, B4, d4, rfl, U, L', hA, K'⟩
          have Lb := L.lts
          replace L := L.over K'
          replace L := L.us_av (fun i b e => hA b.1 (Lb i b e) (L.ap_ 2 rfl (by omega) i b e)) U
          replace L := L.of_new Lb L'
          clear Lb
          try dsimp only [lF, List.cons_append, List.nil_append] at L
          clear U L' hA
          refine hK.out _ _ ((L.less 3).del 0) (fun hHeld' => ?_)
          clear hHeld hK K0
          have hHeld := hHeld'
          clear hHeld'
          clear K'
          try simp only [Act.put, List.setIfInBounds_toArray, List.set_cons_zero, List.set_cons_succ]
          refine wpAnyH_take (i := 6) (oi := ⟨some 52, _, _, _, _, _⟩) (v := ?_) rfl (by kernel_rfl) (by kernel_rfl) (by kernel_rfl) (fun _ _ _ h => h) (Or.inl ⟨by rfl, ?_⟩) hHeld ?_
          rotate_left
          · intro ww hS
            try dsimp only at hS
            go_simp
            try with_reducible rfl
            try omega
          try simp only [Act.put, List.setIfInBounds_toArray, List.set_cons_zero, List.set_cons_succ]
          refine wpAnyH_take (i := 7) (oi := ⟨some 59, _, _, _, _, _⟩) (v := .slice B4 3 d4) rfl (by kernel_rfl) (by kernel_rfl) (by kernel_rfl) (fun _ _ _ h => h) (Or.inl ⟨by rfl, ?_⟩) hHeld ?_
          · intro ww hS
            try dsimp only at hS
            go_simp
            try with_reducible rfl
            try omega
          try simp only [Act.put, List.setIfInBounds_toArray, List.set_cons_zero, List.set_cons_succ]
          refine wpAnyH_take (i := 8) (oi := ⟨some 60, _, _, _, _, _⟩) (v := .agg (opv h4 ax4)) rfl (by kernel_rfl) (by kernel_rfl) (by kernel_rfl) (fun _ _ _ h => h) (Or.inl ⟨by rfl, ?_⟩) hHeld ?_
          · intro ww hS
            try dsimp only at hS
            go_simp
            try with_reducible rfl
            try omega
          try simp only [Act.put, List.setIfInBounds_toArray, List.set_cons_zero, List.set_cons_succ]
          refine wpAnyH_take (i := 9) (oi := ⟨some 61, _, _, _, _, _⟩) (v := .bool true) rfl (by kernel_rfl) (by kernel_rfl) (by kernel_rfl) (fun _ _ _ h => h) (Or.inl ⟨by rfl, ?_⟩) hHeld ?_
          · intro ww hS
            try dsimp only at hS
            go_simp
            try with_reducible rfl
            try omega
          try simp only [Act.put, List.setIfInBounds_toArray, List.set_cons_zero, List.set_cons_succ]
          refine wpAnyH_take (i := 11) (oi := ⟨some 13, _, _, _, _, _⟩) (v := .slice B4 3 d4) rfl (by kernel_rfl) (by kernel_rfl) (by kernel_rfl) (fun _ _ _ h => h) (Or.inl ⟨by rfl, ?_⟩) hHeld ?_
          · intro ww hS
            try dsimp only at hS
            go_simp
            try with_reducible rfl
            try omega
          try simp only [Act.put, List.setIfInBounds_toArray, List.set_cons_zero, List.set_cons_succ]
          refine wpAnyH_ready (rs := [12]) (by kernel_rfl) (by simp) ?_
          refine AllReadyH.cons (o := ⟨none, _, _, _, _, _⟩) rfl (fun K0 hK => ?_) AllReadyH.nil
          rw [if_pos (by rfl)]
          refine wp_store_row 44 (.tmp 14) (.tmp 60) rfl gT _ rfl rfl _ _ (L.bk_ 0 rfl) op_sz rfl (opv_one _ _) ?_
          replace L := L.row 0 rfl (opv h4 ax4)
          try dsimp only [nput] at L
          refine hK.out _ _ ((L.less 3).del 0) (fun hHeld' => ?_)
          clear hHeld hK K0
          have hHeld := hHeld'
          clear hHeld'
          generalize w19.setRow gT (opv h4 ax4) = v20 at hHeld L ⊢
          try simp only [Act.put]
          refine wpAnyH_take (i := 13) (oi := ⟨some 15, _, _, _, _, _⟩) (v := .bool true) rfl (by kernel_rfl) (by kernel_rfl) (by kernel_rfl) (fun _ _ _ h => h) (Or.inl ⟨by rfl, ?_⟩) hHeld ?_
          · intro ww hS
            try dsimp only at hS
            go_simp
            try with_reducible rfl
            try omega
          try simp only [Act.put, List.setIfInBounds_toArray, List.set_cons_zero, List.set_cons_succ]
          refine wpAnyH_done (by kernel_rfl) ?_ _
          clear hHeld
          go_wp2
          replace L := L.only (fs' := [oF h1 ⟨[], [], [], []⟩, uF B2 3 d2 axZ]) (by simp)
          go_meet
          exact ⟨_, _, _, _, rfl, rfl, rfl, L⟩
      case rest =>
        clear L
        obtain ⟨gT, h4, B4, d4, rfl, rfl, rfl, L⟩ := hcut
        go_wp2_with (first | (refine wpList_load_row rfl 27 (.tmp 1) rfl gC rfl _ _ (0, 0) _ (L.bk_ 5 rfl) Try.underlying27 rfl cf_sz ?_) | (refine wpList_load_row rfl 44 (.tmp 5) rfl gO rfl _ _ (0, 0) _ (L.bk_ 3 rfl) Try.underlying44 rfl op_sz ?_))
        refine (ax_s5 (L.us_ 1 rfl) (L.of_ 0 rfl)).mono ?_
        rintro e w21 ⟨h5, B5, d5, rfl, U, L', hA, K'⟩
        have Lb := L.lts
        replace L := L.over K'
        replace L := L.us_av (fun i b e => hA b.1 (Lb i b e) (L.ap_ 1 rfl (by omega) i b e)) U
        replace L := L.of_new Lb L'
        clear Lb
        try dsimp only [lF, List.cons_append, List.nil_append] at L
        clear U L' hA
        go_upto_region 9 with (refine wpList_store_row rfl 44 (.tmp 17) (.tmp 68) rfl _ _ rfl (show _ = Value.agg (opv h5 ax5) from rfl) _ _ (Bk.new _ _ _) op_sz rfl (opv_one _ _) ?_)
        try rw [World.setRow_alloc_new]
        replace L := (L).alloc (opv h5 ax5) 44
        try simp only [World.size_alloc] at L
        try dsimp only [nput] at L
        generalize (w21).alloc (.cells (opv h5 ax5) 44) = w22 at L ⊢
        generalize w21.heap.size = gV at L ⊢
        have O_8 := L.at_ 4 8 rfl (v := .int .i64 3) (by show some (Value.int .i64 ax1.phase) = _; rw [ax1_p])
        have O_z := L.lt 4 rfl
        have P_4 := L.at_ 3 4 rfl (v := .int .u32 6) (by show some (Value.int .u32 ax2.aad) = _; rw [ax2_a])
        have P_z := L.lt 3 rfl
        have P_8 := L.at_ 3 8 rfl (v := .int .i64 0) (by show some (Value.int .i64 ax2.phase) = _; rw [ax2_p])
        have P_z := L.lt 3 rfl
        have S_3 := L.at_ 2 3 rfl (v := .int .i64 5) (by show some (Value.int .i64 ax3.err) = _; rw [ax3_e])
        have S_z := L.lt 2 rfl
        have T_5 := L.at_ 1 5 rfl (v := .bool true) (by show some (Value.bool ax4.used) = _; rw [ax4_u])
        have T_z := L.lt 1 rfl
        have V_8 := L.at_ 0 8 rfl (v := .int .i64 8) (by show some (Value.int .i64 ax5.phase) = _; rw [ax5_p])
        have V_z := L.lt 0 rfl
        go_wp2_with fail
        clear O_8 O_z P_4 P_z P_8 S_3 S_z T_5 T_z V_8 V_z
        go_ret
        exact ⟨rfl, L.K⟩
end Go.Proofs.Ytacgjaohfcoigaa

/-
  What a law is told of a request that came in.
-/
namespace Go.Proofs.Ytacgjaohfcoigaa
set_option maxRecDepth 100000
open Go.ChangeShapes Go.WideShapes Go.ChangeAt Go.RowKit Go.Joins
set_option linter.unusedVariables false
theorem array3x {α : Type} {cs : Array α} (h : cs.size = 3) : ∃ c0 c1 c2, cs = #[c0, c1, c2] := by
  obtain ⟨l⟩ := cs
  match l, h with
  | [c0, c1, c2], _ => exact ⟨c0, c1, c2, rfl⟩
theorem open_ask {H : Type} {enc : TypeId × Value → H} {W : World} {base : Nat} {v : Value} {d : DataW H} {ps : List MemPlace} (hv : Value.okWide Try.prog W .any base 30 v) (h : DataW.Trod enc Try.prog W 0 (fun _ => true) true 30 v d ps) :
    ∃ (k x : Int) (B : Option Addr) (m d : Nat) (z : List Int), v = .agg #[.int .i64 k, .int .u32 x, .slice B m d] ∧ (Lit.int .u32 x).wf = true ∧ IsRow .u32 W B m d z := by
  obtain ⟨cs, rfl, hsz⟩ := okWide_struct Try.underlying30 hv
  have hC : Try.prog.cellsOf 30 = 3 := by kernel_rfl
  obtain ⟨c0, c1, c2, rfl⟩ := array3x (hsz.trans hC)
  obtain ⟨fuel, hf⟩ := h
  obtain ⟨y0, y1, y2, n, f0, f1, f2⟩ := trod_struct3x Try.underlying30 hf
  have k3 : Try.prog.cellsOf 3 = 1 := by kernel_rfl
  have k22 : Try.prog.cellsOf 22 = 1 := by kernel_rfl
  have k28 : Try.prog.cellsOf 28 = 1 := by kernel_rfl
  simp only [Value.cells, k3, k22, k28, List.drop_zero, List.drop_succ_cons, List.take_succ_cons, List.take_zero] at f0 f1 f2
  obtain ⟨k, e0, _, _⟩ := DataW.trod_int Try.underlying3 f0
  obtain ⟨x, e1, _, wx⟩ := DataW.trod_int Try.underlying22 f1
  obtain ⟨B, m, d, z, e2, r2⟩ := open_row (k := .u32) Try.underlying28 Try.underlying22 k22 f2
  simp only [List.cons.injEq, and_true] at e0 e1
  subst e0 e1 e2
  exact ⟨k, x, B, m, d, z, rfl, wx, r2⟩
end Go.Proofs.Ytacgjaohfcoigaa
