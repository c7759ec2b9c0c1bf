/-
  The walk of the law ExactSteps: for every configuration, request and doings of others it answers true.
-/
import Derived.Test.YtacgjaohfcoigaaGreatEy14
namespace Go.Proofs.YtacgjaohfcoigaaGreat.exactSteps
set_option maxRecDepth 100000
open Go.RowKit
set_option linter.unusedVariables false
section
variable {w : World} {lo lo2 lo3 lo4 a X k q k2 q2 n0 c0 : Nat} {p sh wo qu tr kd : Int} {A A0 E E2 : Option Addr} {n c : Nat} {zs xs es es2 : List Int}
set_option maxRecDepth 100000 in
set_option maxHeartbeats 2000000 in
theorem far (ha : a < 4294967296) (h0 : IS .i64 lo w A n c zs) (hs : IS .u32 lo2 w A0 n0 c0 xs) (hX : X < 4294967296) (hw : W32 xs) (hE : IS .u32 lo3 w E k q es) (he : ∀ x ∈ es, (Lit.int .u32 x).wf = true) (hk : 200 < k) :
    Calls Tryz.prog 3 #[.agg #[.int .u32 (a : Int), .int .i64 p, .slice A n c, .int .i64 sh, .int .i64 wo, .int .i64 qu, .int .i64 tr], .agg #[.int .i64 kd, .int .u32 (X : Int), .slice A0 n0 c0], .slice E k q] w (RetBo true w) := by
  have f0 : decide ((200 : Int) < (k : Int)) = true := by simp; omega
  go_enter Tryz.func3, Tryz.ntmps3
  go_upto_region 1 with (fail)
  have L := Loc.start w
  replace L := ((L).alloc #[.int .u32 (a : Int), .int .i64 p, .slice A n c, .int .i64 sh, .int .i64 wo, .int .i64 qu, .int .i64 tr] 27).alloc #[.int .i64 kd, .int .u32 (X : Int), .slice A0 n0 c0] 30
  try simp only [World.size_alloc] at L
  try dsimp only [nput] at L
  generalize ((w).alloc (.cells #[.int .u32 (a : Int), .int .i64 p, .slice A n c, .int .i64 sh, .int .i64 wo, .int .i64 qu, .int .i64 tr] 27)).alloc (.cells #[.int .i64 kd, .int .u32 (X : Int), .slice A0 n0 c0] 30) = w1 at L ⊢
  generalize w.heap.size + 1 = gX4 at L ⊢
  generalize w.heap.size = gH at L ⊢
  go_wp2_with fail
  refine (awake_any _).mono ?_
  rintro e w2 ⟨rfl, K'⟩
  replace L := L.over K'
  go_wp2_with (first | (refine wpList_load_want (by rfl) 27 (.tmp 3) rfl gH rfl _ _ (0, 0) _ (L.bk_ 1 rfl) Tryz.underlying27 rfl cf_sz ?_) | (refine wpList_load_want (by rfl) 30 (.tmp 4) rfl gX4 rfl _ _ (0, 0) _ (L.bk_ 0 rfl) Tryz.underlying30 rfl ak_sz ?_))
  refine (right_any ha (h0.below L.K) (hs.below L.K) hX hw).mono ?_
  rintro e w3 ⟨bo, rfl, hB, K'⟩
  replace L := L.over K'
  rcases bo with _ | _
  · clear hB
    go_wp2_with fail
    refine (awake_any _).mono ?_
    rintro e w92 ⟨rfl, K'⟩
    replace L := L.over K'
    go_wp2
    go_ret
    exact ⟨rfl, L.K⟩
  replace hB := hB rfl
  clear hB
  go_wp2_with fail
  refine (awake_any _).mono ?_
  rintro e w4 ⟨rfl, K'⟩
  replace L := L.over K'
  go_wp2
  go_ret
  exact ⟨rfl, L.K⟩
set_option maxRecDepth 100000 in
set_option maxHeartbeats 4000000 in
theorem near (ha : a < 4294967296) (h0 : IS .i64 lo w A n c zs) (hs : IS .u32 lo2 w A0 n0 c0 xs) (hX : X < 4294967296) (hw : W32 xs) (hE : IS .u32 lo3 w E k q es) (he : ∀ x ∈ es, (Lit.int .u32 x).wf = true) (hk : k ≤ 200) :
    Calls Tryz.prog 3 #[.agg #[.int .u32 (a : Int), .int .i64 p, .slice A n c, .int .i64 sh, .int .i64 wo, .int .i64 qu, .int .i64 tr], .agg #[.int .i64 kd, .int .u32 (X : Int), .slice A0 n0 c0], .slice E k q] w (RetBo true w) := by
  have f0 : decide ((200 : Int) < (k : Int)) = false := by simp; omega
  have hH0 : Lists 0 w ⟨A0, n0, c0, none, 0, 0, none, 0, 0, none, 0, 0⟩ ⟨xs, [], [], []⟩ := ⟨hs.lower (Nat.zero_le _), IS.none_ _ _ _, IS.none_ _ _ _, IS.none_ _ _ _⟩
  replace he := Lib.hid he
  go_enter Tryz.func3, Tryz.ntmps3
  go_upto_region 1 with (fail)
  have L := Loc.start w
  replace L := ((L).alloc #[.int .u32 (a : Int), .int .i64 p, .slice A n c, .int .i64 sh, .int .i64 wo, .int .i64 qu, .int .i64 tr] 27).alloc #[.int .i64 kd, .int .u32 (X : Int), .slice A0 n0 c0] 30
  try simp only [World.size_alloc] at L
  try dsimp only [nput] at L
  generalize ((w).alloc (.cells #[.int .u32 (a : Int), .int .i64 p, .slice A n c, .int .i64 sh, .int .i64 wo, .int .i64 qu, .int .i64 tr] 27)).alloc (.cells #[.int .i64 kd, .int .u32 (X : Int), .slice A0 n0 c0] 30) = w1 at L ⊢
  generalize w.heap.size + 1 = gX4 at L ⊢
  generalize w.heap.size = gH at L ⊢
  go_wp2_with fail
  refine (awake_any _).mono ?_
  rintro e w2 ⟨rfl, K'⟩
  replace L := L.over K'
  go_wp2_with (first | (refine wpList_load_want (by rfl) 27 (.tmp 3) rfl gH rfl _ _ (0, 0) _ (L.bk_ 1 rfl) Tryz.underlying27 rfl cf_sz ?_) | (refine wpList_load_want (by rfl) 30 (.tmp 4) rfl gX4 rfl _ _ (0, 0) _ (L.bk_ 0 rfl) Tryz.underlying30 rfl ak_sz ?_))
  refine (right_any ha (h0.below L.K) (hs.below L.K) hX hw).mono ?_
  rintro e w3 ⟨bo, rfl, hB, K'⟩
  replace L := L.over K'
  rcases bo with _ | _
  · clear hB
    go_wp2_with fail
    refine (awake_any _).mono ?_
    rintro e w92 ⟨rfl, K'⟩
    replace L := L.over K'
    go_wp2
    go_ret
    exact ⟨rfl, L.K⟩
  replace hB := hB rfl
  obtain ⟨⟨M, ns, hC, hfi⟩, hn1, hkd⟩ := hB
  obtain ⟨o, hxo, hoM, hho⟩ := fi_in hfi
  clear hfi
  have hshe := hC.ns_
  subst hshe
  have hM := hC.much
  have h1 := hC.ns1
  have h2 := hC.ns2
  have hM9 := hC.sml
  have hMp := hM.pos
  have hMm := hM.most
  have hn9 := hC.few
  have hfit := hM.fits ha
  have hlv : lv M ≤ 8 ∧ 1 ≤ lv M ∧ tv M = 1 := by unfold tv tq lv; omega
  obtain ⟨m, hm⟩ : ∃ m, m = lv M + tv M + 1 := ⟨_, rfl⟩
  have hm6 : m ≤ 65536 ∧ 0 < m ∧ lv M ≤ m := by omega
  obtain ⟨y0, hy0⟩ : ∃ y0, y0 = cl (nw M zs) (lv M) (tv M) (lv M) := ⟨_, rfl⟩
  have hY0 := yi_start (M := M) (zs := zs)
  have TW := fun w (h : IS .i64 lo w A n c zs) => Lib.hid (wcells_new (w := w) (sh := (ns : Int)) (wo := wo) (qu := qu) (tr := tr) ha hM h (by omega) hC.ris)
  rw [← hy0] at hY0
  simp only [← hy0, ← hm] at TW
  replace hm := Lib.hid hm
  clear hy0
  have TD := fun w D B d ys (hD : D < 4294967296) (hY : YI M zs ys) (h : IS .i64 lo w A n c zs) (U : US w B m d ys) => Lib.hid (dist_any (w := w) (p := p) (wo := wo) (qu := qu) (tr := tr) hD hC h hY U)
  replace hC := Lib.hid hC
  have hxl : xs.length ≤ 65536 := by have := hs.len; omega
  have TS := fun w lo h B d ys s (hEI : EI a M zs o s) (hY : YI M zs ys) (U : US w B m d ys) (L : Lists lo w h ⟨xs, [], [], []⟩) => Lib.hid (xs_any (w := w) (ns := ns) (wo := wo) (qu := qu) (tr := tr) (A := A) (n := n) (c := c) ha hM hEI hY U L hxl)
  have TR := fun w h B d ys s (hEI : EI a M zs o s) (hY : YI M zs ys) (U : US w B m d ys) => Lib.hid (xrs_any (w := w) (h := h) (ns := ns) (wo := wo) (qu := qu) (tr := tr) (A := A) (n := n) (c := c) ha hM hEI hY U)
  have TB := fun w (h : IS .u32 lo2 w A0 n0 c0 xs) => Lib.hid (xbegin_any (w := w) (ns := ns) (kd := kd) (p := p) (wo := wo) (qu := qu) (tr := tr) (A := A) (n := n) (c := c) ha hM hX hxo hoM h (by omega))
  have TC := fun w (h : IS .u32 lo2 w A0 n0 c0 xs) => Lib.hid (rb18_any (w := w) (ns := ns) (kd := kd) (p := p) (wo := wo) (qu := qu) (tr := tr) (A := A) (n := n) (c := c) ha hM hX hxo hoM h)
  obtain ⟨s0, hs0⟩ : ∃ s0, s0 = eS0 kd (X : Int) o := ⟨_, rfl⟩
  have hE0 : EI a M zs o s0 := by rw [hs0]; exact ei_start hkd hoM hho
  simp only [← hs0] at TB TC
  clear hs0
  replace hxo := Lib.hid hxo
  go_upto_region 3 with fail
  go_wp2_with (first | (refine wpList_load_row rfl 27 (.tmp 3) rfl gH rfl _ _ (0, 0) _ (L.bk_ 1 rfl) Tryz.underlying27 rfl cf_sz ?_) | (refine wpList_load_row rfl 30 (.tmp 4) rfl gX4 rfl _ _ (0, 0) _ (L.bk_ 0 rfl) Tryz.underlying30 rfl ak_sz ?_))
  refine ((TB _ (hs.below L.K)).out).mono ?_
  rintro e w4 ⟨h6, rfl, L', hSA, K'⟩
  have Lb := L.lts
  replace L := L.over K'
  replace L := L.of_ap L' (fun i b e => hSA b.1 (Lb i b e) (hH0.hap L i b e))
  clear Lb
  try dsimp only [lF, List.cons_append, List.nil_append] at L
  clear L' hSA
  go_upto_region 4 with (refine wpList_store_row rfl 40 (.tmp 7) (.tmp 33) rfl _ _ rfl (show _ = Value.agg (opv h6 s0) from rfl) _ _ (Bk.new _ _ _) op_sz rfl (opv_one _ _) ?_)
  try rw [World.setRow_alloc_new]
  replace L := (L).alloc (opv h6 s0) 40
  try simp only [World.size_alloc] at L
  try dsimp only [nput] at L
  generalize (w4).alloc (.cells (opv h6 s0) 40) = w5 at L ⊢
  generalize w4.heap.size = gO at L ⊢
  go_wp2_with (first | (refine wpList_load_row rfl 27 (.tmp 3) rfl gH rfl _ _ (0, 0) _ (L.bk_ 2 rfl) Tryz.underlying27 rfl cf_sz ?_) | (refine wpList_load_row rfl 30 (.tmp 4) rfl gX4 rfl _ _ (0, 0) _ (L.bk_ 1 rfl) Tryz.underlying30 rfl ak_sz ?_))
  refine ((TC _ (hs.below L.K)).out).mono ?_
  rintro e w6 ⟨h7, rfl, L', hSA, K'⟩
  have Lb := L.lts
  replace L := L.over K'
  replace L := L.of_ap L' (fun i b e => hSA b.1 (Lb i b e) (hH0.hap L i b e))
  clear Lb
  try dsimp only [lF, List.cons_append, List.nil_append] at L
  clear L' hSA
  go_upto_region 5 with (refine wpList_store_row rfl 40 (.tmp 8) (.tmp 36) rfl _ _ rfl (show _ = Value.agg (opv h7 s0) from rfl) _ _ (Bk.new _ _ _) op_sz rfl (opv_one _ _) ?_)
  try rw [World.setRow_alloc_new]
  replace L := (L).alloc (opv h7 s0) 40
  try simp only [World.size_alloc] at L
  try dsimp only [nput] at L
  generalize (w6).alloc (.cells (opv h7 s0) 40) = w7 at L ⊢
  generalize w6.heap.size = gP at L ⊢
  go_wp2_with (first | (refine wpList_load_row rfl 40 (.tmp 7) rfl gO rfl _ _ (0, 0) _ (L.bk_ 1 rfl) Tryz.underlying40 rfl op_sz ?_) | (refine wpList_load_row rfl 40 (.tmp 8) rfl gP rfl _ _ (0, 0) _ (L.bk_ 0 rfl) Tryz.underlying40 rfl op_sz ?_))
  refine (xsame_any (L.of_ 1 rfl) (L.of_ 0 rfl) hxl).mono ?_
  rintro e w8 ⟨rfl, K'⟩
  replace L := L.over K'
  go_wp2_with (refine wpList_load_row rfl 27 (.tmp 3) rfl gH rfl _ _ (0, 0) _ (L.bk_ 3 rfl) Tryz.underlying27 rfl cf_sz ?_)
  refine ((TW _ (h0.below L.K)).out).mono ?_
  rintro e w9 ⟨gU, dU, rfl, U, hgU, K'⟩
  have Lb := L.lts
  replace L := L.over K'
  replace L := L.us_av (fun i b e b' o e' => by injection e' with e'; injection e' with e1; have := Lb i b e; omega) U
  clear Lb
  try dsimp only [lF, List.cons_append, List.nil_append] at L
  clear U hgU
  go_wp2
  clear TB TC TW
  replace L := L.only (fs' := [oF h6 ⟨xs, [], [], []⟩, oF h7 ⟨xs, [], [], []⟩, uF (some ⟨gU, 0, none⟩) m dU y0]) (by simp)
  go_loopw [9, 10] (fun lv_ iv wr => ∃ (u : Nat) (h hr : Hd) (s : Sc) (B2 : Option Addr) (d2 : Nat) (y2 : List Nat), u ≤ k ∧ lv_ = .slice B2 m d2 ∧ iv = .int .i64 (u : Nat) ∧ EI a M zs o s ∧ YI M zs y2 ∧ Loc w wr [(gP, 40, opv hr s), (gO, 40, opv h s), (gX4, 30, #[.int .i64 kd, .int .u32 (X : Int), .slice A0 n0 c0]), (gH, 27, #[.int .u32 (a : Int), .int .i64 p, .slice A n c, .int .i64 (ns : Int), .int .i64 wo, .int .i64 qu, .int .i64 tr])] [oF h ⟨xs, [], [], []⟩, oF hr ⟨xs, [], [], []⟩, uF B2 m d2 y2]) (fun _ iv _ => k - (intOf iv).toNat)
  case atStart => exact ⟨0, h6, h7, s0, _, _, y0, Nat.zero_le _, rfl, rfl, hE0, hY0.1, L⟩
  case round =>
    clear L
    obtain ⟨u, h, hr, s, B2, d2, y2, hu, rfl, rfl, hEI, hY2, L⟩ := hrel
    by_cases hlt : u < k
    · obtain ⟨be, oe, hEe, hbe, hce⟩ := hE.get hlt
      obtain ⟨D, hD, hD2⟩ := wf_u32 (he.out (gi es u) (gi_mem (by have := hE.len; omega)))
      rw [hD] at hce
      subst hEe
      clear hD
      have hu2 : (u : Int) < (k : Int) := by omega
      go_upto_region 11 with (fail)
      replace L := L.drew
      refine wp_region_held_drew (S := fun w' => Loc w w' [(gP, 40, opv hr s), (gO, 40, opv h s), (gX4, 30, #[.int .i64 kd, .int .u32 (X : Int), .slice A0 n0 c0]), (gH, 27, #[.int .u32 (a : Int), .int .i64 p, .slice A n c, .int .i64 (ns : Int), .int .i64 wo, .int .i64 qu, .int .i64 tr])] [oF h ⟨xs, [], [], []⟩, oF hr ⟨xs, [], [], []⟩, uF B2 m d2 y2]) (by kernel_rfl) L (fun hHeld => ?_)
      generalize wr.drew = v10 at hHeld L ⊢
      refine wpAnyH_take (i := 0) (oi := ⟨some 49, _, _, _, _, _⟩) (v := .agg (#[.int .u32 (a : Int), .int .i64 p, .slice A n c, .int .i64 (ns : Int), .int .i64 wo, .int .i64 qu, .int .i64 tr])) rfl (by kernel_rfl) (by kernel_rfl) (by kernel_rfl) (fun _ _ _ h => h) (yieldsIf_load_row (by rfl) 27 (.tmp 3) rfl gH rfl 27 _ (0, 0) _ (fun _ hS => ((hS).bk_ 3 rfl)) Tryz.underlying27 rfl cf_sz) hHeld ?_
      try simp only [Act.put, List.setIfInBounds_toArray, List.set_cons_zero, List.set_cons_succ]
      refine wpAnyH_take (i := 1) (oi := ⟨some 50, _, _, _, _, _⟩) (v := ?_) rfl (by kernel_rfl) (by kernel_rfl) (by kernel_rfl) (fun _ _ _ h => h) (Or.inl ⟨by rfl, ?_⟩) hHeld ?_
      rotate_left
      · intro ww hS
        try dsimp only at hS
        go_simp
        try with_reducible rfl
        try omega
      try simp only [Act.put, List.setIfInBounds_toArray, List.set_cons_zero, List.set_cons_succ]
      refine wpAnyH_take (i := 2) (oi := ⟨some 51, _, _, _, _, _⟩) (v := .slice (some ⟨be, oe, none⟩) k q) rfl (by kernel_rfl) (by kernel_rfl) (by kernel_rfl) (fun _ _ _ h => h) (Or.inl ⟨by rfl, ?_⟩) hHeld ?_
      · intro ww hS
        try dsimp only at hS
        go_simp
        try with_reducible rfl
        try omega
      try simp only [Act.put, List.setIfInBounds_toArray, List.set_cons_zero, List.set_cons_succ]
      refine wpAnyH_take (i := 3) (oi := ⟨some 52, _, _, _, _, _⟩) (v := .int .i64 (u : Int)) rfl (by kernel_rfl) (by kernel_rfl) (by kernel_rfl) (fun _ _ _ h => h) (Or.inl ⟨by rfl, ?_⟩) hHeld ?_
      · intro ww hS
        try dsimp only at hS
        go_simp
        try with_reducible rfl
        try omega
      try simp only [Act.put, List.setIfInBounds_toArray, List.set_cons_zero, List.set_cons_succ]
      refine wpAnyH_take (i := 4) (oi := ⟨some 53, _, _, _, _, _⟩) (v := .pointer (some ⟨be, oe + u, none⟩)) rfl (by kernel_rfl) (by kernel_rfl) (by kernel_rfl) (fun _ _ _ h => h) (Or.inl ⟨by rfl, ?_⟩) hHeld ?_
      · intro ww hS
        try dsimp only at hS
        go_simp
        try with_reducible rfl
        try omega
      try simp only [Act.put, List.setIfInBounds_toArray, List.set_cons_zero, List.set_cons_succ]
      refine wpAnyH_take (i := 5) (oi := ⟨some 54, _, _, _, _, _⟩) (v := .int .u32 (D : Int)) rfl (by kernel_rfl) (by kernel_rfl) (by kernel_rfl) (fun _ _ _ h => h) (Or.inl ⟨by rfl, ?_⟩) hHeld ?_
      · intro ww hS
        try dsimp only at hS
        have XE := (((hS)).K.cell (p := ⟨be, oe + u, none⟩) hbe).trans hce
        go_simp
        try with_reducible rfl
        try omega
      try simp only [Act.put, List.setIfInBounds_toArray, List.set_cons_zero, List.set_cons_succ]
      refine wpAnyH_ready (rs := [6]) (by kernel_rfl) (by simp) ?_
      refine AllReadyH.cons (o := ⟨some 55, _, _, _, _, _⟩) rfl (fun K0 hK => ?_) AllReadyH.nil
      go_simp
      refine ((TD _ _ _ _ _ hD2 hY2 (h0.below L.K) (L.us_ 2 rfl)).out).mono ?_
      rintro e w11 ⟨B3, d3, y3, rfl, U, hDR, hA, K'⟩
      have Lb := L.lts
      replace L := L.over K'
      replace L := L.us_av (fun i b e => hA b.1 (Lb i b e) (L.ap_ 2 rfl hm6.2.1 i b e)) U
      clear Lb
      try dsimp only [lF, List.cons_append, List.nil_append] at L
      clear U hA
      refine hK.out _ _ (L.less 1) (fun hHeld' => ?_)
      clear hHeld hK K0
      have hHeld := hHeld'
      clear hHeld'
      clear K'
      try simp only [Act.put, List.setIfInBounds_toArray, List.set_cons_zero, List.set_cons_succ]
      refine wpAnyH_take (i := 7) (oi := ⟨some 9, _, _, _, _, _⟩) (v := .slice B3 m d3) rfl (by kernel_rfl) (by kernel_rfl) (by kernel_rfl) (fun _ _ _ h => h) (Or.inl ⟨by rfl, ?_⟩) hHeld ?_
      · intro ww hS
        try dsimp only at hS
        go_simp
        try with_reducible rfl
        try omega
      try simp only [Act.put, List.setIfInBounds_toArray, List.set_cons_zero, List.set_cons_succ]
      refine wpAnyH_done (by kernel_rfl) ?_ _
      clear hHeld
      have hY3 := (dist_leaf hMm hY2 hDR).1
      obtain ⟨hE3, hY4⟩ := ei_step hMm hfit hEI hY3
      have TK := fun w lo h B d U L => TS w lo h B d y3 s hEI hY3 U L
      have TL := fun w h B d U => TR w h B d y3 s hEI hY3 U
      obtain ⟨s3, hs3⟩ : ∃ s3, s3 = eS a M y3 s := ⟨_, rfl⟩
      obtain ⟨y4, hy4⟩ : ∃ y4, y4 = gC M y3 s := ⟨_, rfl⟩
      obtain ⟨b3, hb3⟩ : ∃ b3, b3 = eB y3 s := ⟨_, rfl⟩
      simp only [← hs3, ← hy4, ← hb3] at TK TL hE3 hY4
      clear hs3 hy4 hb3 hEI hY2 TS TR hDR
      replace hE3 := Lib.hid hE3
      replace hY4 := Lib.hid hY4
      go_wp2_with (first | (refine wpList_load_row rfl 27 (.tmp 3) rfl gH rfl _ _ (0, 0) _ (L.bk_ 3 rfl) Tryz.underlying27 rfl cf_sz ?_) | (refine wpList_load_row rfl 40 (.tmp 7) rfl gO rfl _ _ (0, 0) _ (L.bk_ 1 rfl) Tryz.underlying40 rfl op_sz ?_))
      refine ((TK _ _ _ _ _ (L.us_ 0 rfl) (L.of_ 1 rfl)).out).mono ?_
      rintro e w12 ⟨h4, B4, d4, rfl, U, L', hA, K'⟩
      have Lb := L.lts
      replace L := L.over K'
      replace L := L.us_av (fun i b e => hA b.1 (Lb i b e) (L.ap_ 0 rfl hm6.2.1 i b e)) U
      replace L := L.of_new Lb L'
      clear Lb
      try dsimp only [lF, List.cons_append, List.nil_append] at L
      clear U L' hA
      go_upto_region 13 with (refine wpList_store_row rfl 40 (.tmp 12) (.tmp 62) rfl _ _ rfl (show _ = Value.agg (opv h4 s3) from rfl) _ _ (Bk.new _ _ _) op_sz rfl (opv_one _ _) ?_)
      try rw [World.setRow_alloc_new]
      replace L := (L).alloc (opv h4 s3) 40
      try simp only [World.size_alloc] at L
      try dsimp only [nput] at L
      generalize (w12).alloc (.cells (opv h4 s3) 40) = w13 at L ⊢
      generalize w12.heap.size = gQ at L ⊢
      go_wp2_with (first | (refine wpList_load_row rfl 27 (.tmp 3) rfl gH rfl _ _ (0, 0) _ (L.bk_ 4 rfl) Tryz.underlying27 rfl cf_sz ?_) | (refine wpList_load_row rfl 40 (.tmp 8) rfl gP rfl _ _ (0, 0) _ (L.bk_ 1 rfl) Tryz.underlying40 rfl op_sz ?_))
      refine ((TL _ _ _ _ (L.us_ 2 rfl)).out).mono ?_
      rintro e w14 ⟨B5, d5, rfl, U, hA, K'⟩
      have Lb := L.lts
      replace L := L.over K'
      replace L := L.us_av (fun i b e => hA b.1 (Lb i b e) (L.ap_ 2 rfl hm6.2.1 i b e)) U
      clear Lb
      try dsimp only [lF, List.cons_append, List.nil_append] at L
      clear U hA
      go_upto_region 14 with (refine wpList_store_row rfl 40 (.tmp 15) (.tmp 70) rfl _ _ rfl (show _ = Value.agg (opv hr s3) from rfl) _ _ (Bk.new _ _ _) op_sz rfl (opv_one _ _) ?_)
      try rw [World.setRow_alloc_new]
      replace L := (L).alloc (opv hr s3) 40
      try simp only [World.size_alloc] at L
      try dsimp only [nput] at L
      generalize (w14).alloc (.cells (opv hr s3) 40) = w15 at L ⊢
      generalize w14.heap.size = gR at L ⊢
      go_wp2_with fail
      refine (same_any (L.us_ 2 rfl) (L.us_ 0 rfl) hm6.1).mono ?_
      rintro e w16 ⟨rfl, K'⟩
      replace L := L.over K'
      go_wp2_with (first | (refine wpList_load_want (by rfl) 40 (.tmp 12) rfl gQ rfl _ _ (0, 0) _ (L.bk_ 1 rfl) Tryz.underlying40 rfl op_sz ?_) | (refine wpList_load_want (by rfl) 40 (.tmp 15) rfl gR rfl _ _ (0, 0) _ (L.bk_ 0 rfl) Tryz.underlying40 rfl op_sz ?_))
      refine (xsame_any (L.of_ 1 rfl) (L.of_ 5 rfl) hxl).mono ?_
      rintro e w17 ⟨rfl, K'⟩
      replace L := L.over K'
      go_upto_region 18 with (first | (refine wpList_load_row rfl 40 (.tmp 12) rfl gQ rfl _ _ (0, 0) _ (L.bk_ 1 rfl) Tryz.underlying40 rfl op_sz ?_) | (refine wpList_store_row rfl 40 (.tmp 7) (.tmp 88) rfl gO _ rfl rfl _ _ (L.bk_ 3 rfl) op_sz rfl (opv_one _ _) ?_))
      replace L := (L.row 3 rfl (opv h4 s3))
      try dsimp only [nput] at L
      generalize (w17).setRow gO (opv h4 s3) = w18 at L ⊢
      go_upto_region 10 with (first | (refine wpList_load_row rfl 40 (.tmp 15) rfl gR rfl _ _ (0, 0) _ (L.bk_ 0 rfl) Tryz.underlying40 rfl op_sz ?_) | (refine wpList_store_row rfl 40 (.tmp 8) (.tmp 89) rfl gP _ rfl rfl _ _ (L.bk_ 2 rfl) op_sz rfl (opv_one _ _) ?_))
      replace L := (L.row 2 rfl (opv hr s3))
      try dsimp only [nput] at L
      generalize (w18).setRow gP (opv hr s3) = w19 at L ⊢
      go_wp2
      replace L := L.only (fs' := [oF h4 ⟨xs, [], [], []⟩, oF hr ⟨xs, [], [], []⟩, uF B4 m d4 y4]) (by simp)
      replace L := L.del 1
      dsimp only [ndel] at L
      replace L := L.del 0
      dsimp only [ndel] at L
      go_roundw
      case rel => exact ⟨u + 1, h4, hr, s3, B4, d4, y4, by omega, rfl, by go_num, hE3.out, hY4.out, L⟩
      case measure => simp [intOf]; omega
    · have huk : u = k := by omega
      have hno : ¬ ((u : Int) < (k : Int)) := by omega
      clear hu hlt
      go_wp2
      go_ret
      exact ⟨rfl, L.K⟩
theorem main (ha : a < 4294967296) (h0 : IS .i64 lo w A n c zs) (hs : IS .u32 lo2 w A0 n0 c0 xs) (hX : X < 4294967296) (hw : W32 xs) (hE : IS .u32 lo3 w E k q es) (he : ∀ x ∈ es, (Lit.int .u32 x).wf = true) :
    Calls Tryz.prog 3 #[.agg #[.int .u32 (a : Int), .int .i64 p, .slice A n c, .int .i64 sh, .int .i64 wo, .int .i64 qu, .int .i64 tr], .agg #[.int .i64 kd, .int .u32 (X : Int), .slice A0 n0 c0], .slice E k q] w (RetBo true w) := by
  by_cases hk : k ≤ 200
  · exact near ha h0 hs hX hw hE he hk
  · exact far ha h0 hs hX hw hE he (by omega)
end
theorem walk (a p : Int) (A : Option Addr) (n c : Nat) (z : List Int) (sh wo qu tr : Int) (kd x : Int) (A0 : Option Addr) (n0 c0 : Nat) (zx : List Int) (E : Option Addr) (k q : Nat) (ze : List Int) (w : World) (wa : (Lit.int .u32 a).wf = true) (wr : IsRow .i64 w A n c z) (wx : (Lit.int .u32 x).wf = true) (wxs : IsRow .u32 w A0 n0 c0 zx) (we : IsRow .u32 w E k q ze) :
    Calls Tryz.prog 3 #[.agg #[.int .u32 a, .int .i64 p, .slice A n c, .int .i64 sh, .int .i64 wo, .int .i64 qu, .int .i64 tr], .agg #[.int .i64 kd, .int .u32 x, .slice A0 n0 c0], .slice E k q] w fun e w' => e = .returned (.bool true) ∧ Below w.heap.size w w' := by
  obtain ⟨a, rfl, ha⟩ := wf_u32 wa
  obtain ⟨zs, h0, _⟩ := IS.of_row wr
  obtain ⟨X, rfl, hX⟩ := wf_u32 wx
  obtain ⟨xs, hs, hw⟩ := row_w32 wxs
  obtain ⟨es, hE, he⟩ := IS.of_row we
  exact main ha h0 hs hX hw hE he
end Go.Proofs.YtacgjaohfcoigaaGreat.exactSteps

