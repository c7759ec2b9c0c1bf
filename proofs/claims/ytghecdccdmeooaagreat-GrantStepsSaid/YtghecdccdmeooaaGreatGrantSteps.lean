/-
  The walk of the law GrantSteps: for every configuration, home and doings of others it answers true.
-/
import Derived.Test.YtghecdccdmeooaaGreatGrS17
namespace Go.Proofs.YtghecdccdmeooaaGreat.grantSteps
set_option maxRecDepth 100000
open Go.RowKit
set_option linter.unusedVariables false
section
variable {w : World} {lo lo2 lo4 a X k q k2 q2 : Nat} {p sh wo qu tr : Int} {A E E2 : Option Addr} {n c : Nat} {zs es es2 : List Int}
theorem Loc.gf_av {w0 w : World} {bs : List Bl} {fs : List Fct} {h : Hd} {sn : List Nat} (L : Loc w0 w bs fs) (k : Nat) (e : nth fs k = some (gF h sn)) (hn : 0 < h.n3) : ∀ i b, nth bs i = some b → Apart b.1 h.A3 := fun i b eb b1 o1 e1 hb =>
  (L.fc _ (nth_mem e)).2.2 i b eb ⟨hn, o1, by rw [e1, hb]⟩
theorem gi_fit {M ns N : Nat} {zs : List Int} {s : Sc} {sn : List Nat} (hG : GI M ns zs N s sn) : ∀ x ∈ sn, x < U64 := by
  cases hG.ph <;> first | (intro x hx; cases hx; done) | (rename_i h4; exact fun x hx => (h4 x hx).1)
theorem gsame_any {w : World} {lo lo' : Nat} {h h' : Hd} {s : Sc} {sn : List Nat} (L : Lists lo w h (gl sn)) (L' : Lists lo' w h' (gl sn)) (hf : ∀ x ∈ sn, x < U64) (hn : sn.length ≤ 2048) :
    Calls Tryz.prog 16 #[.agg (opv h s), .agg (opv h' s)] w (RetBo true w) := by
  obtain ⟨a0, a1, a2, a3⟩ := gl_len L
  obtain ⟨b0, b1, b2, b3⟩ := gl_len L'
  rcases h with ⟨A0, n0, c0, A1, n1, c1, A2, n2, c2, A3, n3, c3⟩
  rcases h' with ⟨B0, m0, e0, B1, m1, e1, B2, m2, e2, B3, m3, e3⟩
  dsimp only at a0 a1 a2 a3 b0 b1 b2 b3
  subst a0 a1 a2 a3 b0 b1 b2 b3
  exact sameop_any (xs := []) (L.i0.lower (Nat.zero_le _)) (L'.i0.lower (Nat.zero_le _)) L L' (fun x hx => by
    obtain ⟨v, hv, rfl⟩ := List.mem_map.1 hx
    exact wf_ofU64 (hf v hv)) (by omega) (by omega) (by omega) (by omega)
set_option maxHeartbeats 2000000 in
theorem far (ha : a < 4294967296) (h0 : IS .i64 lo w A n c zs) (hX : X < 256) (hE : IS .u32 lo2 w E k q es) (he : ∀ x ∈ es, (Lit.int .u32 x).wf = true) (hk : 200 < k) :
    Calls Tryz.prog 3 #[.agg #[.int .u32 (a : Int), .int .i64 p, .slice A n c, .int .i64 sh, .int .i64 wo, .int .i64 qu, .int .i64 tr], .int .u8 (X : Int), .slice E k q] w (RetBo true w) := by
  have f0 : decide ((200 : Int) < (k : Int)) = true := by simp; omega
  go_enter Tryz.func3, Tryz.ntmps3
  go_upto_region 1 with (fail)
  have L := Loc.start w
  replace L := (L).alloc #[.int .u32 (a : Int), .int .i64 p, .slice A n c, .int .i64 sh, .int .i64 wo, .int .i64 qu, .int .i64 tr] 27
  try simp only [World.size_alloc] at L
  try dsimp only [nput] at L
  generalize (w).alloc (.cells #[.int .u32 (a : Int), .int .i64 p, .slice A n c, .int .i64 sh, .int .i64 wo, .int .i64 qu, .int .i64 tr] 27) = w1 at L ⊢
  generalize w.heap.size = gH at L ⊢
  go_wp2_with fail
  refine (awake_any _).mono ?_
  rintro e w2 ⟨rfl, K'⟩
  replace L := L.over K'
  go_wp2_with (refine wpList_load_want (by rfl) 27 (.tmp 3) rfl gH rfl _ _ (0, 0) _ (L.bk_ 0 rfl) Tryz.underlying27 rfl cf_sz ?_)
  refine (small_any ha (h0.below L.K)).mono ?_
  rintro e w3 ⟨bo, rfl, hB, K'⟩
  replace L := L.over K'
  rcases bo with _ | _
  · clear hB
    go_wp2_with fail
    refine (awake_any _).mono ?_
    rintro e w92 ⟨rfl, K'⟩
    replace L := L.over K'
    go_wp2
    go_ret
    exact ⟨rfl, L.K⟩
  replace hB := hB rfl
  clear hB
  go_wp2_with fail
  refine (awake_any _).mono ?_
  rintro e w4 ⟨rfl, K'⟩
  replace L := L.over K'
  go_wp2
  go_ret
  exact ⟨rfl, L.K⟩
set_option maxHeartbeats 4000000 in
theorem near (ha : a < 4294967296) (h0 : IS .i64 lo w A n c zs) (hX : X < 256) (hE : IS .u32 lo2 w E k q es) (he : ∀ x ∈ es, (Lit.int .u32 x).wf = true) (hk : k ≤ 200) :
    Calls Tryz.prog 3 #[.agg #[.int .u32 (a : Int), .int .i64 p, .slice A n c, .int .i64 sh, .int .i64 wo, .int .i64 qu, .int .i64 tr], .int .u8 (X : Int), .slice E k q] w (RetBo true w) := by
  have f0 : decide ((200 : Int) < (k : Int)) = false := by simp; omega
  replace he := Lib.hid he
  have wX : IntKind.i64.wrap (X : Int) = (X : Int) := IntWalk.i64_in _ (by omega)
  go_enter Tryz.func3, Tryz.ntmps3
  go_upto_region 1 with (fail)
  have L := Loc.start w
  replace L := (L).alloc #[.int .u32 (a : Int), .int .i64 p, .slice A n c, .int .i64 sh, .int .i64 wo, .int .i64 qu, .int .i64 tr] 27
  try simp only [World.size_alloc] at L
  try dsimp only [nput] at L
  generalize (w).alloc (.cells #[.int .u32 (a : Int), .int .i64 p, .slice A n c, .int .i64 sh, .int .i64 wo, .int .i64 qu, .int .i64 tr] 27) = w1 at L ⊢
  generalize w.heap.size = gH at L ⊢
  go_wp2_with fail
  refine (awake_any _).mono ?_
  rintro e w2 ⟨rfl, K'⟩
  replace L := L.over K'
  go_wp2_with (refine wpList_load_want (by rfl) 27 (.tmp 3) rfl gH rfl _ _ (0, 0) _ (L.bk_ 0 rfl) Tryz.underlying27 rfl cf_sz ?_)
  refine (small_any ha (h0.below L.K)).mono ?_
  rintro e w3 ⟨bo, rfl, hB, K'⟩
  replace L := L.over K'
  rcases bo with _ | _
  · clear hB
    go_wp2_with fail
    refine (awake_any _).mono ?_
    rintro e w92 ⟨rfl, K'⟩
    replace L := L.over K'
    go_wp2
    go_ret
    exact ⟨rfl, L.K⟩
  replace hB := hB rfl
  obtain ⟨M, ns, hC⟩ := hB
  have hshe := hC.ns_
  subst hshe
  have hM := hC.much
  have h1 := hC.ns1
  have h2 := hC.ns2
  have hM9 := hC.sml
  have hMp := hM.pos
  have hMm := hM.most
  have hn9 := hC.few
  have hfit := hM.fits ha
  have hlv : lv M ≤ 8 ∧ 1 ≤ lv M ∧ tv M = 1 := by unfold tv tq lv; omega
  obtain ⟨m, hm⟩ : ∃ m, m = lv M + tv M + 1 := ⟨_, rfl⟩
  have hm6 : m ≤ 65536 ∧ 0 < m ∧ lv M ≤ m := by omega
  obtain ⟨y0, hy0⟩ : ∃ y0, y0 = cl (nw M zs) (lv M) (tv M) (lv M) := ⟨_, rfl⟩
  have hY0 := yi_start (M := M) (zs := zs)
  have TW := fun w (h : IS .i64 lo w A n c zs) => Lib.hid (wcells_new (w := w) (sh := (ns : Int)) (wo := wo) (qu := qu) (tr := tr) ha hM h (by omega) hC.ris)
  rw [← hy0] at hY0
  simp only [← hy0, ← hm] at TW
  replace hm := Lib.hid hm
  clear hy0
  have TD := fun w D B d ys (hD : D < 4294967296) (hY : YI M zs ys) (h : IS .i64 lo w A n c zs) (U : US w B m d ys) => Lib.hid (dist_any (w := w) (p := p) (wo := wo) (qu := qu) (tr := tr) hD hC h hY U)
  have TO := fun w B d ys (h : IS .i64 lo w A n c zs) (U : US w B m d ys) => Lib.hid (rof_new (w := w) (sh := (ns : Int)) (wo := wo) (qu := qu) (tr := tr) hM h (by omega) U hm6.2.2 hm6.1)
  have TM := fun w => Lib.hid (most_any (w := w) (wo := wo) (qu := qu) (tr := tr) (A := A) (n := n) (c := c) hM h2)
  obtain ⟨MO, hMO⟩ : ∃ x, x = ns * (3 + tv M) + 2 * lv M + 6 := ⟨_, rfl⟩
  simp only [← hMO] at TM
  have hMOb : 1 ≤ MO ∧ MO ≤ 1000 := by rw [hMO]; have : ns * (3 + tv M) ≤ 64 * 4 := Nat.mul_le_mul h2 (by omega); omega
  have TS := fun w lo h B d ys s sn N (hN : N ≤ 60000) (hG : GI M ns zs N s sn) (hY : YI M zs ys) (U : US w B m d ys) (L : Lists lo w h (gl sn)) => Lib.hid (gstep_any (w := w) (lo := lo) (h := h) (s := s) (wo := wo) (qu := qu) (tr := tr) (A := A) (n := n) (c := c) ha hM h1 h2 hN hG hY U L)
  replace hMO := Lib.hid hMO
  have TR := fun w lo h B d ys s sn N (hN : N ≤ 60000) (hG : GI M ns zs N s sn) (hF : Mf s) (hY : YI M zs ys) (U : US w B m d ys) (L : Lists lo w h (gl sn)) => Lib.hid (grs_any (w := w) (lo := lo) (h := h) (s := s) (wo := wo) (qu := qu) (tr := tr) (A := A) (n := n) (c := c) ha hM h1 h2 hN hG hY U L hF)
  obtain ⟨hd, ehd1, ehd2, hhd⟩ := ghd_of (X := X) h1
  have hns0 : ¬ ((ns : Int) = 0) := by omega
  have H_3 := L.at_ 0 3 rfl (v := .int .i64 (ns : Int)) rfl
  have H_z := L.lt 0 rfl
  go_wp2_with fail
  refine (gbegin_any (hd : Int)).mono ?_
  rintro e w4 ⟨rfl, K'⟩
  clear H_3 H_z
  replace L := L.over K'
  go_upto_region 5 with (refine wpList_store_row rfl 40 (.tmp 8) (.tmp 37) rfl _ _ rfl (show _ = Value.agg (opv hd0 (gS0 (hd : Int))) from rfl) _ _ (Bk.new _ _ _) op_sz rfl (opv_one _ _) ?_)
  try rw [World.setRow_alloc_new]
  replace L := (L).alloc (opv hd0 (gS0 (hd : Int))) 40
  try simp only [World.size_alloc] at L
  try dsimp only [nput] at L
  generalize (w4).alloc (.cells (opv hd0 (gS0 (hd : Int))) 40) = w5 at L ⊢
  generalize w4.heap.size = gO at L ⊢
  go_wp2_with fail
  refine (rbegin_any (hd : Int)).mono ?_
  rintro e w6 ⟨rfl, K'⟩
  replace L := L.over K'
  go_upto_region 6 with (refine wpList_store_row rfl 40 (.tmp 9) (.tmp 39) rfl _ _ rfl (show _ = Value.agg (opv hd0 (gS0 (hd : Int))) from rfl) _ _ (Bk.new _ _ _) op_sz rfl (opv_one _ _) ?_)
  try rw [World.setRow_alloc_new]
  replace L := (L).alloc (opv hd0 (gS0 (hd : Int))) 40
  try simp only [World.size_alloc] at L
  try dsimp only [nput] at L
  generalize (w6).alloc (.cells (opv hd0 (gS0 (hd : Int))) 40) = w7 at L ⊢
  generalize w6.heap.size = gP at L ⊢
  go_wp2_with (refine wpList_load_row rfl 27 (.tmp 3) rfl gH rfl _ _ (0, 0) _ (L.bk_ 2 rfl) Tryz.underlying27 rfl cf_sz ?_)
  refine ((TW _ (h0.below L.K)).out).mono ?_
  rintro e w8 ⟨gU, dU, rfl, U, hgU, K'⟩
  have Lb := L.lts
  replace L := L.over K'
  replace L := L.us_av (fun i b e b' o e' => by injection e' with e'; injection e' with e1; have := Lb i b e; omega) U
  clear Lb
  try dsimp only [lF, List.cons_append, List.nil_append] at L
  clear U hgU
  go_wp2
  clear ehd1 ehd2 hns0 wX
  replace L := L.gf0
  replace L := L.gf0
  go_loopw [10, 11] (fun lv_ iv wr => ∃ (u : Nat) (h hr : Hd) (s : Sc) (sn : List Nat) (B2 : Option Addr) (d2 : Nat) (y2 : List Nat), u ≤ k ∧ lv_ = .slice B2 m d2 ∧ iv = .int .i64 (u : Nat) ∧ GI M ns zs u s sn ∧ Mf s ∧ YI M zs y2 ∧ Loc w wr [(gP, 40, opv hr s), (gO, 40, opv h s), (gH, 27, #[.int .u32 (a : Int), .int .i64 p, .slice A n c, .int .i64 (ns : Int), .int .i64 wo, .int .i64 qu, .int .i64 tr])] [gF h sn, gF hr sn, uF B2 m d2 y2]) (fun _ iv _ => k - (intOf iv).toNat)
  case atStart => exact ⟨0, hd0, hd0, gS0 (hd : Int), [], _, _, y0, Nat.zero_le _, rfl, rfl, gi_start (by omega) (by omega), mf_start, hY0.1, L⟩
  case round =>
    clear L
    obtain ⟨u, h, hr, s, sn, B2, d2, y2, hu, rfl, rfl, hG, hF, hY2, L⟩ := hrel
    by_cases hlt : u < k
    · obtain ⟨be, oe, hEe, hbe, hce⟩ := hE.get hlt
      obtain ⟨D, hD, hD2⟩ := wf_u32 (he.out (gi es u) (gi_mem (by have := hE.len; omega)))
      rw [hD] at hce
      subst hEe
      clear hD
      have hu2 : (u : Int) < (k : Int) := by omega
      go_upto_region 10 with (fail)
      replace L := L.drew
      refine wp_region_held_drew (S := fun w' => Loc w w' [(gP, 40, opv hr s), (gO, 40, opv h s), (gH, 27, #[.int .u32 (a : Int), .int .i64 p, .slice A n c, .int .i64 (ns : Int), .int .i64 wo, .int .i64 qu, .int .i64 tr])] [gF h sn, gF hr sn, uF B2 m d2 y2]) (by kernel_rfl) L (fun hHeld => ?_)
      generalize wr.drew = v9 at hHeld L ⊢
      refine wpAnyH_take (i := 0) (oi := ⟨some 48, _, _, _, _, _⟩) (v := .agg (#[.int .u32 (a : Int), .int .i64 p, .slice A n c, .int .i64 (ns : Int), .int .i64 wo, .int .i64 qu, .int .i64 tr])) rfl (by kernel_rfl) (by kernel_rfl) (by kernel_rfl) (fun _ _ _ h => h) (yieldsIf_load_row (by rfl) 27 (.tmp 3) rfl gH rfl 27 _ (0, 0) _ (fun _ hS => ((hS).bk_ 2 rfl)) Tryz.underlying27 rfl cf_sz) hHeld ?_
      try simp only [Act.put, sA, sZ, sS]
      refine wpAnyH_take (i := 1) (oi := ⟨some 49, _, _, _, _, _⟩) (v := ?_) rfl (by kernel_rfl) (by kernel_rfl) (by kernel_rfl) (fun _ _ _ h => h) (Or.inl ⟨by rfl, ?_⟩) hHeld ?_
      rotate_left
      · (intro ww hS; go_simp; try with_reducible rfl; try omega)
      try simp only [Act.put, sA, sZ, sS]
      refine wpAnyH_take (i := 2) (oi := ⟨some 50, _, _, _, _, _⟩) (v := .slice (some ⟨be, oe, none⟩) k q) rfl (by kernel_rfl) (by kernel_rfl) (by kernel_rfl) (fun _ _ _ h => h) (Or.inl ⟨by rfl, ?_⟩) hHeld ?_
      · (intro ww hS; go_simp; try with_reducible rfl; try omega)
      try simp only [Act.put, sA, sZ, sS]
      refine wpAnyH_take (i := 3) (oi := ⟨some 51, _, _, _, _, _⟩) (v := .int .i64 (u : Int)) rfl (by kernel_rfl) (by kernel_rfl) (by kernel_rfl) (fun _ _ _ h => h) (Or.inl ⟨by rfl, ?_⟩) hHeld ?_
      · (intro ww hS; go_simp; try with_reducible rfl; try omega)
      try simp only [Act.put, sA, sZ, sS]
      refine wpAnyH_take (i := 4) (oi := ⟨some 52, _, _, _, _, _⟩) (v := .pointer (some ⟨be, oe + u, none⟩)) rfl (by kernel_rfl) (by kernel_rfl) (by kernel_rfl) (fun _ _ _ h => h) (Or.inl ⟨by rfl, ?_⟩) hHeld ?_
      · (intro ww hS; go_simp; try with_reducible rfl; try omega)
      try simp only [Act.put, sA, sZ, sS]
      refine wpAnyH_take (i := 5) (oi := ⟨some 53, _, _, _, _, _⟩) (v := .int .u32 (D : Int)) rfl (by kernel_rfl) (by kernel_rfl) (by kernel_rfl) (fun _ _ _ h => h) (Or.inl ⟨by rfl, ?_⟩) hHeld ?_
      · intro ww hS
        try dsimp only at hS
        have XE := (((hS)).K.cell (p := ⟨be, oe + u, none⟩) hbe).trans hce
        go_simp
        try with_reducible rfl
        try omega
      try simp only [Act.put, sA, sZ, sS]
      refine wpAnyH_ready (rs := [6]) (by kernel_rfl) (by simp) ?_
      refine AllReadyH.cons (o := ⟨some 54, _, _, _, _, _⟩) rfl (fun K0 hK => ?_) AllReadyH.nil
      go_simp
      refine ((TD _ _ _ _ _ hD2 hY2 (h0.below L.K) (L.us_ 2 rfl)).out).mono ?_
      rintro e w10 ⟨B3, d3, y3, rfl, U, hDR, hA, K'⟩
      have Lb := L.lts
      replace L := L.over K'
      replace L := L.us_av (fun i b e => hA b.1 (Lb i b e) (L.ap_ 2 rfl hm6.2.1 i b e)) U
      clear Lb
      try dsimp only [lF, List.cons_append, List.nil_append] at L
      clear U hA
      refine hK.out _ _ (L.less 1) (fun hHeld' => ?_)
      clear hHeld hK K0
      have hHeld := hHeld'
      clear hHeld'
      clear K'
      try simp only [Act.put, sA, sZ, sS]
      refine wpAnyH_take (i := 7) (oi := ⟨some 10, _, _, _, _, _⟩) (v := .slice B3 m d3) rfl (by kernel_rfl) (by kernel_rfl) (by kernel_rfl) (fun _ _ _ h => h) (Or.inl ⟨by rfl, ?_⟩) hHeld ?_
      · (intro ww hS; go_simp; try with_reducible rfl; try omega)
      try simp only [Act.put, sA, sZ, sS]
      refine wpAnyH_done (by kernel_rfl) ?_ _
      clear hHeld
      have hY3 := (dist_leaf hMm hY2 hDR).1
      obtain ⟨hG3, hY4⟩ := gi_step (a := a) hMm hMp h1 hG hY3
      have hF3 := mf_step (a := a) h1 hMm hG hY3 hF
      have TK := fun w lo h B d U L => TS w lo h B d y3 s sn u (by omega) hG hY3 U L
      have TL := fun w lo h B d U L => TR w lo h B d y3 s sn u (by omega) hG hF hY3 U L
      obtain ⟨s3, hs3⟩ : ∃ s3, s3 = gS a M ns y3 s sn := ⟨_, rfl⟩
      obtain ⟨sn3, hn3⟩ : ∃ n3, n3 = gN M y3 s sn := ⟨_, rfl⟩
      obtain ⟨y4, hy4⟩ : ∃ y4, y4 = gC M y3 s := ⟨_, rfl⟩
      obtain ⟨b3, hb3⟩ : ∃ b3, b3 = gB M y3 s sn := ⟨_, rfl⟩
      simp only [← hs3, ← hn3, ← hy4, ← hb3] at TK TL hG3 hY4 hF3
      clear hs3 hn3 hy4 hb3 hG hF hY2 TS TR hDR
      have hfi := gi_fit hG3
      have hfe := gp_few hMm hG3
      replace hG3 := Lib.hid hG3
      replace hY4 := Lib.hid hY4
      replace hF3 := Lib.hid hF3
      replace hfi := Lib.hid hfi
      go_wp2_with (first | (refine wpList_load_row rfl 27 (.tmp 3) rfl gH rfl _ _ (0, 0) _ (L.bk_ 2 rfl) Tryz.underlying27 rfl cf_sz ?_) | (refine wpList_load_row rfl 40 (.tmp 8) rfl gO rfl _ _ (0, 0) _ (L.bk_ 1 rfl) Tryz.underlying40 rfl op_sz ?_))
      refine ((TK _ _ _ _ _ (L.us_ 0 rfl) (L.gf_ 1 rfl)).out).mono ?_
      rintro e w11 ⟨h4, B4, d4, rfl, U, L', hA, K'⟩
      have Lb := L.lts
      replace L := L.over K'
      replace L := L.us_av (fun i b e => hA b.1 (Lb i b e) (L.ap_ 0 rfl hm6.2.1 i b e)) U
      replace L := L.gf Lb L'
      clear Lb
      try dsimp only [lF, List.cons_append, List.nil_append] at L
      clear U L' hA
      go_upto_region 12 with (refine wpList_store_row rfl 40 (.tmp 13) (.tmp 61) rfl _ _ rfl (show _ = Value.agg (opv h4 s3) from rfl) _ _ (Bk.new _ _ _) op_sz rfl (opv_one _ _) ?_)
      try rw [World.setRow_alloc_new]
      replace L := (L).alloc (opv h4 s3) 40
      try simp only [World.size_alloc] at L
      try dsimp only [nput] at L
      generalize (w11).alloc (.cells (opv h4 s3) 40) = w12 at L ⊢
      generalize w11.heap.size = gQ at L ⊢
      go_wp2_with (first | (refine wpList_load_row rfl 27 (.tmp 3) rfl gH rfl _ _ (0, 0) _ (L.bk_ 3 rfl) Tryz.underlying27 rfl cf_sz ?_) | (refine wpList_load_row rfl 40 (.tmp 9) rfl gP rfl _ _ (0, 0) _ (L.bk_ 1 rfl) Tryz.underlying40 rfl op_sz ?_))
      refine ((TL _ _ _ _ _ (L.us_ 2 rfl) (L.gf_ 4 rfl)).out).mono ?_
      rintro e w13 ⟨h5, B5, d5, rfl, U, L', hA, hSA, K'⟩
      have Lb := L.lts
      replace L := L.over K'
      replace L := L.us_av (fun i b e => hA b.1 (Lb i b e) (L.ap_ 2 rfl hm6.2.1 i b e)) U
      replace L := L.gf_ap L' (fun i b e => fun hn b1 o1 e1 => hSA b.1 (Lb i b e) (fun hn0 => Loc.gf_av L 5 rfl hn0 i b e) hn b1 o1 e1)
      clear Lb
      try dsimp only [lF, List.cons_append, List.nil_append] at L
      clear U L' hA hSA
      go_upto_region 13 with (refine wpList_store_row rfl 40 (.tmp 16) (.tmp 69) rfl _ _ rfl (show _ = Value.agg (opv h5 s3) from rfl) _ _ (Bk.new _ _ _) op_sz rfl (opv_one _ _) ?_)
      try rw [World.setRow_alloc_new]
      replace L := (L).alloc (opv h5 s3) 40
      try simp only [World.size_alloc] at L
      try dsimp only [nput] at L
      generalize (w13).alloc (.cells (opv h5 s3) 40) = w14 at L ⊢
      generalize w13.heap.size = gR at L ⊢
      go_wp2_with fail
      refine (same_any (L.us_ 3 rfl) (L.us_ 1 rfl) hm6.1).mono ?_
      rintro e w15 ⟨rfl, K'⟩
      replace L := L.over K'
      go_wp2_with (first | (refine wpList_load_want (by rfl) 40 (.tmp 13) rfl gQ rfl _ _ (0, 0) _ (L.bk_ 1 rfl) Tryz.underlying40 rfl op_sz ?_) | (refine wpList_load_want (by rfl) 40 (.tmp 16) rfl gR rfl _ _ (0, 0) _ (L.bk_ 0 rfl) Tryz.underlying40 rfl op_sz ?_))
      refine (gsame_any (s := s3) (L.gf_ 2 rfl) (L.gf_ 0 rfl) hfi.out hfe).mono ?_
      rintro e w16 ⟨rfl, K'⟩
      replace L := L.over K'
      go_upto_region 17 with (first | (refine wpList_load_row rfl 40 (.tmp 13) rfl gQ rfl _ _ (0, 0) _ (L.bk_ 1 rfl) Tryz.underlying40 rfl op_sz ?_) | (refine wpList_store_row rfl 40 (.tmp 8) (.tmp 87) rfl gO _ rfl rfl _ _ (L.bk_ 3 rfl) op_sz rfl (opv_one _ _) ?_))
      replace L := (L.row 3 rfl (opv h4 s3))
      try dsimp only [nput] at L
      generalize (w16).setRow gO (opv h4 s3) = w17 at L ⊢
      go_upto_region 9 with (first | (refine wpList_load_row rfl 40 (.tmp 16) rfl gR rfl _ _ (0, 0) _ (L.bk_ 0 rfl) Tryz.underlying40 rfl op_sz ?_) | (refine wpList_store_row rfl 40 (.tmp 9) (.tmp 88) rfl gP _ rfl rfl _ _ (L.bk_ 2 rfl) op_sz rfl (opv_one _ _) ?_))
      replace L := (L.row 2 rfl (opv h5 s3))
      try dsimp only [nput] at L
      generalize (w17).setRow gP (opv h5 s3) = w18 at L ⊢
      go_wp2
      replace L := L.only (fs' := [gF h4 sn3, gF h5 sn3, uF B4 m d4 y4]) (by simp)
      replace L := L.del 1
      dsimp only [ndel] at L
      replace L := L.del 0
      dsimp only [ndel] at L
      go_roundw
      case rel => exact ⟨u + 1, h4, h5, s3, sn3, B4, d4, y4, by omega, rfl, by go_num, hG3.out, hF3.out, hY4.out, L⟩
      case measure => simp [intOf]; omega
    · have huk : u = k := by omega
      have hno : ¬ ((u : Int) < (k : Int)) := by omega
      clear hu hlt
      go_wp2
      go_ret
      exact ⟨rfl, L.K⟩
theorem main (ha : a < 4294967296) (h0 : IS .i64 lo w A n c zs) (hX : X < 256) (hE : IS .u32 lo2 w E k q es) (he : ∀ x ∈ es, (Lit.int .u32 x).wf = true) :
    Calls Tryz.prog 3 #[.agg #[.int .u32 (a : Int), .int .i64 p, .slice A n c, .int .i64 sh, .int .i64 wo, .int .i64 qu, .int .i64 tr], .int .u8 (X : Int), .slice E k q] w (RetBo true w) := by
  by_cases hk : k ≤ 200
  · exact near ha h0 hX hE he hk
  · exact far ha h0 hX hE he (by omega)
end
theorem walk (a p : Int) (A : Option Addr) (n c : Nat) (z : List Int) (sh wo qu tr : Int) (x : Int) (E : Option Addr) (k q : Nat) (ze : List Int) (w : World) (wa : (Lit.int .u32 a).wf = true) (wr : IsRow .i64 w A n c z) (wx : (Lit.int .u8 x).wf = true) (we : IsRow .u32 w E k q ze) :
    Calls Tryz.prog 3 #[.agg #[.int .u32 a, .int .i64 p, .slice A n c, .int .i64 sh, .int .i64 wo, .int .i64 qu, .int .i64 tr], .int .u8 x, .slice E k q] w fun e w' => e = .returned (.bool true) ∧ Below w.heap.size w w' := by
  obtain ⟨a, rfl, ha⟩ := wf_u32 wa
  obtain ⟨zs, h0, _⟩ := IS.of_row wr
  obtain ⟨X, rfl, hX⟩ := wf_u8 wx
  obtain ⟨es, hE, he⟩ := IS.of_row we
  exact main ha h0 hX hE he
end Go.Proofs.YtghecdccdmeooaaGreat.grantSteps

