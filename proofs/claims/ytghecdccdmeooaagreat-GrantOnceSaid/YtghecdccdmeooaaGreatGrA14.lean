/-
  What the functions that these laws call answer, and what follows of it; conditions: those that each theorem names. In this file: GrantStep, WordCellsNew.
-/
import Derived.Test.YtghecdccdmeooaaGreatGrA13
/-
  What grant.Step answers of a grant where it may be. Conditions: a block that may be, as many cells as there are.
-/
namespace Go.Proofs.YtghecdccdmeooaaGreat
set_option maxRecDepth 100000
set_option maxRecDepth 100000
open Go.RowKit
set_option linter.unusedVariables false
section
variable {w w1 : World} {lo a m d D M ns N : Nat} {p sh wo qu tr : Int} {A B : Option Addr} {n c : Nat} {zs : List Int} {sn ys : List Nat} {h : Hd} {s : Sc}
set_option maxRecDepth 100000 in
set_option maxHeartbeats 2000000 in
theorem gstep0 (ha : a < 4294967296) (hM : Much a p M) (h1 : 1 ≤ ns) (h2 : ns ≤ 64) (hN : N ≤ 60000) (hG : GI M ns zs N s sn) (hY : YI M zs ys) (hU : US w B m d ys) (hL : Lists lo w h (gl sn)) (hph : s.phase = 0) :
    Calls Tryz.prog 13 #[.agg #[.int .u32 (a : Int), .int .i64 p, .slice A n c, .int .i64 (ns : Int), .int .i64 wo, .int .i64 qu, .int .i64 tr], .slice B m d, .agg (opv h s)] w (RetG (gS a M ns ys s sn) (gl (gN M ys s sn)) m (gC M ys s) (gB M ys s sn) B w) := by
  obtain ⟨e1, e2, e3, e4⟩ := gp_done (a := a) (ys := ys) hG hph
  rw [e1, e2, e3, e4]
  have hE := fun lo2 w2 => gp_emp (lo' := lo2) (w' := w2) hG (by omega) hL
  obtain ⟨z0, z1, z2, z3⟩ := gl_len hL
  have z9 := gp_few hM.most hG
  clear e1 e2 e3 e4 hG hY ha hM
  have TOwn := fun w (L : Lists lo w h (gl sn)) => Lib.hid (own_any (s := s) L (by omega) (by omega) (by omega) (by omega))
  clear z0 z1 z2 z3 z9
  rcases s with ⟨kind, addr, err, aad, used, phase, shard, sought, leaf, bit, word, full, at_, tries, item, stamp⟩
  rcases h with ⟨A0, n0, c0, A1, n1, c1, A2, n2, c2, A3, n3, c3⟩
  try dsimp only at *
  subst hph
  go_enter Tryz.func13, Tryz.ntmps13
  go_upto_region 1 with (fail)
  have L := Loc.start w
  replace L := (((L).alloc #[.int .u32 (a : Int), .int .i64 p, .slice A n c, .int .i64 (ns : Int), .int .i64 wo, .int .i64 qu, .int .i64 tr] 27).alloc (opv ⟨A0, n0, c0, A1, n1, c1, A2, n2, c2, A3, n3, c3⟩ ⟨kind, addr, err, aad, used, 0, shard, sought, leaf, bit, word, full, at_, tries, item, stamp⟩) 40).alloc #[.int .i64 0, .int .u32 0, .slice none 0 0, .int .i64 0, .int .u32 0, .bool false, .slice none 0 0, .slice none 0 0, .int .i64 0, .int .i64 0, .int .i64 0, .int .i64 0, .int .i64 0, .int .u64 0, .bool false, .slice none 0 0, .int .i64 0, .int .i64 0, .int .i64 0, .int .i64 0] 40
  try simp only [World.size_alloc] at L
  replace L := L.is 0 (opv hd0 sc0) rfl
  try dsimp only [nput] at L
  generalize (((w).alloc (.cells #[.int .u32 (a : Int), .int .i64 p, .slice A n c, .int .i64 (ns : Int), .int .i64 wo, .int .i64 qu, .int .i64 tr] 27)).alloc (.cells (opv ⟨A0, n0, c0, A1, n1, c1, A2, n2, c2, A3, n3, c3⟩ ⟨kind, addr, err, aad, used, 0, shard, sought, leaf, bit, word, full, at_, tries, item, stamp⟩) 40)).alloc (.cells #[.int .i64 0, .int .u32 0, .slice none 0 0, .int .i64 0, .int .u32 0, .bool false, .slice none 0 0, .slice none 0 0, .int .i64 0, .int .i64 0, .int .i64 0, .int .i64 0, .int .i64 0, .int .u64 0, .bool false, .slice none 0 0, .int .i64 0, .int .i64 0, .int .i64 0, .int .i64 0] 40) = w1 at L ⊢
  generalize w.heap.size + 1 + 1 = gR at L ⊢
  generalize w.heap.size + 1 = gO at L ⊢
  generalize w.heap.size = gH at L ⊢
  replace L := L.drew
  refine wp_region_held_drew (S := fun w' => Loc w w' [(gR, 40, opv hd0 sc0), (gO, 40, opv ⟨A0, n0, c0, A1, n1, c1, A2, n2, c2, A3, n3, c3⟩ ⟨kind, addr, err, aad, used, 0, shard, sought, leaf, bit, word, full, at_, tries, item, stamp⟩), (gH, 27, #[.int .u32 (a : Int), .int .i64 p, .slice A n c, .int .i64 (ns : Int), .int .i64 wo, .int .i64 qu, .int .i64 tr])] []) (by kernel_rfl) L (fun hHeld => ?_)
  generalize w1.drew = v2 at hHeld L ⊢
  refine wpAnyH_take (i := 0) (oi := ⟨some 12, _, _, _, _, _⟩) (v := .agg (#[.int .u32 (a : Int), .int .i64 p, .slice A n c, .int .i64 (ns : Int), .int .i64 wo, .int .i64 qu, .int .i64 tr])) rfl (by kernel_rfl) (by kernel_rfl) (by kernel_rfl) (fun _ _ _ h => h) (yieldsIf_load_row (by rfl) 27 (.tmp 3) rfl gH rfl 27 _ (0, 0) _ (fun _ hS => ((hS).bk_ 2 rfl)) Tryz.underlying27 rfl cf_sz) hHeld ?_
  try simp only [Act.put, List.setIfInBounds_toArray, List.set_cons_zero, List.set_cons_succ]
  refine wpAnyH_take (i := 1) (oi := ⟨some 13, _, _, _, _, _⟩) (v := .slice B m d) rfl (by kernel_rfl) (by kernel_rfl) (by kernel_rfl) (fun _ _ _ h => h) (Or.inl ⟨by rfl, ?_⟩) hHeld ?_
  · intro ww hS
    try dsimp only at hS
    go_simp
    try with_reducible rfl
    try omega
  try simp only [Act.put, List.setIfInBounds_toArray, List.set_cons_zero, List.set_cons_succ]
  refine wpAnyH_take (i := 3) (oi := ⟨some 15, _, _, _, _, _⟩) (v := .pointer (some ⟨gO, 8, none⟩)) rfl (by kernel_rfl) (by kernel_rfl) (by kernel_rfl) (fun _ _ _ h => h) (Or.inl ⟨by rfl, ?_⟩) hHeld ?_
  · intro ww hS
    try dsimp only at hS
    go_simp
    try with_reducible rfl
    try omega
  try simp only [Act.put, List.setIfInBounds_toArray, List.set_cons_zero, List.set_cons_succ]
  refine wpAnyH_take (i := 4) (oi := ⟨some 16, _, _, _, _, _⟩) (v := .int .i64 0) rfl (by kernel_rfl) (by kernel_rfl) (by kernel_rfl) (fun _ _ _ h => h) (Or.inl ⟨by rfl, ?_⟩) hHeld ?_
  · intro ww hS
    try dsimp only at hS
    have O_8 := (hS).at_ 1 8 rfl (v := .int .i64 0) rfl
    have O_z := (hS).lt 1 rfl
    go_simp
    try with_reducible rfl
    try omega
  try simp only [Act.put, List.setIfInBounds_toArray, List.set_cons_zero, List.set_cons_succ]
  refine wpAnyH_ready (rs := [2]) (by kernel_rfl) (by simp) ?_
  refine AllReadyH.cons (o := ⟨some 14, _, _, _, _, _⟩) rfl (fun K0 hK => ?_) AllReadyH.nil
  go_simp
  refine (gph_any B m d _).mono ?_
  rintro e w3 ⟨gm, kC, kK, rfl, hF, hBC, hBK, ⟨hg1, hg2, hg3⟩, K'⟩
  have Lb := L.lts
  replace L := L.over K'
  replace L := L.cmap Lb hg1 hF
  replace L := L.bkf Lb hg2 hBC
  replace L := L.bkf Lb hg3 hBK
  clear Lb
  try dsimp only [lF, List.cons_append, List.nil_append] at L
  clear hF hBC hBK hg1 hg2 hg3
  refine hK.out _ _ (L.less 3) (fun hHeld' => ?_)
  clear hHeld hK K0
  have hHeld := hHeld'
  clear hHeld'
  clear K'
  try simp only [Act.put, List.setIfInBounds_toArray, List.set_cons_zero, List.set_cons_succ]
  refine wpAnyH_ready (rs := [5]) (by kernel_rfl) (by simp) ?_
  refine AllReadyH.cons (o := ⟨some 17, _, _, _, _, _⟩) rfl (fun K0 hK => ?_) AllReadyH.nil
  have hrun := CMap.none (L.get 2 rfl : CMap (gcap kC kK) _ gm gph_l) Tryz.underlying73 (gph_z _) (k := 0) (by decide) rfl
  go_simp
  refine hK.out _ _ hHeld (fun hHeld' => ?_)
  clear hHeld hK K0
  have hHeld := hHeld'
  clear hHeld'
  try simp only [Act.put, List.setIfInBounds_toArray, List.set_cons_zero, List.set_cons_succ]
  clear hrun
  refine wpAnyH_take (i := 6) (oi := ⟨some 11, _, _, _, _, _⟩) (v := ?_) rfl (by kernel_rfl) (by kernel_rfl) (by kernel_rfl) (fun _ _ _ h => h) (Or.inl ⟨by rfl, ?_⟩) hHeld ?_
  rotate_left
  · intro ww hS
    try dsimp only at hS
    go_simp
    try with_reducible rfl
    try omega
  try simp only [Act.put, List.setIfInBounds_toArray, List.set_cons_zero, List.set_cons_succ]
  refine wpAnyH_take (i := 7) (oi := ⟨some 18, _, _, _, _, _⟩) (v := .nilFunc) rfl (by kernel_rfl) (by kernel_rfl) (by kernel_rfl) (fun _ _ _ h => h) (Or.inl ⟨by rfl, ?_⟩) hHeld ?_
  · intro ww hS
    try dsimp only at hS
    go_simp
    try with_reducible rfl
    try omega
  try simp only [Act.put, List.setIfInBounds_toArray, List.set_cons_zero, List.set_cons_succ]
  refine wpAnyH_take (i := 8) (oi := ⟨some 19, _, _, _, _, _⟩) (v := .bool false) rfl (by kernel_rfl) (by kernel_rfl) (by kernel_rfl) (fun _ _ _ h => h) (Or.inl ⟨by rfl, ?_⟩) hHeld ?_
  · intro ww hS
    try dsimp only at hS
    go_simp
    try with_reducible rfl
    try omega
  try simp only [Act.put, List.setIfInBounds_toArray, List.set_cons_zero, List.set_cons_succ]
  refine wpAnyH_take (i := 9) (oi := ⟨some 9, _, _, _, _, _⟩) (v := .nilFunc) rfl (by kernel_rfl) (by kernel_rfl) (by kernel_rfl) (fun _ _ _ h => h) (Or.inl ⟨by rfl, ?_⟩) hHeld ?_
  · intro ww hS
    try dsimp only at hS
    go_simp
    try with_reducible rfl
    try omega
  try simp only [Act.put, List.setIfInBounds_toArray, List.set_cons_zero, List.set_cons_succ]
  refine wpAnyH_take (i := 10) (oi := ⟨some 10, _, _, _, _, _⟩) (v := .bool false) rfl (by kernel_rfl) (by kernel_rfl) (by kernel_rfl) (fun _ _ _ h => h) (Or.inl ⟨by rfl, ?_⟩) hHeld ?_
  · intro ww hS
    try dsimp only at hS
    go_simp
    try with_reducible rfl
    try omega
  try simp only [Act.put, List.setIfInBounds_toArray, List.set_cons_zero, List.set_cons_succ]
  refine wpAnyH_done (by kernel_rfl) ?_ _
  clear hHeld
  go_wp2_with (refine wpList_load_row rfl 40 (.tmp 5) rfl gO rfl _ _ (0, 0) _ (L.bk_ 1 rfl) Tryz.underlying40 rfl op_sz ?_)
  have KS := L.K.size
  refine ((TOwn _ (hL.below L.K)).out).mono ?_
  rintro e w4 ⟨A0', c0', A1', c1', A2', c2', A3', c3', rfl, L', K'⟩
  have Lb := L.lts
  replace L := L.over K'
  replace L := L.lists Lb L'
  clear Lb
  try dsimp only [lF, List.cons_append, List.nil_append] at L
  clear L'
  go_wp2_with (refine wpList_store_row rfl 40 (.tmp 7) (.tmp 24) rfl gR _ rfl rfl _ _ (L.bk_ 0 rfl) op_sz rfl (opv_one _ _) ?_)
  replace L := (L.row 0 rfl (opv ⟨A0', n0, c0', A1', n1, c1', A2', n2, c2', A3', n3, c3'⟩ ⟨kind, addr, err, aad, used, 0, shard, sought, leaf, bit, word, full, at_, tries, item, stamp⟩))
  try dsimp only [nput] at L
  generalize (w4).setRow gR (opv ⟨A0', n0, c0', A1', n1, c1', A2', n2, c2', A3', n3, c3'⟩ ⟨kind, addr, err, aad, used, 0, shard, sought, leaf, bit, word, full, at_, tries, item, stamp⟩) = w5 at L ⊢
  refine bodyPost_ret (v := .tuple #[.slice B m d, .agg (opv ⟨A0', n0, c0', A1', n1, c1', A2', n2, c2', A3', n3, c3'⟩ ⟨kind, addr, err, aad, used, 0, shard, sought, leaf, bit, word, full, at_, tries, item, stamp⟩), .bool false]) ?_ rfl ?_
  · exact results_tct (fn := Tryz.f13) Tryz.results13 _ _ gR _ _ (0, 0) _ rfl (L.bk_ 0 rfl) Tryz.underlying40 rfl op_sz
  exact ⟨_, _, _, rfl, hU.below L.K, (L.lists_at 0 rfl).lower_ KS, fun k _ h => h, L.K⟩
set_option maxRecDepth 100000 in
set_option maxHeartbeats 2000000 in
theorem gstep1 (ha : a < 4294967296) (hM : Much a p M) (h1 : 1 ≤ ns) (h2 : ns ≤ 64) (hN : N ≤ 60000) (hG : GI M ns zs N s sn) (hY : YI M zs ys) (hU : US w B m d ys) (hL : Lists lo w h (gl sn)) (hph : s.phase = 1) :
    Calls Tryz.prog 13 #[.agg #[.int .u32 (a : Int), .int .i64 p, .slice A n c, .int .i64 (ns : Int), .int .i64 wo, .int .i64 qu, .int .i64 tr], .slice B m d, .agg (opv h s)] w (RetG (gS a M ns ys s sn) (gl (gN M ys s sn)) m (gC M ys s) (gB M ys s sn) B w) := by
  have hm0 : 0 < m := by have := hU.len; have := hY.len; omega
  obtain ⟨s2, hs2⟩ : ∃ s2, s2 = gS a M ns ys s sn := ⟨_, rfl⟩
  obtain ⟨l2, hl2⟩ : ∃ l2, l2 = gl (gN M ys s sn) := ⟨_, rfl⟩
  obtain ⟨y2, hy2⟩ : ∃ y2, y2 = gC M ys s := ⟨_, rfl⟩
  obtain ⟨b2, hb2⟩ : ∃ b2, b2 = gB M ys s sn := ⟨_, rfl⟩
  have TK := fun w lo h kC kK (U : US w B m d ys) (L : Lists lo w h (gl sn)) hC hK => Lib.hid (gcl_seek (w := w) (lo := lo) (h := h) (s := s) (wo := wo) (qu := qu) (tr := tr) (A := A) (n := n) (c := c) (kC := kC) (kK := kK) ha hM h1 h2 hN hG hY U L hC hK hph)
  simp only [← hs2, ← hl2, ← hy2, ← hb2] at TK ⊢
  clear hG hY hs2 hl2 ha hM
  clear hy2 hb2
  rcases s with ⟨kind, addr, err, aad, used, phase, shard, sought, leaf, bit, word, full, at_, tries, item, stamp⟩
  rcases h with ⟨A0, n0, c0, A1, n1, c1, A2, n2, c2, A3, n3, c3⟩
  try dsimp only at *
  subst hph
  go_enter Tryz.func13, Tryz.ntmps13
  go_upto_region 1 with (fail)
  have L := Loc.start w
  replace L := (((L).alloc #[.int .u32 (a : Int), .int .i64 p, .slice A n c, .int .i64 (ns : Int), .int .i64 wo, .int .i64 qu, .int .i64 tr] 27).alloc (opv ⟨A0, n0, c0, A1, n1, c1, A2, n2, c2, A3, n3, c3⟩ ⟨kind, addr, err, aad, used, 1, shard, sought, leaf, bit, word, full, at_, tries, item, stamp⟩) 40).alloc #[.int .i64 0, .int .u32 0, .slice none 0 0, .int .i64 0, .int .u32 0, .bool false, .slice none 0 0, .slice none 0 0, .int .i64 0, .int .i64 0, .int .i64 0, .int .i64 0, .int .i64 0, .int .u64 0, .bool false, .slice none 0 0, .int .i64 0, .int .i64 0, .int .i64 0, .int .i64 0] 40
  try simp only [World.size_alloc] at L
  replace L := L.is 0 (opv hd0 sc0) rfl
  try dsimp only [nput] at L
  generalize (((w).alloc (.cells #[.int .u32 (a : Int), .int .i64 p, .slice A n c, .int .i64 (ns : Int), .int .i64 wo, .int .i64 qu, .int .i64 tr] 27)).alloc (.cells (opv ⟨A0, n0, c0, A1, n1, c1, A2, n2, c2, A3, n3, c3⟩ ⟨kind, addr, err, aad, used, 1, shard, sought, leaf, bit, word, full, at_, tries, item, stamp⟩) 40)).alloc (.cells #[.int .i64 0, .int .u32 0, .slice none 0 0, .int .i64 0, .int .u32 0, .bool false, .slice none 0 0, .slice none 0 0, .int .i64 0, .int .i64 0, .int .i64 0, .int .i64 0, .int .i64 0, .int .u64 0, .bool false, .slice none 0 0, .int .i64 0, .int .i64 0, .int .i64 0, .int .i64 0] 40) = w1 at L ⊢
  generalize w.heap.size + 1 + 1 = gR at L ⊢
  generalize w.heap.size + 1 = gO at L ⊢
  generalize w.heap.size = gH at L ⊢
  replace L := L.drew
  refine wp_region_held_drew (S := fun w' => Loc w w' [(gR, 40, opv hd0 sc0), (gO, 40, opv ⟨A0, n0, c0, A1, n1, c1, A2, n2, c2, A3, n3, c3⟩ ⟨kind, addr, err, aad, used, 1, shard, sought, leaf, bit, word, full, at_, tries, item, stamp⟩), (gH, 27, #[.int .u32 (a : Int), .int .i64 p, .slice A n c, .int .i64 (ns : Int), .int .i64 wo, .int .i64 qu, .int .i64 tr])] []) (by kernel_rfl) L (fun hHeld => ?_)
  generalize w1.drew = v2 at hHeld L ⊢
  refine wpAnyH_take (i := 0) (oi := ⟨some 12, _, _, _, _, _⟩) (v := .agg (#[.int .u32 (a : Int), .int .i64 p, .slice A n c, .int .i64 (ns : Int), .int .i64 wo, .int .i64 qu, .int .i64 tr])) rfl (by kernel_rfl) (by kernel_rfl) (by kernel_rfl) (fun _ _ _ h => h) (yieldsIf_load_row (by rfl) 27 (.tmp 3) rfl gH rfl 27 _ (0, 0) _ (fun _ hS => ((hS).bk_ 2 rfl)) Tryz.underlying27 rfl cf_sz) hHeld ?_
  try simp only [Act.put, List.setIfInBounds_toArray, List.set_cons_zero, List.set_cons_succ]
  refine wpAnyH_take (i := 1) (oi := ⟨some 13, _, _, _, _, _⟩) (v := .slice B m d) rfl (by kernel_rfl) (by kernel_rfl) (by kernel_rfl) (fun _ _ _ h => h) (Or.inl ⟨by rfl, ?_⟩) hHeld ?_
  · intro ww hS
    try dsimp only at hS
    go_simp
    try with_reducible rfl
    try omega
  try simp only [Act.put, List.setIfInBounds_toArray, List.set_cons_zero, List.set_cons_succ]
  refine wpAnyH_take (i := 3) (oi := ⟨some 15, _, _, _, _, _⟩) (v := .pointer (some ⟨gO, 8, none⟩)) rfl (by kernel_rfl) (by kernel_rfl) (by kernel_rfl) (fun _ _ _ h => h) (Or.inl ⟨by rfl, ?_⟩) hHeld ?_
  · intro ww hS
    try dsimp only at hS
    go_simp
    try with_reducible rfl
    try omega
  try simp only [Act.put, List.setIfInBounds_toArray, List.set_cons_zero, List.set_cons_succ]
  refine wpAnyH_take (i := 4) (oi := ⟨some 16, _, _, _, _, _⟩) (v := .int .i64 1) rfl (by kernel_rfl) (by kernel_rfl) (by kernel_rfl) (fun _ _ _ h => h) (Or.inl ⟨by rfl, ?_⟩) hHeld ?_
  · intro ww hS
    try dsimp only at hS
    have O_8 := (hS).at_ 1 8 rfl (v := .int .i64 1) rfl
    have O_z := (hS).lt 1 rfl
    go_simp
    try with_reducible rfl
    try omega
  try simp only [Act.put, List.setIfInBounds_toArray, List.set_cons_zero, List.set_cons_succ]
  refine wpAnyH_ready (rs := [2]) (by kernel_rfl) (by simp) ?_
  refine AllReadyH.cons (o := ⟨some 14, _, _, _, _, _⟩) rfl (fun K0 hK => ?_) AllReadyH.nil
  go_simp
  refine (gph_any B m d _).mono ?_
  rintro e w3 ⟨gm, kC, kK, rfl, hF, hBC, hBK, ⟨hg1, hg2, hg3⟩, K'⟩
  have Lb := L.lts
  replace L := L.over K'
  replace L := L.cmap Lb hg1 hF
  replace L := L.bkf Lb hg2 hBC
  replace L := L.bkf Lb hg3 hBK
  clear Lb
  try dsimp only [lF, List.cons_append, List.nil_append] at L
  clear hF hBC hBK hg1 hg2 hg3
  refine hK.out _ _ (L.less 3) (fun hHeld' => ?_)
  clear hHeld hK K0
  have hHeld := hHeld'
  clear hHeld'
  clear K'
  try simp only [Act.put, List.setIfInBounds_toArray, List.set_cons_zero, List.set_cons_succ]
  refine wpAnyH_ready (rs := [5]) (by kernel_rfl) (by simp) ?_
  refine AllReadyH.cons (o := ⟨some 17, _, _, _, _, _⟩) rfl (fun K0 hK => ?_) AllReadyH.nil
  have hrun := CMap.look (L.get 2 rfl : CMap (gcap kC kK) _ gm gph_l) Tryz.underlying73 (gph_z _) (k := 1) (by decide) (f := 66) rfl
  simp only [cloV, show gcap kC kK 66 = (kK, kC) from rfl] at hrun
  go_simp
  refine hK.out _ _ hHeld (fun hHeld' => ?_)
  clear hHeld hK K0
  have hHeld := hHeld'
  clear hHeld'
  try simp only [Act.put, List.setIfInBounds_toArray, List.set_cons_zero, List.set_cons_succ]
  clear hrun
  refine wpAnyH_take (i := 6) (oi := ⟨some 11, _, _, _, _, _⟩) (v := ?_) rfl (by kernel_rfl) (by kernel_rfl) (by kernel_rfl) (fun _ _ _ h => h) (Or.inl ⟨by rfl, ?_⟩) hHeld ?_
  rotate_left
  · intro ww hS
    try dsimp only at hS
    go_simp
    try with_reducible rfl
    try omega
  try simp only [Act.put, List.setIfInBounds_toArray, List.set_cons_zero, List.set_cons_succ]
  refine wpAnyH_take (i := 7) (oi := ⟨some 18, _, _, _, _, _⟩) (v := .func (.func 66) #[] #[.pointer (some ⟨kK, 0, none⟩), .pointer (some ⟨kC, 0, none⟩)]) rfl (by kernel_rfl) (by kernel_rfl) (by kernel_rfl) (fun _ _ _ h => h) (Or.inl ⟨by rfl, ?_⟩) hHeld ?_
  · intro ww hS
    try dsimp only at hS
    go_simp
    try with_reducible rfl
    try omega
  try simp only [Act.put, List.setIfInBounds_toArray, List.set_cons_zero, List.set_cons_succ]
  refine wpAnyH_take (i := 8) (oi := ⟨some 19, _, _, _, _, _⟩) (v := .bool true) rfl (by kernel_rfl) (by kernel_rfl) (by kernel_rfl) (fun _ _ _ h => h) (Or.inl ⟨by rfl, ?_⟩) hHeld ?_
  · intro ww hS
    try dsimp only at hS
    go_simp
    try with_reducible rfl
    try omega
  try simp only [Act.put, List.setIfInBounds_toArray, List.set_cons_zero, List.set_cons_succ]
  refine wpAnyH_take (i := 9) (oi := ⟨some 9, _, _, _, _, _⟩) (v := .func (.func 66) #[] #[.pointer (some ⟨kK, 0, none⟩), .pointer (some ⟨kC, 0, none⟩)]) rfl (by kernel_rfl) (by kernel_rfl) (by kernel_rfl) (fun _ _ _ h => h) (Or.inl ⟨by rfl, ?_⟩) hHeld ?_
  · intro ww hS
    try dsimp only at hS
    go_simp
    try with_reducible rfl
    try omega
  try simp only [Act.put, List.setIfInBounds_toArray, List.set_cons_zero, List.set_cons_succ]
  refine wpAnyH_take (i := 10) (oi := ⟨some 10, _, _, _, _, _⟩) (v := .bool true) rfl (by kernel_rfl) (by kernel_rfl) (by kernel_rfl) (fun _ _ _ h => h) (Or.inl ⟨by rfl, ?_⟩) hHeld ?_
  · intro ww hS
    try dsimp only at hS
    go_simp
    try with_reducible rfl
    try omega
  try simp only [Act.put, List.setIfInBounds_toArray, List.set_cons_zero, List.set_cons_succ]
  refine wpAnyH_done (by kernel_rfl) ?_ _
  clear hHeld
  go_wp2_with (refine wpList_load_row rfl 40 (.tmp 5) rfl gO rfl _ _ (0, 0) _ (L.bk_ 1 rfl) Tryz.underlying40 rfl op_sz ?_)
  have KS := L.K.size
  refine ((TK _ _ _ _ _ (hU.below L.K) (hL.below L.K) (L.get 1 rfl) (L.get 0 rfl)).out).mono ?_
  rintro e w4 ⟨h3, B2, d2, rfl, U, L', hA, K'⟩
  have Lb := L.lts
  replace L := L.over K'
  replace L := L.us_av (fun i b e => hA b.1 (Lb i b e) (hU.apart0 hm0 L i b e)) U
  replace L := L.lists Lb L'
  clear Lb
  try dsimp only [lF, List.cons_append, List.nil_append] at L
  clear U L'
  go_wp2_with (refine wpList_store_row rfl 40 (.tmp 7) (.tmp 29) rfl gR _ rfl rfl _ _ (L.bk_ 0 rfl) op_sz rfl (opv_one _ _) ?_)
  replace L := (L.row 0 rfl (opv h3 s2))
  try dsimp only [nput] at L
  generalize (w4).setRow gR (opv h3 s2) = w5 at L ⊢
  refine bodyPost_ret (v := .tuple #[.slice B2 m d2, .agg (opv h3 s2), .bool b2]) ?_ rfl ?_
  · exact results_tct (fn := Tryz.f13) Tryz.results13 _ _ gR _ _ (0, 0) _ rfl (L.bk_ 0 rfl) Tryz.underlying40 rfl op_sz
  exact ⟨_, _, _, rfl, L.us_ 4 rfl, (L.lists_at 0 rfl).lower_ KS, fun k hk => hA k (Nat.lt_of_lt_of_le hk KS), L.K⟩
set_option maxRecDepth 100000 in
set_option maxHeartbeats 2000000 in
theorem gstep2 (ha : a < 4294967296) (hM : Much a p M) (h1 : 1 ≤ ns) (h2 : ns ≤ 64) (hN : N ≤ 60000) (hG : GI M ns zs N s sn) (hY : YI M zs ys) (hU : US w B m d ys) (hL : Lists lo w h (gl sn)) (hph : s.phase = 2) :
    Calls Tryz.prog 13 #[.agg #[.int .u32 (a : Int), .int .i64 p, .slice A n c, .int .i64 (ns : Int), .int .i64 wo, .int .i64 qu, .int .i64 tr], .slice B m d, .agg (opv h s)] w (RetG (gS a M ns ys s sn) (gl (gN M ys s sn)) m (gC M ys s) (gB M ys s sn) B w) := by
  have hm0 : 0 < m := by have := hU.len; have := hY.len; omega
  obtain ⟨s2, hs2⟩ : ∃ s2, s2 = gS a M ns ys s sn := ⟨_, rfl⟩
  obtain ⟨l2, hl2⟩ : ∃ l2, l2 = gl (gN M ys s sn) := ⟨_, rfl⟩
  obtain ⟨y2, hy2⟩ : ∃ y2, y2 = gC M ys s := ⟨_, rfl⟩
  obtain ⟨b2, hb2⟩ : ∃ b2, b2 = gB M ys s sn := ⟨_, rfl⟩
  have TK := fun w lo h kC kK (U : US w B m d ys) (L : Lists lo w h (gl sn)) hC hK => Lib.hid (gcl_claim (w := w) (lo := lo) (h := h) (s := s) (wo := wo) (qu := qu) (tr := tr) (A := A) (n := n) (c := c) (kC := kC) (kK := kK) ha hM h1 h2 hN hG hY U L hC hK (.inl hph))
  simp only [← hs2, ← hl2, ← hy2, ← hb2] at TK ⊢
  clear hG hY hs2 hl2 ha hM
  clear hy2 hb2
  rcases s with ⟨kind, addr, err, aad, used, phase, shard, sought, leaf, bit, word, full, at_, tries, item, stamp⟩
  rcases h with ⟨A0, n0, c0, A1, n1, c1, A2, n2, c2, A3, n3, c3⟩
  try dsimp only at *
  subst hph
  go_enter Tryz.func13, Tryz.ntmps13
  go_upto_region 1 with (fail)
  have L := Loc.start w
  replace L := (((L).alloc #[.int .u32 (a : Int), .int .i64 p, .slice A n c, .int .i64 (ns : Int), .int .i64 wo, .int .i64 qu, .int .i64 tr] 27).alloc (opv ⟨A0, n0, c0, A1, n1, c1, A2, n2, c2, A3, n3, c3⟩ ⟨kind, addr, err, aad, used, 2, shard, sought, leaf, bit, word, full, at_, tries, item, stamp⟩) 40).alloc #[.int .i64 0, .int .u32 0, .slice none 0 0, .int .i64 0, .int .u32 0, .bool false, .slice none 0 0, .slice none 0 0, .int .i64 0, .int .i64 0, .int .i64 0, .int .i64 0, .int .i64 0, .int .u64 0, .bool false, .slice none 0 0, .int .i64 0, .int .i64 0, .int .i64 0, .int .i64 0] 40
  try simp only [World.size_alloc] at L
  replace L := L.is 0 (opv hd0 sc0) rfl
  try dsimp only [nput] at L
  generalize (((w).alloc (.cells #[.int .u32 (a : Int), .int .i64 p, .slice A n c, .int .i64 (ns : Int), .int .i64 wo, .int .i64 qu, .int .i64 tr] 27)).alloc (.cells (opv ⟨A0, n0, c0, A1, n1, c1, A2, n2, c2, A3, n3, c3⟩ ⟨kind, addr, err, aad, used, 2, shard, sought, leaf, bit, word, full, at_, tries, item, stamp⟩) 40)).alloc (.cells #[.int .i64 0, .int .u32 0, .slice none 0 0, .int .i64 0, .int .u32 0, .bool false, .slice none 0 0, .slice none 0 0, .int .i64 0, .int .i64 0, .int .i64 0, .int .i64 0, .int .i64 0, .int .u64 0, .bool false, .slice none 0 0, .int .i64 0, .int .i64 0, .int .i64 0, .int .i64 0] 40) = w1 at L ⊢
  generalize w.heap.size + 1 + 1 = gR at L ⊢
  generalize w.heap.size + 1 = gO at L ⊢
  generalize w.heap.size = gH at L ⊢
  replace L := L.drew
  refine wp_region_held_drew (S := fun w' => Loc w w' [(gR, 40, opv hd0 sc0), (gO, 40, opv ⟨A0, n0, c0, A1, n1, c1, A2, n2, c2, A3, n3, c3⟩ ⟨kind, addr, err, aad, used, 2, shard, sought, leaf, bit, word, full, at_, tries, item, stamp⟩), (gH, 27, #[.int .u32 (a : Int), .int .i64 p, .slice A n c, .int .i64 (ns : Int), .int .i64 wo, .int .i64 qu, .int .i64 tr])] []) (by kernel_rfl) L (fun hHeld => ?_)
  generalize w1.drew = v2 at hHeld L ⊢
  refine wpAnyH_take (i := 0) (oi := ⟨some 12, _, _, _, _, _⟩) (v := .agg (#[.int .u32 (a : Int), .int .i64 p, .slice A n c, .int .i64 (ns : Int), .int .i64 wo, .int .i64 qu, .int .i64 tr])) rfl (by kernel_rfl) (by kernel_rfl) (by kernel_rfl) (fun _ _ _ h => h) (yieldsIf_load_row (by rfl) 27 (.tmp 3) rfl gH rfl 27 _ (0, 0) _ (fun _ hS => ((hS).bk_ 2 rfl)) Tryz.underlying27 rfl cf_sz) hHeld ?_
  try simp only [Act.put, List.setIfInBounds_toArray, List.set_cons_zero, List.set_cons_succ]
  refine wpAnyH_take (i := 1) (oi := ⟨some 13, _, _, _, _, _⟩) (v := .slice B m d) rfl (by kernel_rfl) (by kernel_rfl) (by kernel_rfl) (fun _ _ _ h => h) (Or.inl ⟨by rfl, ?_⟩) hHeld ?_
  · intro ww hS
    try dsimp only at hS
    go_simp
    try with_reducible rfl
    try omega
  try simp only [Act.put, List.setIfInBounds_toArray, List.set_cons_zero, List.set_cons_succ]
  refine wpAnyH_take (i := 3) (oi := ⟨some 15, _, _, _, _, _⟩) (v := .pointer (some ⟨gO, 8, none⟩)) rfl (by kernel_rfl) (by kernel_rfl) (by kernel_rfl) (fun _ _ _ h => h) (Or.inl ⟨by rfl, ?_⟩) hHeld ?_
  · intro ww hS
    try dsimp only at hS
    go_simp
    try with_reducible rfl
    try omega
  try simp only [Act.put, List.setIfInBounds_toArray, List.set_cons_zero, List.set_cons_succ]
  refine wpAnyH_take (i := 4) (oi := ⟨some 16, _, _, _, _, _⟩) (v := .int .i64 2) rfl (by kernel_rfl) (by kernel_rfl) (by kernel_rfl) (fun _ _ _ h => h) (Or.inl ⟨by rfl, ?_⟩) hHeld ?_
  · intro ww hS
    try dsimp only at hS
    have O_8 := (hS).at_ 1 8 rfl (v := .int .i64 2) rfl
    have O_z := (hS).lt 1 rfl
    go_simp
    try with_reducible rfl
    try omega
  try simp only [Act.put, List.setIfInBounds_toArray, List.set_cons_zero, List.set_cons_succ]
  refine wpAnyH_ready (rs := [2]) (by kernel_rfl) (by simp) ?_
  refine AllReadyH.cons (o := ⟨some 14, _, _, _, _, _⟩) rfl (fun K0 hK => ?_) AllReadyH.nil
  go_simp
  refine (gph_any B m d _).mono ?_
  rintro e w3 ⟨gm, kC, kK, rfl, hF, hBC, hBK, ⟨hg1, hg2, hg3⟩, K'⟩
  have Lb := L.lts
  replace L := L.over K'
  replace L := L.cmap Lb hg1 hF
  replace L := L.bkf Lb hg2 hBC
  replace L := L.bkf Lb hg3 hBK
  clear Lb
  try dsimp only [lF, List.cons_append, List.nil_append] at L
  clear hF hBC hBK hg1 hg2 hg3
  refine hK.out _ _ (L.less 3) (fun hHeld' => ?_)
  clear hHeld hK K0
  have hHeld := hHeld'
  clear hHeld'
  clear K'
  try simp only [Act.put, List.setIfInBounds_toArray, List.set_cons_zero, List.set_cons_succ]
  refine wpAnyH_ready (rs := [5]) (by kernel_rfl) (by simp) ?_
  refine AllReadyH.cons (o := ⟨some 17, _, _, _, _, _⟩) rfl (fun K0 hK => ?_) AllReadyH.nil
  have hrun := CMap.look (L.get 2 rfl : CMap (gcap kC kK) _ gm gph_l) Tryz.underlying73 (gph_z _) (k := 2) (by decide) (f := 68) rfl
  simp only [cloV, show gcap kC kK 68 = (kC, kK) from rfl] at hrun
  go_simp
  refine hK.out _ _ hHeld (fun hHeld' => ?_)
  clear hHeld hK K0
  have hHeld := hHeld'
  clear hHeld'
  try simp only [Act.put, List.setIfInBounds_toArray, List.set_cons_zero, List.set_cons_succ]
  clear hrun
  refine wpAnyH_take (i := 6) (oi := ⟨some 11, _, _, _, _, _⟩) (v := ?_) rfl (by kernel_rfl) (by kernel_rfl) (by kernel_rfl) (fun _ _ _ h => h) (Or.inl ⟨by rfl, ?_⟩) hHeld ?_
  rotate_left
  · intro ww hS
    try dsimp only at hS
    go_simp
    try with_reducible rfl
    try omega
  try simp only [Act.put, List.setIfInBounds_toArray, List.set_cons_zero, List.set_cons_succ]
  refine wpAnyH_take (i := 7) (oi := ⟨some 18, _, _, _, _, _⟩) (v := .func (.func 68) #[] #[.pointer (some ⟨kC, 0, none⟩), .pointer (some ⟨kK, 0, none⟩)]) rfl (by kernel_rfl) (by kernel_rfl) (by kernel_rfl) (fun _ _ _ h => h) (Or.inl ⟨by rfl, ?_⟩) hHeld ?_
  · intro ww hS
    try dsimp only at hS
    go_simp
    try with_reducible rfl
    try omega
  try simp only [Act.put, List.setIfInBounds_toArray, List.set_cons_zero, List.set_cons_succ]
  refine wpAnyH_take (i := 8) (oi := ⟨some 19, _, _, _, _, _⟩) (v := .bool true) rfl (by kernel_rfl) (by kernel_rfl) (by kernel_rfl) (fun _ _ _ h => h) (Or.inl ⟨by rfl, ?_⟩) hHeld ?_
  · intro ww hS
    try dsimp only at hS
    go_simp
    try with_reducible rfl
    try omega
  try simp only [Act.put, List.setIfInBounds_toArray, List.set_cons_zero, List.set_cons_succ]
  refine wpAnyH_take (i := 9) (oi := ⟨some 9, _, _, _, _, _⟩) (v := .func (.func 68) #[] #[.pointer (some ⟨kC, 0, none⟩), .pointer (some ⟨kK, 0, none⟩)]) rfl (by kernel_rfl) (by kernel_rfl) (by kernel_rfl) (fun _ _ _ h => h) (Or.inl ⟨by rfl, ?_⟩) hHeld ?_
  · intro ww hS
    try dsimp only at hS
    go_simp
    try with_reducible rfl
    try omega
  try simp only [Act.put, List.setIfInBounds_toArray, List.set_cons_zero, List.set_cons_succ]
  refine wpAnyH_take (i := 10) (oi := ⟨some 10, _, _, _, _, _⟩) (v := .bool true) rfl (by kernel_rfl) (by kernel_rfl) (by kernel_rfl) (fun _ _ _ h => h) (Or.inl ⟨by rfl, ?_⟩) hHeld ?_
  · intro ww hS
    try dsimp only at hS
    go_simp
    try with_reducible rfl
    try omega
  try simp only [Act.put, List.setIfInBounds_toArray, List.set_cons_zero, List.set_cons_succ]
  refine wpAnyH_done (by kernel_rfl) ?_ _
  clear hHeld
  go_wp2_with (refine wpList_load_row rfl 40 (.tmp 5) rfl gO rfl _ _ (0, 0) _ (L.bk_ 1 rfl) Tryz.underlying40 rfl op_sz ?_)
  have KS := L.K.size
  refine ((TK _ _ _ _ _ (hU.below L.K) (hL.below L.K) (L.get 1 rfl) (L.get 0 rfl)).out).mono ?_
  rintro e w4 ⟨h3, B2, d2, rfl, U, L', hA, K'⟩
  have Lb := L.lts
  replace L := L.over K'
  replace L := L.us_av (fun i b e => hA b.1 (Lb i b e) (hU.apart0 hm0 L i b e)) U
  replace L := L.lists Lb L'
  clear Lb
  try dsimp only [lF, List.cons_append, List.nil_append] at L
  clear U L'
  go_wp2_with (refine wpList_store_row rfl 40 (.tmp 7) (.tmp 29) rfl gR _ rfl rfl _ _ (L.bk_ 0 rfl) op_sz rfl (opv_one _ _) ?_)
  replace L := (L.row 0 rfl (opv h3 s2))
  try dsimp only [nput] at L
  generalize (w4).setRow gR (opv h3 s2) = w5 at L ⊢
  refine bodyPost_ret (v := .tuple #[.slice B2 m d2, .agg (opv h3 s2), .bool b2]) ?_ rfl ?_
  · exact results_tct (fn := Tryz.f13) Tryz.results13 _ _ gR _ _ (0, 0) _ rfl (L.bk_ 0 rfl) Tryz.underlying40 rfl op_sz
  exact ⟨_, _, _, rfl, L.us_ 4 rfl, (L.lists_at 0 rfl).lower_ KS, fun k hk => hA k (Nat.lt_of_lt_of_le hk KS), L.K⟩
set_option maxRecDepth 100000 in
set_option maxHeartbeats 2000000 in
theorem gstep3 (ha : a < 4294967296) (hM : Much a p M) (h1 : 1 ≤ ns) (h2 : ns ≤ 64) (hN : N ≤ 60000) (hG : GI M ns zs N s sn) (hY : YI M zs ys) (hU : US w B m d ys) (hL : Lists lo w h (gl sn)) (hph : s.phase = 3) :
    Calls Tryz.prog 13 #[.agg #[.int .u32 (a : Int), .int .i64 p, .slice A n c, .int .i64 (ns : Int), .int .i64 wo, .int .i64 qu, .int .i64 tr], .slice B m d, .agg (opv h s)] w (RetG (gS a M ns ys s sn) (gl (gN M ys s sn)) m (gC M ys s) (gB M ys s sn) B w) := by
  have hm0 : 0 < m := by have := hU.len; have := hY.len; omega
  obtain ⟨s2, hs2⟩ : ∃ s2, s2 = gS a M ns ys s sn := ⟨_, rfl⟩
  obtain ⟨l2, hl2⟩ : ∃ l2, l2 = gl (gN M ys s sn) := ⟨_, rfl⟩
  obtain ⟨y2, hy2⟩ : ∃ y2, y2 = gC M ys s := ⟨_, rfl⟩
  obtain ⟨b2, hb2⟩ : ∃ b2, b2 = gB M ys s sn := ⟨_, rfl⟩
  have TK := fun w lo h kC kK (U : US w B m d ys) (L : Lists lo w h (gl sn)) hC hK => Lib.hid (gcl_claim (w := w) (lo := lo) (h := h) (s := s) (wo := wo) (qu := qu) (tr := tr) (A := A) (n := n) (c := c) (kC := kC) (kK := kK) ha hM h1 h2 hN hG hY U L hC hK (.inr hph))
  simp only [← hs2, ← hl2, ← hy2, ← hb2] at TK ⊢
  clear hG hY hs2 hl2 ha hM
  clear hy2 hb2
  rcases s with ⟨kind, addr, err, aad, used, phase, shard, sought, leaf, bit, word, full, at_, tries, item, stamp⟩
  rcases h with ⟨A0, n0, c0, A1, n1, c1, A2, n2, c2, A3, n3, c3⟩
  try dsimp only at *
  subst hph
  go_enter Tryz.func13, Tryz.ntmps13
  go_upto_region 1 with (fail)
  have L := Loc.start w
  replace L := (((L).alloc #[.int .u32 (a : Int), .int .i64 p, .slice A n c, .int .i64 (ns : Int), .int .i64 wo, .int .i64 qu, .int .i64 tr] 27).alloc (opv ⟨A0, n0, c0, A1, n1, c1, A2, n2, c2, A3, n3, c3⟩ ⟨kind, addr, err, aad, used, 3, shard, sought, leaf, bit, word, full, at_, tries, item, stamp⟩) 40).alloc #[.int .i64 0, .int .u32 0, .slice none 0 0, .int .i64 0, .int .u32 0, .bool false, .slice none 0 0, .slice none 0 0, .int .i64 0, .int .i64 0, .int .i64 0, .int .i64 0, .int .i64 0, .int .u64 0, .bool false, .slice none 0 0, .int .i64 0, .int .i64 0, .int .i64 0, .int .i64 0] 40
  try simp only [World.size_alloc] at L
  replace L := L.is 0 (opv hd0 sc0) rfl
  try dsimp only [nput] at L
  generalize (((w).alloc (.cells #[.int .u32 (a : Int), .int .i64 p, .slice A n c, .int .i64 (ns : Int), .int .i64 wo, .int .i64 qu, .int .i64 tr] 27)).alloc (.cells (opv ⟨A0, n0, c0, A1, n1, c1, A2, n2, c2, A3, n3, c3⟩ ⟨kind, addr, err, aad, used, 3, shard, sought, leaf, bit, word, full, at_, tries, item, stamp⟩) 40)).alloc (.cells #[.int .i64 0, .int .u32 0, .slice none 0 0, .int .i64 0, .int .u32 0, .bool false, .slice none 0 0, .slice none 0 0, .int .i64 0, .int .i64 0, .int .i64 0, .int .i64 0, .int .i64 0, .int .u64 0, .bool false, .slice none 0 0, .int .i64 0, .int .i64 0, .int .i64 0, .int .i64 0] 40) = w1 at L ⊢
  generalize w.heap.size + 1 + 1 = gR at L ⊢
  generalize w.heap.size + 1 = gO at L ⊢
  generalize w.heap.size = gH at L ⊢
  replace L := L.drew
  refine wp_region_held_drew (S := fun w' => Loc w w' [(gR, 40, opv hd0 sc0), (gO, 40, opv ⟨A0, n0, c0, A1, n1, c1, A2, n2, c2, A3, n3, c3⟩ ⟨kind, addr, err, aad, used, 3, shard, sought, leaf, bit, word, full, at_, tries, item, stamp⟩), (gH, 27, #[.int .u32 (a : Int), .int .i64 p, .slice A n c, .int .i64 (ns : Int), .int .i64 wo, .int .i64 qu, .int .i64 tr])] []) (by kernel_rfl) L (fun hHeld => ?_)
  generalize w1.drew = v2 at hHeld L ⊢
  refine wpAnyH_take (i := 0) (oi := ⟨some 12, _, _, _, _, _⟩) (v := .agg (#[.int .u32 (a : Int), .int .i64 p, .slice A n c, .int .i64 (ns : Int), .int .i64 wo, .int .i64 qu, .int .i64 tr])) rfl (by kernel_rfl) (by kernel_rfl) (by kernel_rfl) (fun _ _ _ h => h) (yieldsIf_load_row (by rfl) 27 (.tmp 3) rfl gH rfl 27 _ (0, 0) _ (fun _ hS => ((hS).bk_ 2 rfl)) Tryz.underlying27 rfl cf_sz) hHeld ?_
  try simp only [Act.put, List.setIfInBounds_toArray, List.set_cons_zero, List.set_cons_succ]
  refine wpAnyH_take (i := 1) (oi := ⟨some 13, _, _, _, _, _⟩) (v := .slice B m d) rfl (by kernel_rfl) (by kernel_rfl) (by kernel_rfl) (fun _ _ _ h => h) (Or.inl ⟨by rfl, ?_⟩) hHeld ?_
  · intro ww hS
    try dsimp only at hS
    go_simp
    try with_reducible rfl
    try omega
  try simp only [Act.put, List.setIfInBounds_toArray, List.set_cons_zero, List.set_cons_succ]
  refine wpAnyH_take (i := 3) (oi := ⟨some 15, _, _, _, _, _⟩) (v := .pointer (some ⟨gO, 8, none⟩)) rfl (by kernel_rfl) (by kernel_rfl) (by kernel_rfl) (fun _ _ _ h => h) (Or.inl ⟨by rfl, ?_⟩) hHeld ?_
  · intro ww hS
    try dsimp only at hS
    go_simp
    try with_reducible rfl
    try omega
  try simp only [Act.put, List.setIfInBounds_toArray, List.set_cons_zero, List.set_cons_succ]
  refine wpAnyH_take (i := 4) (oi := ⟨some 16, _, _, _, _, _⟩) (v := .int .i64 3) rfl (by kernel_rfl) (by kernel_rfl) (by kernel_rfl) (fun _ _ _ h => h) (Or.inl ⟨by rfl, ?_⟩) hHeld ?_
  · intro ww hS
    try dsimp only at hS
    have O_8 := (hS).at_ 1 8 rfl (v := .int .i64 3) rfl
    have O_z := (hS).lt 1 rfl
    go_simp
    try with_reducible rfl
    try omega
  try simp only [Act.put, List.setIfInBounds_toArray, List.set_cons_zero, List.set_cons_succ]
  refine wpAnyH_ready (rs := [2]) (by kernel_rfl) (by simp) ?_
  refine AllReadyH.cons (o := ⟨some 14, _, _, _, _, _⟩) rfl (fun K0 hK => ?_) AllReadyH.nil
  go_simp
  refine (gph_any B m d _).mono ?_
  rintro e w3 ⟨gm, kC, kK, rfl, hF, hBC, hBK, ⟨hg1, hg2, hg3⟩, K'⟩
  have Lb := L.lts
  replace L := L.over K'
  replace L := L.cmap Lb hg1 hF
  replace L := L.bkf Lb hg2 hBC
  replace L := L.bkf Lb hg3 hBK
  clear Lb
  try dsimp only [lF, List.cons_append, List.nil_append] at L
  clear hF hBC hBK hg1 hg2 hg3
  refine hK.out _ _ (L.less 3) (fun hHeld' => ?_)
  clear hHeld hK K0
  have hHeld := hHeld'
  clear hHeld'
  clear K'
  try simp only [Act.put, List.setIfInBounds_toArray, List.set_cons_zero, List.set_cons_succ]
  refine wpAnyH_ready (rs := [5]) (by kernel_rfl) (by simp) ?_
  refine AllReadyH.cons (o := ⟨some 17, _, _, _, _, _⟩) rfl (fun K0 hK => ?_) AllReadyH.nil
  have hrun := CMap.look (L.get 2 rfl : CMap (gcap kC kK) _ gm gph_l) Tryz.underlying73 (gph_z _) (k := 3) (by decide) (f := 68) rfl
  simp only [cloV, show gcap kC kK 68 = (kC, kK) from rfl] at hrun
  go_simp
  refine hK.out _ _ hHeld (fun hHeld' => ?_)
  clear hHeld hK K0
  have hHeld := hHeld'
  clear hHeld'
  try simp only [Act.put, List.setIfInBounds_toArray, List.set_cons_zero, List.set_cons_succ]
  clear hrun
  refine wpAnyH_take (i := 6) (oi := ⟨some 11, _, _, _, _, _⟩) (v := ?_) rfl (by kernel_rfl) (by kernel_rfl) (by kernel_rfl) (fun _ _ _ h => h) (Or.inl ⟨by rfl, ?_⟩) hHeld ?_
  rotate_left
  · intro ww hS
    try dsimp only at hS
    go_simp
    try with_reducible rfl
    try omega
  try simp only [Act.put, List.setIfInBounds_toArray, List.set_cons_zero, List.set_cons_succ]
  refine wpAnyH_take (i := 7) (oi := ⟨some 18, _, _, _, _, _⟩) (v := .func (.func 68) #[] #[.pointer (some ⟨kC, 0, none⟩), .pointer (some ⟨kK, 0, none⟩)]) rfl (by kernel_rfl) (by kernel_rfl) (by kernel_rfl) (fun _ _ _ h => h) (Or.inl ⟨by rfl, ?_⟩) hHeld ?_
  · intro ww hS
    try dsimp only at hS
    go_simp
    try with_reducible rfl
    try omega
  try simp only [Act.put, List.setIfInBounds_toArray, List.set_cons_zero, List.set_cons_succ]
  refine wpAnyH_take (i := 8) (oi := ⟨some 19, _, _, _, _, _⟩) (v := .bool true) rfl (by kernel_rfl) (by kernel_rfl) (by kernel_rfl) (fun _ _ _ h => h) (Or.inl ⟨by rfl, ?_⟩) hHeld ?_
  · intro ww hS
    try dsimp only at hS
    go_simp
    try with_reducible rfl
    try omega
  try simp only [Act.put, List.setIfInBounds_toArray, List.set_cons_zero, List.set_cons_succ]
  refine wpAnyH_take (i := 9) (oi := ⟨some 9, _, _, _, _, _⟩) (v := .func (.func 68) #[] #[.pointer (some ⟨kC, 0, none⟩), .pointer (some ⟨kK, 0, none⟩)]) rfl (by kernel_rfl) (by kernel_rfl) (by kernel_rfl) (fun _ _ _ h => h) (Or.inl ⟨by rfl, ?_⟩) hHeld ?_
  · intro ww hS
    try dsimp only at hS
    go_simp
    try with_reducible rfl
    try omega
  try simp only [Act.put, List.setIfInBounds_toArray, List.set_cons_zero, List.set_cons_succ]
  refine wpAnyH_take (i := 10) (oi := ⟨some 10, _, _, _, _, _⟩) (v := .bool true) rfl (by kernel_rfl) (by kernel_rfl) (by kernel_rfl) (fun _ _ _ h => h) (Or.inl ⟨by rfl, ?_⟩) hHeld ?_
  · intro ww hS
    try dsimp only at hS
    go_simp
    try with_reducible rfl
    try omega
  try simp only [Act.put, List.setIfInBounds_toArray, List.set_cons_zero, List.set_cons_succ]
  refine wpAnyH_done (by kernel_rfl) ?_ _
  clear hHeld
  go_wp2_with (refine wpList_load_row rfl 40 (.tmp 5) rfl gO rfl _ _ (0, 0) _ (L.bk_ 1 rfl) Tryz.underlying40 rfl op_sz ?_)
  have KS := L.K.size
  refine ((TK _ _ _ _ _ (hU.below L.K) (hL.below L.K) (L.get 1 rfl) (L.get 0 rfl)).out).mono ?_
  rintro e w4 ⟨h3, B2, d2, rfl, U, L', hA, K'⟩
  have Lb := L.lts
  replace L := L.over K'
  replace L := L.us_av (fun i b e => hA b.1 (Lb i b e) (hU.apart0 hm0 L i b e)) U
  replace L := L.lists Lb L'
  clear Lb
  try dsimp only [lF, List.cons_append, List.nil_append] at L
  clear U L'
  go_wp2_with (refine wpList_store_row rfl 40 (.tmp 7) (.tmp 29) rfl gR _ rfl rfl _ _ (L.bk_ 0 rfl) op_sz rfl (opv_one _ _) ?_)
  replace L := (L.row 0 rfl (opv h3 s2))
  try dsimp only [nput] at L
  generalize (w4).setRow gR (opv h3 s2) = w5 at L ⊢
  refine bodyPost_ret (v := .tuple #[.slice B2 m d2, .agg (opv h3 s2), .bool b2]) ?_ rfl ?_
  · exact results_tct (fn := Tryz.f13) Tryz.results13 _ _ gR _ _ (0, 0) _ rfl (L.bk_ 0 rfl) Tryz.underlying40 rfl op_sz
  exact ⟨_, _, _, rfl, L.us_ 4 rfl, (L.lists_at 0 rfl).lower_ KS, fun k hk => hA k (Nat.lt_of_lt_of_le hk KS), L.K⟩
set_option maxRecDepth 100000 in
set_option maxHeartbeats 2000000 in
theorem gstep4 (ha : a < 4294967296) (hM : Much a p M) (h1 : 1 ≤ ns) (h2 : ns ≤ 64) (hN : N ≤ 60000) (hG : GI M ns zs N s sn) (hY : YI M zs ys) (hU : US w B m d ys) (hL : Lists lo w h (gl sn)) (hph : s.phase = 4) :
    Calls Tryz.prog 13 #[.agg #[.int .u32 (a : Int), .int .i64 p, .slice A n c, .int .i64 (ns : Int), .int .i64 wo, .int .i64 qu, .int .i64 tr], .slice B m d, .agg (opv h s)] w (RetG (gS a M ns ys s sn) (gl (gN M ys s sn)) m (gC M ys s) (gB M ys s sn) B w) := by
  have hm0 : 0 < m := by have := hU.len; have := hY.len; omega
  obtain ⟨s2, hs2⟩ : ∃ s2, s2 = gS a M ns ys s sn := ⟨_, rfl⟩
  obtain ⟨l2, hl2⟩ : ∃ l2, l2 = gl (gN M ys s sn) := ⟨_, rfl⟩
  obtain ⟨y2, hy2⟩ : ∃ y2, y2 = gC M ys s := ⟨_, rfl⟩
  obtain ⟨b2, hb2⟩ : ∃ b2, b2 = gB M ys s sn := ⟨_, rfl⟩
  have TK := fun w lo h kC kK (U : US w B m d ys) (L : Lists lo w h (gl sn)) hC hK => Lib.hid (gcl_mark (w := w) (lo := lo) (h := h) (s := s) (wo := wo) (qu := qu) (tr := tr) (A := A) (n := n) (c := c) (kC := kC) (kK := kK) ha hM h1 h2 hN hG hY U L hC hK (.inl hph))
  simp only [← hs2, ← hl2, ← hy2, ← hb2] at TK ⊢
  clear hG hY hs2 hl2 ha hM
  clear hy2 hb2
  rcases s with ⟨kind, addr, err, aad, used, phase, shard, sought, leaf, bit, word, full, at_, tries, item, stamp⟩
  rcases h with ⟨A0, n0, c0, A1, n1, c1, A2, n2, c2, A3, n3, c3⟩
  try dsimp only at *
  subst hph
  go_enter Tryz.func13, Tryz.ntmps13
  go_upto_region 1 with (fail)
  have L := Loc.start w
  replace L := (((L).alloc #[.int .u32 (a : Int), .int .i64 p, .slice A n c, .int .i64 (ns : Int), .int .i64 wo, .int .i64 qu, .int .i64 tr] 27).alloc (opv ⟨A0, n0, c0, A1, n1, c1, A2, n2, c2, A3, n3, c3⟩ ⟨kind, addr, err, aad, used, 4, shard, sought, leaf, bit, word, full, at_, tries, item, stamp⟩) 40).alloc #[.int .i64 0, .int .u32 0, .slice none 0 0, .int .i64 0, .int .u32 0, .bool false, .slice none 0 0, .slice none 0 0, .int .i64 0, .int .i64 0, .int .i64 0, .int .i64 0, .int .i64 0, .int .u64 0, .bool false, .slice none 0 0, .int .i64 0, .int .i64 0, .int .i64 0, .int .i64 0] 40
  try simp only [World.size_alloc] at L
  replace L := L.is 0 (opv hd0 sc0) rfl
  try dsimp only [nput] at L
  generalize (((w).alloc (.cells #[.int .u32 (a : Int), .int .i64 p, .slice A n c, .int .i64 (ns : Int), .int .i64 wo, .int .i64 qu, .int .i64 tr] 27)).alloc (.cells (opv ⟨A0, n0, c0, A1, n1, c1, A2, n2, c2, A3, n3, c3⟩ ⟨kind, addr, err, aad, used, 4, shard, sought, leaf, bit, word, full, at_, tries, item, stamp⟩) 40)).alloc (.cells #[.int .i64 0, .int .u32 0, .slice none 0 0, .int .i64 0, .int .u32 0, .bool false, .slice none 0 0, .slice none 0 0, .int .i64 0, .int .i64 0, .int .i64 0, .int .i64 0, .int .i64 0, .int .u64 0, .bool false, .slice none 0 0, .int .i64 0, .int .i64 0, .int .i64 0, .int .i64 0] 40) = w1 at L ⊢
  generalize w.heap.size + 1 + 1 = gR at L ⊢
  generalize w.heap.size + 1 = gO at L ⊢
  generalize w.heap.size = gH at L ⊢
  replace L := L.drew
  refine wp_region_held_drew (S := fun w' => Loc w w' [(gR, 40, opv hd0 sc0), (gO, 40, opv ⟨A0, n0, c0, A1, n1, c1, A2, n2, c2, A3, n3, c3⟩ ⟨kind, addr, err, aad, used, 4, shard, sought, leaf, bit, word, full, at_, tries, item, stamp⟩), (gH, 27, #[.int .u32 (a : Int), .int .i64 p, .slice A n c, .int .i64 (ns : Int), .int .i64 wo, .int .i64 qu, .int .i64 tr])] []) (by kernel_rfl) L (fun hHeld => ?_)
  generalize w1.drew = v2 at hHeld L ⊢
  refine wpAnyH_take (i := 0) (oi := ⟨some 12, _, _, _, _, _⟩) (v := .agg (#[.int .u32 (a : Int), .int .i64 p, .slice A n c, .int .i64 (ns : Int), .int .i64 wo, .int .i64 qu, .int .i64 tr])) rfl (by kernel_rfl) (by kernel_rfl) (by kernel_rfl) (fun _ _ _ h => h) (yieldsIf_load_row (by rfl) 27 (.tmp 3) rfl gH rfl 27 _ (0, 0) _ (fun _ hS => ((hS).bk_ 2 rfl)) Tryz.underlying27 rfl cf_sz) hHeld ?_
  try simp only [Act.put, List.setIfInBounds_toArray, List.set_cons_zero, List.set_cons_succ]
  refine wpAnyH_take (i := 1) (oi := ⟨some 13, _, _, _, _, _⟩) (v := .slice B m d) rfl (by kernel_rfl) (by kernel_rfl) (by kernel_rfl) (fun _ _ _ h => h) (Or.inl ⟨by rfl, ?_⟩) hHeld ?_
  · intro ww hS
    try dsimp only at hS
    go_simp
    try with_reducible rfl
    try omega
  try simp only [Act.put, List.setIfInBounds_toArray, List.set_cons_zero, List.set_cons_succ]
  refine wpAnyH_take (i := 3) (oi := ⟨some 15, _, _, _, _, _⟩) (v := .pointer (some ⟨gO, 8, none⟩)) rfl (by kernel_rfl) (by kernel_rfl) (by kernel_rfl) (fun _ _ _ h => h) (Or.inl ⟨by rfl, ?_⟩) hHeld ?_
  · intro ww hS
    try dsimp only at hS
    go_simp
    try with_reducible rfl
    try omega
  try simp only [Act.put, List.setIfInBounds_toArray, List.set_cons_zero, List.set_cons_succ]
  refine wpAnyH_take (i := 4) (oi := ⟨some 16, _, _, _, _, _⟩) (v := .int .i64 4) rfl (by kernel_rfl) (by kernel_rfl) (by kernel_rfl) (fun _ _ _ h => h) (Or.inl ⟨by rfl, ?_⟩) hHeld ?_
  · intro ww hS
    try dsimp only at hS
    have O_8 := (hS).at_ 1 8 rfl (v := .int .i64 4) rfl
    have O_z := (hS).lt 1 rfl
    go_simp
    try with_reducible rfl
    try omega
  try simp only [Act.put, List.setIfInBounds_toArray, List.set_cons_zero, List.set_cons_succ]
  refine wpAnyH_ready (rs := [2]) (by kernel_rfl) (by simp) ?_
  refine AllReadyH.cons (o := ⟨some 14, _, _, _, _, _⟩) rfl (fun K0 hK => ?_) AllReadyH.nil
  go_simp
  refine (gph_any B m d _).mono ?_
  rintro e w3 ⟨gm, kC, kK, rfl, hF, hBC, hBK, ⟨hg1, hg2, hg3⟩, K'⟩
  have Lb := L.lts
  replace L := L.over K'
  replace L := L.cmap Lb hg1 hF
  replace L := L.bkf Lb hg2 hBC
  replace L := L.bkf Lb hg3 hBK
  clear Lb
  try dsimp only [lF, List.cons_append, List.nil_append] at L
  clear hF hBC hBK hg1 hg2 hg3
  refine hK.out _ _ (L.less 3) (fun hHeld' => ?_)
  clear hHeld hK K0
  have hHeld := hHeld'
  clear hHeld'
  clear K'
  try simp only [Act.put, List.setIfInBounds_toArray, List.set_cons_zero, List.set_cons_succ]
  refine wpAnyH_ready (rs := [5]) (by kernel_rfl) (by simp) ?_
  refine AllReadyH.cons (o := ⟨some 17, _, _, _, _, _⟩) rfl (fun K0 hK => ?_) AllReadyH.nil
  have hrun := CMap.look (L.get 2 rfl : CMap (gcap kC kK) _ gm gph_l) Tryz.underlying73 (gph_z _) (k := 4) (by decide) (f := 72) rfl
  simp only [cloV, show gcap kC kK 72 = (kC, kK) from rfl] at hrun
  go_simp
  refine hK.out _ _ hHeld (fun hHeld' => ?_)
  clear hHeld hK K0
  have hHeld := hHeld'
  clear hHeld'
  try simp only [Act.put, List.setIfInBounds_toArray, List.set_cons_zero, List.set_cons_succ]
  clear hrun
  refine wpAnyH_take (i := 6) (oi := ⟨some 11, _, _, _, _, _⟩) (v := ?_) rfl (by kernel_rfl) (by kernel_rfl) (by kernel_rfl) (fun _ _ _ h => h) (Or.inl ⟨by rfl, ?_⟩) hHeld ?_
  rotate_left
  · intro ww hS
    try dsimp only at hS
    go_simp
    try with_reducible rfl
    try omega
  try simp only [Act.put, List.setIfInBounds_toArray, List.set_cons_zero, List.set_cons_succ]
  refine wpAnyH_take (i := 7) (oi := ⟨some 18, _, _, _, _, _⟩) (v := .func (.func 72) #[] #[.pointer (some ⟨kC, 0, none⟩), .pointer (some ⟨kK, 0, none⟩)]) rfl (by kernel_rfl) (by kernel_rfl) (by kernel_rfl) (fun _ _ _ h => h) (Or.inl ⟨by rfl, ?_⟩) hHeld ?_
  · intro ww hS
    try dsimp only at hS
    go_simp
    try with_reducible rfl
    try omega
  try simp only [Act.put, List.setIfInBounds_toArray, List.set_cons_zero, List.set_cons_succ]
  refine wpAnyH_take (i := 8) (oi := ⟨some 19, _, _, _, _, _⟩) (v := .bool true) rfl (by kernel_rfl) (by kernel_rfl) (by kernel_rfl) (fun _ _ _ h => h) (Or.inl ⟨by rfl, ?_⟩) hHeld ?_
  · intro ww hS
    try dsimp only at hS
    go_simp
    try with_reducible rfl
    try omega
  try simp only [Act.put, List.setIfInBounds_toArray, List.set_cons_zero, List.set_cons_succ]
  refine wpAnyH_take (i := 9) (oi := ⟨some 9, _, _, _, _, _⟩) (v := .func (.func 72) #[] #[.pointer (some ⟨kC, 0, none⟩), .pointer (some ⟨kK, 0, none⟩)]) rfl (by kernel_rfl) (by kernel_rfl) (by kernel_rfl) (fun _ _ _ h => h) (Or.inl ⟨by rfl, ?_⟩) hHeld ?_
  · intro ww hS
    try dsimp only at hS
    go_simp
    try with_reducible rfl
    try omega
  try simp only [Act.put, List.setIfInBounds_toArray, List.set_cons_zero, List.set_cons_succ]
  refine wpAnyH_take (i := 10) (oi := ⟨some 10, _, _, _, _, _⟩) (v := .bool true) rfl (by kernel_rfl) (by kernel_rfl) (by kernel_rfl) (fun _ _ _ h => h) (Or.inl ⟨by rfl, ?_⟩) hHeld ?_
  · intro ww hS
    try dsimp only at hS
    go_simp
    try with_reducible rfl
    try omega
  try simp only [Act.put, List.setIfInBounds_toArray, List.set_cons_zero, List.set_cons_succ]
  refine wpAnyH_done (by kernel_rfl) ?_ _
  clear hHeld
  go_wp2_with (refine wpList_load_row rfl 40 (.tmp 5) rfl gO rfl _ _ (0, 0) _ (L.bk_ 1 rfl) Tryz.underlying40 rfl op_sz ?_)
  have KS := L.K.size
  refine ((TK _ _ _ _ _ (hU.below L.K) (hL.below L.K) (L.get 1 rfl) (L.get 0 rfl)).out).mono ?_
  rintro e w4 ⟨h3, B2, d2, rfl, U, L', hA, K'⟩
  have Lb := L.lts
  replace L := L.over K'
  replace L := L.us_av (fun i b e => hA b.1 (Lb i b e) (hU.apart0 hm0 L i b e)) U
  replace L := L.lists Lb L'
  clear Lb
  try dsimp only [lF, List.cons_append, List.nil_append] at L
  clear U L'
  go_wp2_with (refine wpList_store_row rfl 40 (.tmp 7) (.tmp 29) rfl gR _ rfl rfl _ _ (L.bk_ 0 rfl) op_sz rfl (opv_one _ _) ?_)
  replace L := (L.row 0 rfl (opv h3 s2))
  try dsimp only [nput] at L
  generalize (w4).setRow gR (opv h3 s2) = w5 at L ⊢
  refine bodyPost_ret (v := .tuple #[.slice B2 m d2, .agg (opv h3 s2), .bool b2]) ?_ rfl ?_
  · exact results_tct (fn := Tryz.f13) Tryz.results13 _ _ gR _ _ (0, 0) _ rfl (L.bk_ 0 rfl) Tryz.underlying40 rfl op_sz
  exact ⟨_, _, _, rfl, L.us_ 4 rfl, (L.lists_at 0 rfl).lower_ KS, fun k hk => hA k (Nat.lt_of_lt_of_le hk KS), L.K⟩
set_option maxRecDepth 100000 in
set_option maxHeartbeats 2000000 in
theorem gstep5 (ha : a < 4294967296) (hM : Much a p M) (h1 : 1 ≤ ns) (h2 : ns ≤ 64) (hN : N ≤ 60000) (hG : GI M ns zs N s sn) (hY : YI M zs ys) (hU : US w B m d ys) (hL : Lists lo w h (gl sn)) (hph : s.phase = 5) :
    Calls Tryz.prog 13 #[.agg #[.int .u32 (a : Int), .int .i64 p, .slice A n c, .int .i64 (ns : Int), .int .i64 wo, .int .i64 qu, .int .i64 tr], .slice B m d, .agg (opv h s)] w (RetG (gS a M ns ys s sn) (gl (gN M ys s sn)) m (gC M ys s) (gB M ys s sn) B w) := by
  have hm0 : 0 < m := by have := hU.len; have := hY.len; omega
  obtain ⟨s2, hs2⟩ : ∃ s2, s2 = gS a M ns ys s sn := ⟨_, rfl⟩
  obtain ⟨l2, hl2⟩ : ∃ l2, l2 = gl (gN M ys s sn) := ⟨_, rfl⟩
  obtain ⟨y2, hy2⟩ : ∃ y2, y2 = gC M ys s := ⟨_, rfl⟩
  obtain ⟨b2, hb2⟩ : ∃ b2, b2 = gB M ys s sn := ⟨_, rfl⟩
  have TK := fun w lo h kC kK (U : US w B m d ys) (L : Lists lo w h (gl sn)) hC hK => Lib.hid (gcl_mark (w := w) (lo := lo) (h := h) (s := s) (wo := wo) (qu := qu) (tr := tr) (A := A) (n := n) (c := c) (kC := kC) (kK := kK) ha hM h1 h2 hN hG hY U L hC hK (.inr hph))
  simp only [← hs2, ← hl2, ← hy2, ← hb2] at TK ⊢
  clear hG hY hs2 hl2 ha hM
  clear hy2 hb2
  rcases s with ⟨kind, addr, err, aad, used, phase, shard, sought, leaf, bit, word, full, at_, tries, item, stamp⟩
  rcases h with ⟨A0, n0, c0, A1, n1, c1, A2, n2, c2, A3, n3, c3⟩
  try dsimp only at *
  subst hph
  go_enter Tryz.func13, Tryz.ntmps13
  go_upto_region 1 with (fail)
  have L := Loc.start w
  replace L := (((L).alloc #[.int .u32 (a : Int), .int .i64 p, .slice A n c, .int .i64 (ns : Int), .int .i64 wo, .int .i64 qu, .int .i64 tr] 27).alloc (opv ⟨A0, n0, c0, A1, n1, c1, A2, n2, c2, A3, n3, c3⟩ ⟨kind, addr, err, aad, used, 5, shard, sought, leaf, bit, word, full, at_, tries, item, stamp⟩) 40).alloc #[.int .i64 0, .int .u32 0, .slice none 0 0, .int .i64 0, .int .u32 0, .bool false, .slice none 0 0, .slice none 0 0, .int .i64 0, .int .i64 0, .int .i64 0, .int .i64 0, .int .i64 0, .int .u64 0, .bool false, .slice none 0 0, .int .i64 0, .int .i64 0, .int .i64 0, .int .i64 0] 40
  try simp only [World.size_alloc] at L
  replace L := L.is 0 (opv hd0 sc0) rfl
  try dsimp only [nput] at L
  generalize (((w).alloc (.cells #[.int .u32 (a : Int), .int .i64 p, .slice A n c, .int .i64 (ns : Int), .int .i64 wo, .int .i64 qu, .int .i64 tr] 27)).alloc (.cells (opv ⟨A0, n0, c0, A1, n1, c1, A2, n2, c2, A3, n3, c3⟩ ⟨kind, addr, err, aad, used, 5, shard, sought, leaf, bit, word, full, at_, tries, item, stamp⟩) 40)).alloc (.cells #[.int .i64 0, .int .u32 0, .slice none 0 0, .int .i64 0, .int .u32 0, .bool false, .slice none 0 0, .slice none 0 0, .int .i64 0, .int .i64 0, .int .i64 0, .int .i64 0, .int .i64 0, .int .u64 0, .bool false, .slice none 0 0, .int .i64 0, .int .i64 0, .int .i64 0, .int .i64 0] 40) = w1 at L ⊢
  generalize w.heap.size + 1 + 1 = gR at L ⊢
  generalize w.heap.size + 1 = gO at L ⊢
  generalize w.heap.size = gH at L ⊢
  replace L := L.drew
  refine wp_region_held_drew (S := fun w' => Loc w w' [(gR, 40, opv hd0 sc0), (gO, 40, opv ⟨A0, n0, c0, A1, n1, c1, A2, n2, c2, A3, n3, c3⟩ ⟨kind, addr, err, aad, used, 5, shard, sought, leaf, bit, word, full, at_, tries, item, stamp⟩), (gH, 27, #[.int .u32 (a : Int), .int .i64 p, .slice A n c, .int .i64 (ns : Int), .int .i64 wo, .int .i64 qu, .int .i64 tr])] []) (by kernel_rfl) L (fun hHeld => ?_)
  generalize w1.drew = v2 at hHeld L ⊢
  refine wpAnyH_take (i := 0) (oi := ⟨some 12, _, _, _, _, _⟩) (v := .agg (#[.int .u32 (a : Int), .int .i64 p, .slice A n c, .int .i64 (ns : Int), .int .i64 wo, .int .i64 qu, .int .i64 tr])) rfl (by kernel_rfl) (by kernel_rfl) (by kernel_rfl) (fun _ _ _ h => h) (yieldsIf_load_row (by rfl) 27 (.tmp 3) rfl gH rfl 27 _ (0, 0) _ (fun _ hS => ((hS).bk_ 2 rfl)) Tryz.underlying27 rfl cf_sz) hHeld ?_
  try simp only [Act.put, List.setIfInBounds_toArray, List.set_cons_zero, List.set_cons_succ]
  refine wpAnyH_take (i := 1) (oi := ⟨some 13, _, _, _, _, _⟩) (v := .slice B m d) rfl (by kernel_rfl) (by kernel_rfl) (by kernel_rfl) (fun _ _ _ h => h) (Or.inl ⟨by rfl, ?_⟩) hHeld ?_
  · intro ww hS
    try dsimp only at hS
    go_simp
    try with_reducible rfl
    try omega
  try simp only [Act.put, List.setIfInBounds_toArray, List.set_cons_zero, List.set_cons_succ]
  refine wpAnyH_take (i := 3) (oi := ⟨some 15, _, _, _, _, _⟩) (v := .pointer (some ⟨gO, 8, none⟩)) rfl (by kernel_rfl) (by kernel_rfl) (by kernel_rfl) (fun _ _ _ h => h) (Or.inl ⟨by rfl, ?_⟩) hHeld ?_
  · intro ww hS
    try dsimp only at hS
    go_simp
    try with_reducible rfl
    try omega
  try simp only [Act.put, List.setIfInBounds_toArray, List.set_cons_zero, List.set_cons_succ]
  refine wpAnyH_take (i := 4) (oi := ⟨some 16, _, _, _, _, _⟩) (v := .int .i64 5) rfl (by kernel_rfl) (by kernel_rfl) (by kernel_rfl) (fun _ _ _ h => h) (Or.inl ⟨by rfl, ?_⟩) hHeld ?_
  · intro ww hS
    try dsimp only at hS
    have O_8 := (hS).at_ 1 8 rfl (v := .int .i64 5) rfl
    have O_z := (hS).lt 1 rfl
    go_simp
    try with_reducible rfl
    try omega
  try simp only [Act.put, List.setIfInBounds_toArray, List.set_cons_zero, List.set_cons_succ]
  refine wpAnyH_ready (rs := [2]) (by kernel_rfl) (by simp) ?_
  refine AllReadyH.cons (o := ⟨some 14, _, _, _, _, _⟩) rfl (fun K0 hK => ?_) AllReadyH.nil
  go_simp
  refine (gph_any B m d _).mono ?_
  rintro e w3 ⟨gm, kC, kK, rfl, hF, hBC, hBK, ⟨hg1, hg2, hg3⟩, K'⟩
  have Lb := L.lts
  replace L := L.over K'
  replace L := L.cmap Lb hg1 hF
  replace L := L.bkf Lb hg2 hBC
  replace L := L.bkf Lb hg3 hBK
  clear Lb
  try dsimp only [lF, List.cons_append, List.nil_append] at L
  clear hF hBC hBK hg1 hg2 hg3
  refine hK.out _ _ (L.less 3) (fun hHeld' => ?_)
  clear hHeld hK K0
  have hHeld := hHeld'
  clear hHeld'
  clear K'
  try simp only [Act.put, List.setIfInBounds_toArray, List.set_cons_zero, List.set_cons_succ]
  refine wpAnyH_ready (rs := [5]) (by kernel_rfl) (by simp) ?_
  refine AllReadyH.cons (o := ⟨some 17, _, _, _, _, _⟩) rfl (fun K0 hK => ?_) AllReadyH.nil
  have hrun := CMap.look (L.get 2 rfl : CMap (gcap kC kK) _ gm gph_l) Tryz.underlying73 (gph_z _) (k := 5) (by decide) (f := 72) rfl
  simp only [cloV, show gcap kC kK 72 = (kC, kK) from rfl] at hrun
  go_simp
  refine hK.out _ _ hHeld (fun hHeld' => ?_)
  clear hHeld hK K0
  have hHeld := hHeld'
  clear hHeld'
  try simp only [Act.put, List.setIfInBounds_toArray, List.set_cons_zero, List.set_cons_succ]
  clear hrun
  refine wpAnyH_take (i := 6) (oi := ⟨some 11, _, _, _, _, _⟩) (v := ?_) rfl (by kernel_rfl) (by kernel_rfl) (by kernel_rfl) (fun _ _ _ h => h) (Or.inl ⟨by rfl, ?_⟩) hHeld ?_
  rotate_left
  · intro ww hS
    try dsimp only at hS
    go_simp
    try with_reducible rfl
    try omega
  try simp only [Act.put, List.setIfInBounds_toArray, List.set_cons_zero, List.set_cons_succ]
  refine wpAnyH_take (i := 7) (oi := ⟨some 18, _, _, _, _, _⟩) (v := .func (.func 72) #[] #[.pointer (some ⟨kC, 0, none⟩), .pointer (some ⟨kK, 0, none⟩)]) rfl (by kernel_rfl) (by kernel_rfl) (by kernel_rfl) (fun _ _ _ h => h) (Or.inl ⟨by rfl, ?_⟩) hHeld ?_
  · intro ww hS
    try dsimp only at hS
    go_simp
    try with_reducible rfl
    try omega
  try simp only [Act.put, List.setIfInBounds_toArray, List.set_cons_zero, List.set_cons_succ]
  refine wpAnyH_take (i := 8) (oi := ⟨some 19, _, _, _, _, _⟩) (v := .bool true) rfl (by kernel_rfl) (by kernel_rfl) (by kernel_rfl) (fun _ _ _ h => h) (Or.inl ⟨by rfl, ?_⟩) hHeld ?_
  · intro ww hS
    try dsimp only at hS
    go_simp
    try with_reducible rfl
    try omega
  try simp only [Act.put, List.setIfInBounds_toArray, List.set_cons_zero, List.set_cons_succ]
  refine wpAnyH_take (i := 9) (oi := ⟨some 9, _, _, _, _, _⟩) (v := .func (.func 72) #[] #[.pointer (some ⟨kC, 0, none⟩), .pointer (some ⟨kK, 0, none⟩)]) rfl (by kernel_rfl) (by kernel_rfl) (by kernel_rfl) (fun _ _ _ h => h) (Or.inl ⟨by rfl, ?_⟩) hHeld ?_
  · intro ww hS
    try dsimp only at hS
    go_simp
    try with_reducible rfl
    try omega
  try simp only [Act.put, List.setIfInBounds_toArray, List.set_cons_zero, List.set_cons_succ]
  refine wpAnyH_take (i := 10) (oi := ⟨some 10, _, _, _, _, _⟩) (v := .bool true) rfl (by kernel_rfl) (by kernel_rfl) (by kernel_rfl) (fun _ _ _ h => h) (Or.inl ⟨by rfl, ?_⟩) hHeld ?_
  · intro ww hS
    try dsimp only at hS
    go_simp
    try with_reducible rfl
    try omega
  try simp only [Act.put, List.setIfInBounds_toArray, List.set_cons_zero, List.set_cons_succ]
  refine wpAnyH_done (by kernel_rfl) ?_ _
  clear hHeld
  go_wp2_with (refine wpList_load_row rfl 40 (.tmp 5) rfl gO rfl _ _ (0, 0) _ (L.bk_ 1 rfl) Tryz.underlying40 rfl op_sz ?_)
  have KS := L.K.size
  refine ((TK _ _ _ _ _ (hU.below L.K) (hL.below L.K) (L.get 1 rfl) (L.get 0 rfl)).out).mono ?_
  rintro e w4 ⟨h3, B2, d2, rfl, U, L', hA, K'⟩
  have Lb := L.lts
  replace L := L.over K'
  replace L := L.us_av (fun i b e => hA b.1 (Lb i b e) (hU.apart0 hm0 L i b e)) U
  replace L := L.lists Lb L'
  clear Lb
  try dsimp only [lF, List.cons_append, List.nil_append] at L
  clear U L'
  go_wp2_with (refine wpList_store_row rfl 40 (.tmp 7) (.tmp 29) rfl gR _ rfl rfl _ _ (L.bk_ 0 rfl) op_sz rfl (opv_one _ _) ?_)
  replace L := (L.row 0 rfl (opv h3 s2))
  try dsimp only [nput] at L
  generalize (w4).setRow gR (opv h3 s2) = w5 at L ⊢
  refine bodyPost_ret (v := .tuple #[.slice B2 m d2, .agg (opv h3 s2), .bool b2]) ?_ rfl ?_
  · exact results_tct (fn := Tryz.f13) Tryz.results13 _ _ gR _ _ (0, 0) _ rfl (L.bk_ 0 rfl) Tryz.underlying40 rfl op_sz
  exact ⟨_, _, _, rfl, L.us_ 4 rfl, (L.lists_at 0 rfl).lower_ KS, fun k hk => hA k (Nat.lt_of_lt_of_le hk KS), L.K⟩
set_option maxRecDepth 100000 in
set_option maxHeartbeats 2000000 in
theorem gstep6 (ha : a < 4294967296) (hM : Much a p M) (h1 : 1 ≤ ns) (h2 : ns ≤ 64) (hN : N ≤ 60000) (hG : GI M ns zs N s sn) (hY : YI M zs ys) (hU : US w B m d ys) (hL : Lists lo w h (gl sn)) (hph : s.phase = 6) :
    Calls Tryz.prog 13 #[.agg #[.int .u32 (a : Int), .int .i64 p, .slice A n c, .int .i64 (ns : Int), .int .i64 wo, .int .i64 qu, .int .i64 tr], .slice B m d, .agg (opv h s)] w (RetG (gS a M ns ys s sn) (gl (gN M ys s sn)) m (gC M ys s) (gB M ys s sn) B w) := by
  have hm0 : 0 < m := by have := hU.len; have := hY.len; omega
  obtain ⟨s2, hs2⟩ : ∃ s2, s2 = gS a M ns ys s sn := ⟨_, rfl⟩
  obtain ⟨l2, hl2⟩ : ∃ l2, l2 = gl (gN M ys s sn) := ⟨_, rfl⟩
  obtain ⟨y2, hy2⟩ : ∃ y2, y2 = gC M ys s := ⟨_, rfl⟩
  obtain ⟨b2, hb2⟩ : ∃ b2, b2 = gB M ys s sn := ⟨_, rfl⟩
  have TK := fun w lo h kC kK (U : US w B m d ys) (L : Lists lo w h (gl sn)) hC hK => Lib.hid (gcl_sweep (w := w) (lo := lo) (h := h) (s := s) (wo := wo) (qu := qu) (tr := tr) (A := A) (n := n) (c := c) (kC := kC) (kK := kK) ha hM h1 h2 hN hG hY U L hC hK (.inl hph))
  simp only [← hs2, ← hl2, ← hy2, ← hb2] at TK ⊢
  clear hG hY hs2 hl2 ha hM
  clear hy2 hb2
  rcases s with ⟨kind, addr, err, aad, used, phase, shard, sought, leaf, bit, word, full, at_, tries, item, stamp⟩
  rcases h with ⟨A0, n0, c0, A1, n1, c1, A2, n2, c2, A3, n3, c3⟩
  try dsimp only at *
  subst hph
  go_enter Tryz.func13, Tryz.ntmps13
  go_upto_region 1 with (fail)
  have L := Loc.start w
  replace L := (((L).alloc #[.int .u32 (a : Int), .int .i64 p, .slice A n c, .int .i64 (ns : Int), .int .i64 wo, .int .i64 qu, .int .i64 tr] 27).alloc (opv ⟨A0, n0, c0, A1, n1, c1, A2, n2, c2, A3, n3, c3⟩ ⟨kind, addr, err, aad, used, 6, shard, sought, leaf, bit, word, full, at_, tries, item, stamp⟩) 40).alloc #[.int .i64 0, .int .u32 0, .slice none 0 0, .int .i64 0, .int .u32 0, .bool false, .slice none 0 0, .slice none 0 0, .int .i64 0, .int .i64 0, .int .i64 0, .int .i64 0, .int .i64 0, .int .u64 0, .bool false, .slice none 0 0, .int .i64 0, .int .i64 0, .int .i64 0, .int .i64 0] 40
  try simp only [World.size_alloc] at L
  replace L := L.is 0 (opv hd0 sc0) rfl
  try dsimp only [nput] at L
  generalize (((w).alloc (.cells #[.int .u32 (a : Int), .int .i64 p, .slice A n c, .int .i64 (ns : Int), .int .i64 wo, .int .i64 qu, .int .i64 tr] 27)).alloc (.cells (opv ⟨A0, n0, c0, A1, n1, c1, A2, n2, c2, A3, n3, c3⟩ ⟨kind, addr, err, aad, used, 6, shard, sought, leaf, bit, word, full, at_, tries, item, stamp⟩) 40)).alloc (.cells #[.int .i64 0, .int .u32 0, .slice none 0 0, .int .i64 0, .int .u32 0, .bool false, .slice none 0 0, .slice none 0 0, .int .i64 0, .int .i64 0, .int .i64 0, .int .i64 0, .int .i64 0, .int .u64 0, .bool false, .slice none 0 0, .int .i64 0, .int .i64 0, .int .i64 0, .int .i64 0] 40) = w1 at L ⊢
  generalize w.heap.size + 1 + 1 = gR at L ⊢
  generalize w.heap.size + 1 = gO at L ⊢
  generalize w.heap.size = gH at L ⊢
  replace L := L.drew
  refine wp_region_held_drew (S := fun w' => Loc w w' [(gR, 40, opv hd0 sc0), (gO, 40, opv ⟨A0, n0, c0, A1, n1, c1, A2, n2, c2, A3, n3, c3⟩ ⟨kind, addr, err, aad, used, 6, shard, sought, leaf, bit, word, full, at_, tries, item, stamp⟩), (gH, 27, #[.int .u32 (a : Int), .int .i64 p, .slice A n c, .int .i64 (ns : Int), .int .i64 wo, .int .i64 qu, .int .i64 tr])] []) (by kernel_rfl) L (fun hHeld => ?_)
  generalize w1.drew = v2 at hHeld L ⊢
  refine wpAnyH_take (i := 0) (oi := ⟨some 12, _, _, _, _, _⟩) (v := .agg (#[.int .u32 (a : Int), .int .i64 p, .slice A n c, .int .i64 (ns : Int), .int .i64 wo, .int .i64 qu, .int .i64 tr])) rfl (by kernel_rfl) (by kernel_rfl) (by kernel_rfl) (fun _ _ _ h => h) (yieldsIf_load_row (by rfl) 27 (.tmp 3) rfl gH rfl 27 _ (0, 0) _ (fun _ hS => ((hS).bk_ 2 rfl)) Tryz.underlying27 rfl cf_sz) hHeld ?_
  try simp only [Act.put, List.setIfInBounds_toArray, List.set_cons_zero, List.set_cons_succ]
  refine wpAnyH_take (i := 1) (oi := ⟨some 13, _, _, _, _, _⟩) (v := .slice B m d) rfl (by kernel_rfl) (by kernel_rfl) (by kernel_rfl) (fun _ _ _ h => h) (Or.inl ⟨by rfl, ?_⟩) hHeld ?_
  · intro ww hS
    try dsimp only at hS
    go_simp
    try with_reducible rfl
    try omega
  try simp only [Act.put, List.setIfInBounds_toArray, List.set_cons_zero, List.set_cons_succ]
  refine wpAnyH_take (i := 3) (oi := ⟨some 15, _, _, _, _, _⟩) (v := .pointer (some ⟨gO, 8, none⟩)) rfl (by kernel_rfl) (by kernel_rfl) (by kernel_rfl) (fun _ _ _ h => h) (Or.inl ⟨by rfl, ?_⟩) hHeld ?_
  · intro ww hS
    try dsimp only at hS
    go_simp
    try with_reducible rfl
    try omega
  try simp only [Act.put, List.setIfInBounds_toArray, List.set_cons_zero, List.set_cons_succ]
  refine wpAnyH_take (i := 4) (oi := ⟨some 16, _, _, _, _, _⟩) (v := .int .i64 6) rfl (by kernel_rfl) (by kernel_rfl) (by kernel_rfl) (fun _ _ _ h => h) (Or.inl ⟨by rfl, ?_⟩) hHeld ?_
  · intro ww hS
    try dsimp only at hS
    have O_8 := (hS).at_ 1 8 rfl (v := .int .i64 6) rfl
    have O_z := (hS).lt 1 rfl
    go_simp
    try with_reducible rfl
    try omega
  try simp only [Act.put, List.setIfInBounds_toArray, List.set_cons_zero, List.set_cons_succ]
  refine wpAnyH_ready (rs := [2]) (by kernel_rfl) (by simp) ?_
  refine AllReadyH.cons (o := ⟨some 14, _, _, _, _, _⟩) rfl (fun K0 hK => ?_) AllReadyH.nil
  go_simp
  refine (gph_any B m d _).mono ?_
  rintro e w3 ⟨gm, kC, kK, rfl, hF, hBC, hBK, ⟨hg1, hg2, hg3⟩, K'⟩
  have Lb := L.lts
  replace L := L.over K'
  replace L := L.cmap Lb hg1 hF
  replace L := L.bkf Lb hg2 hBC
  replace L := L.bkf Lb hg3 hBK
  clear Lb
  try dsimp only [lF, List.cons_append, List.nil_append] at L
  clear hF hBC hBK hg1 hg2 hg3
  refine hK.out _ _ (L.less 3) (fun hHeld' => ?_)
  clear hHeld hK K0
  have hHeld := hHeld'
  clear hHeld'
  clear K'
  try simp only [Act.put, List.setIfInBounds_toArray, List.set_cons_zero, List.set_cons_succ]
  refine wpAnyH_ready (rs := [5]) (by kernel_rfl) (by simp) ?_
  refine AllReadyH.cons (o := ⟨some 17, _, _, _, _, _⟩) rfl (fun K0 hK => ?_) AllReadyH.nil
  have hrun := CMap.look (L.get 2 rfl : CMap (gcap kC kK) _ gm gph_l) Tryz.underlying73 (gph_z _) (k := 6) (by decide) (f := 70) rfl
  simp only [cloV, show gcap kC kK 70 = (kC, kK) from rfl] at hrun
  go_simp
  refine hK.out _ _ hHeld (fun hHeld' => ?_)
  clear hHeld hK K0
  have hHeld := hHeld'
  clear hHeld'
  try simp only [Act.put, List.setIfInBounds_toArray, List.set_cons_zero, List.set_cons_succ]
  clear hrun
  refine wpAnyH_take (i := 6) (oi := ⟨some 11, _, _, _, _, _⟩) (v := ?_) rfl (by kernel_rfl) (by kernel_rfl) (by kernel_rfl) (fun _ _ _ h => h) (Or.inl ⟨by rfl, ?_⟩) hHeld ?_
  rotate_left
  · intro ww hS
    try dsimp only at hS
    go_simp
    try with_reducible rfl
    try omega
  try simp only [Act.put, List.setIfInBounds_toArray, List.set_cons_zero, List.set_cons_succ]
  refine wpAnyH_take (i := 7) (oi := ⟨some 18, _, _, _, _, _⟩) (v := .func (.func 70) #[] #[.pointer (some ⟨kC, 0, none⟩), .pointer (some ⟨kK, 0, none⟩)]) rfl (by kernel_rfl) (by kernel_rfl) (by kernel_rfl) (fun _ _ _ h => h) (Or.inl ⟨by rfl, ?_⟩) hHeld ?_
  · intro ww hS
    try dsimp only at hS
    go_simp
    try with_reducible rfl
    try omega
  try simp only [Act.put, List.setIfInBounds_toArray, List.set_cons_zero, List.set_cons_succ]
  refine wpAnyH_take (i := 8) (oi := ⟨some 19, _, _, _, _, _⟩) (v := .bool true) rfl (by kernel_rfl) (by kernel_rfl) (by kernel_rfl) (fun _ _ _ h => h) (Or.inl ⟨by rfl, ?_⟩) hHeld ?_
  · intro ww hS
    try dsimp only at hS
    go_simp
    try with_reducible rfl
    try omega
  try simp only [Act.put, List.setIfInBounds_toArray, List.set_cons_zero, List.set_cons_succ]
  refine wpAnyH_take (i := 9) (oi := ⟨some 9, _, _, _, _, _⟩) (v := .func (.func 70) #[] #[.pointer (some ⟨kC, 0, none⟩), .pointer (some ⟨kK, 0, none⟩)]) rfl (by kernel_rfl) (by kernel_rfl) (by kernel_rfl) (fun _ _ _ h => h) (Or.inl ⟨by rfl, ?_⟩) hHeld ?_
  · intro ww hS
    try dsimp only at hS
    go_simp
    try with_reducible rfl
    try omega
  try simp only [Act.put, List.setIfInBounds_toArray, List.set_cons_zero, List.set_cons_succ]
  refine wpAnyH_take (i := 10) (oi := ⟨some 10, _, _, _, _, _⟩) (v := .bool true) rfl (by kernel_rfl) (by kernel_rfl) (by kernel_rfl) (fun _ _ _ h => h) (Or.inl ⟨by rfl, ?_⟩) hHeld ?_
  · intro ww hS
    try dsimp only at hS
    go_simp
    try with_reducible rfl
    try omega
  try simp only [Act.put, List.setIfInBounds_toArray, List.set_cons_zero, List.set_cons_succ]
  refine wpAnyH_done (by kernel_rfl) ?_ _
  clear hHeld
  go_wp2_with (refine wpList_load_row rfl 40 (.tmp 5) rfl gO rfl _ _ (0, 0) _ (L.bk_ 1 rfl) Tryz.underlying40 rfl op_sz ?_)
  have KS := L.K.size
  refine ((TK _ _ _ _ _ (hU.below L.K) (hL.below L.K) (L.get 1 rfl) (L.get 0 rfl)).out).mono ?_
  rintro e w4 ⟨h3, B2, d2, rfl, U, L', hA, K'⟩
  have Lb := L.lts
  replace L := L.over K'
  replace L := L.us_av (fun i b e => hA b.1 (Lb i b e) (hU.apart0 hm0 L i b e)) U
  replace L := L.lists Lb L'
  clear Lb
  try dsimp only [lF, List.cons_append, List.nil_append] at L
  clear U L'
  go_wp2_with (refine wpList_store_row rfl 40 (.tmp 7) (.tmp 29) rfl gR _ rfl rfl _ _ (L.bk_ 0 rfl) op_sz rfl (opv_one _ _) ?_)
  replace L := (L.row 0 rfl (opv h3 s2))
  try dsimp only [nput] at L
  generalize (w4).setRow gR (opv h3 s2) = w5 at L ⊢
  refine bodyPost_ret (v := .tuple #[.slice B2 m d2, .agg (opv h3 s2), .bool b2]) ?_ rfl ?_
  · exact results_tct (fn := Tryz.f13) Tryz.results13 _ _ gR _ _ (0, 0) _ rfl (L.bk_ 0 rfl) Tryz.underlying40 rfl op_sz
  exact ⟨_, _, _, rfl, L.us_ 4 rfl, (L.lists_at 0 rfl).lower_ KS, fun k hk => hA k (Nat.lt_of_lt_of_le hk KS), L.K⟩
set_option maxRecDepth 100000 in
set_option maxHeartbeats 2000000 in
theorem gstep7 (ha : a < 4294967296) (hM : Much a p M) (h1 : 1 ≤ ns) (h2 : ns ≤ 64) (hN : N ≤ 60000) (hG : GI M ns zs N s sn) (hY : YI M zs ys) (hU : US w B m d ys) (hL : Lists lo w h (gl sn)) (hph : s.phase = 7) :
    Calls Tryz.prog 13 #[.agg #[.int .u32 (a : Int), .int .i64 p, .slice A n c, .int .i64 (ns : Int), .int .i64 wo, .int .i64 qu, .int .i64 tr], .slice B m d, .agg (opv h s)] w (RetG (gS a M ns ys s sn) (gl (gN M ys s sn)) m (gC M ys s) (gB M ys s sn) B w) := by
  have hm0 : 0 < m := by have := hU.len; have := hY.len; omega
  obtain ⟨s2, hs2⟩ : ∃ s2, s2 = gS a M ns ys s sn := ⟨_, rfl⟩
  obtain ⟨l2, hl2⟩ : ∃ l2, l2 = gl (gN M ys s sn) := ⟨_, rfl⟩
  obtain ⟨y2, hy2⟩ : ∃ y2, y2 = gC M ys s := ⟨_, rfl⟩
  obtain ⟨b2, hb2⟩ : ∃ b2, b2 = gB M ys s sn := ⟨_, rfl⟩
  have TK := fun w lo h kC kK (U : US w B m d ys) (L : Lists lo w h (gl sn)) hC hK => Lib.hid (gcl_sweep (w := w) (lo := lo) (h := h) (s := s) (wo := wo) (qu := qu) (tr := tr) (A := A) (n := n) (c := c) (kC := kC) (kK := kK) ha hM h1 h2 hN hG hY U L hC hK (.inr hph))
  simp only [← hs2, ← hl2, ← hy2, ← hb2] at TK ⊢
  clear hG hY hs2 hl2 ha hM
  clear hy2 hb2
  rcases s with ⟨kind, addr, err, aad, used, phase, shard, sought, leaf, bit, word, full, at_, tries, item, stamp⟩
  rcases h with ⟨A0, n0, c0, A1, n1, c1, A2, n2, c2, A3, n3, c3⟩
  try dsimp only at *
  subst hph
  go_enter Tryz.func13, Tryz.ntmps13
  go_upto_region 1 with (fail)
  have L := Loc.start w
  replace L := (((L).alloc #[.int .u32 (a : Int), .int .i64 p, .slice A n c, .int .i64 (ns : Int), .int .i64 wo, .int .i64 qu, .int .i64 tr] 27).alloc (opv ⟨A0, n0, c0, A1, n1, c1, A2, n2, c2, A3, n3, c3⟩ ⟨kind, addr, err, aad, used, 7, shard, sought, leaf, bit, word, full, at_, tries, item, stamp⟩) 40).alloc #[.int .i64 0, .int .u32 0, .slice none 0 0, .int .i64 0, .int .u32 0, .bool false, .slice none 0 0, .slice none 0 0, .int .i64 0, .int .i64 0, .int .i64 0, .int .i64 0, .int .i64 0, .int .u64 0, .bool false, .slice none 0 0, .int .i64 0, .int .i64 0, .int .i64 0, .int .i64 0] 40
  try simp only [World.size_alloc] at L
  replace L := L.is 0 (opv hd0 sc0) rfl
  try dsimp only [nput] at L
  generalize (((w).alloc (.cells #[.int .u32 (a : Int), .int .i64 p, .slice A n c, .int .i64 (ns : Int), .int .i64 wo, .int .i64 qu, .int .i64 tr] 27)).alloc (.cells (opv ⟨A0, n0, c0, A1, n1, c1, A2, n2, c2, A3, n3, c3⟩ ⟨kind, addr, err, aad, used, 7, shard, sought, leaf, bit, word, full, at_, tries, item, stamp⟩) 40)).alloc (.cells #[.int .i64 0, .int .u32 0, .slice none 0 0, .int .i64 0, .int .u32 0, .bool false, .slice none 0 0, .slice none 0 0, .int .i64 0, .int .i64 0, .int .i64 0, .int .i64 0, .int .i64 0, .int .u64 0, .bool false, .slice none 0 0, .int .i64 0, .int .i64 0, .int .i64 0, .int .i64 0] 40) = w1 at L ⊢
  generalize w.heap.size + 1 + 1 = gR at L ⊢
  generalize w.heap.size + 1 = gO at L ⊢
  generalize w.heap.size = gH at L ⊢
  replace L := L.drew
  refine wp_region_held_drew (S := fun w' => Loc w w' [(gR, 40, opv hd0 sc0), (gO, 40, opv ⟨A0, n0, c0, A1, n1, c1, A2, n2, c2, A3, n3, c3⟩ ⟨kind, addr, err, aad, used, 7, shard, sought, leaf, bit, word, full, at_, tries, item, stamp⟩), (gH, 27, #[.int .u32 (a : Int), .int .i64 p, .slice A n c, .int .i64 (ns : Int), .int .i64 wo, .int .i64 qu, .int .i64 tr])] []) (by kernel_rfl) L (fun hHeld => ?_)
  generalize w1.drew = v2 at hHeld L ⊢
  refine wpAnyH_take (i := 0) (oi := ⟨some 12, _, _, _, _, _⟩) (v := .agg (#[.int .u32 (a : Int), .int .i64 p, .slice A n c, .int .i64 (ns : Int), .int .i64 wo, .int .i64 qu, .int .i64 tr])) rfl (by kernel_rfl) (by kernel_rfl) (by kernel_rfl) (fun _ _ _ h => h) (yieldsIf_load_row (by rfl) 27 (.tmp 3) rfl gH rfl 27 _ (0, 0) _ (fun _ hS => ((hS).bk_ 2 rfl)) Tryz.underlying27 rfl cf_sz) hHeld ?_
  try simp only [Act.put, List.setIfInBounds_toArray, List.set_cons_zero, List.set_cons_succ]
  refine wpAnyH_take (i := 1) (oi := ⟨some 13, _, _, _, _, _⟩) (v := .slice B m d) rfl (by kernel_rfl) (by kernel_rfl) (by kernel_rfl) (fun _ _ _ h => h) (Or.inl ⟨by rfl, ?_⟩) hHeld ?_
  · intro ww hS
    try dsimp only at hS
    go_simp
    try with_reducible rfl
    try omega
  try simp only [Act.put, List.setIfInBounds_toArray, List.set_cons_zero, List.set_cons_succ]
  refine wpAnyH_take (i := 3) (oi := ⟨some 15, _, _, _, _, _⟩) (v := .pointer (some ⟨gO, 8, none⟩)) rfl (by kernel_rfl) (by kernel_rfl) (by kernel_rfl) (fun _ _ _ h => h) (Or.inl ⟨by rfl, ?_⟩) hHeld ?_
  · intro ww hS
    try dsimp only at hS
    go_simp
    try with_reducible rfl
    try omega
  try simp only [Act.put, List.setIfInBounds_toArray, List.set_cons_zero, List.set_cons_succ]
  refine wpAnyH_take (i := 4) (oi := ⟨some 16, _, _, _, _, _⟩) (v := .int .i64 7) rfl (by kernel_rfl) (by kernel_rfl) (by kernel_rfl) (fun _ _ _ h => h) (Or.inl ⟨by rfl, ?_⟩) hHeld ?_
  · intro ww hS
    try dsimp only at hS
    have O_8 := (hS).at_ 1 8 rfl (v := .int .i64 7) rfl
    have O_z := (hS).lt 1 rfl
    go_simp
    try with_reducible rfl
    try omega
  try simp only [Act.put, List.setIfInBounds_toArray, List.set_cons_zero, List.set_cons_succ]
  refine wpAnyH_ready (rs := [2]) (by kernel_rfl) (by simp) ?_
  refine AllReadyH.cons (o := ⟨some 14, _, _, _, _, _⟩) rfl (fun K0 hK => ?_) AllReadyH.nil
  go_simp
  refine (gph_any B m d _).mono ?_
  rintro e w3 ⟨gm, kC, kK, rfl, hF, hBC, hBK, ⟨hg1, hg2, hg3⟩, K'⟩
  have Lb := L.lts
  replace L := L.over K'
  replace L := L.cmap Lb hg1 hF
  replace L := L.bkf Lb hg2 hBC
  replace L := L.bkf Lb hg3 hBK
  clear Lb
  try dsimp only [lF, List.cons_append, List.nil_append] at L
  clear hF hBC hBK hg1 hg2 hg3
  refine hK.out _ _ (L.less 3) (fun hHeld' => ?_)
  clear hHeld hK K0
  have hHeld := hHeld'
  clear hHeld'
  clear K'
  try simp only [Act.put, List.setIfInBounds_toArray, List.set_cons_zero, List.set_cons_succ]
  refine wpAnyH_ready (rs := [5]) (by kernel_rfl) (by simp) ?_
  refine AllReadyH.cons (o := ⟨some 17, _, _, _, _, _⟩) rfl (fun K0 hK => ?_) AllReadyH.nil
  have hrun := CMap.look (L.get 2 rfl : CMap (gcap kC kK) _ gm gph_l) Tryz.underlying73 (gph_z _) (k := 7) (by decide) (f := 70) rfl
  simp only [cloV, show gcap kC kK 70 = (kC, kK) from rfl] at hrun
  go_simp
  refine hK.out _ _ hHeld (fun hHeld' => ?_)
  clear hHeld hK K0
  have hHeld := hHeld'
  clear hHeld'
  try simp only [Act.put, List.setIfInBounds_toArray, List.set_cons_zero, List.set_cons_succ]
  clear hrun
  refine wpAnyH_take (i := 6) (oi := ⟨some 11, _, _, _, _, _⟩) (v := ?_) rfl (by kernel_rfl) (by kernel_rfl) (by kernel_rfl) (fun _ _ _ h => h) (Or.inl ⟨by rfl, ?_⟩) hHeld ?_
  rotate_left
  · intro ww hS
    try dsimp only at hS
    go_simp
    try with_reducible rfl
    try omega
  try simp only [Act.put, List.setIfInBounds_toArray, List.set_cons_zero, List.set_cons_succ]
  refine wpAnyH_take (i := 7) (oi := ⟨some 18, _, _, _, _, _⟩) (v := .func (.func 70) #[] #[.pointer (some ⟨kC, 0, none⟩), .pointer (some ⟨kK, 0, none⟩)]) rfl (by kernel_rfl) (by kernel_rfl) (by kernel_rfl) (fun _ _ _ h => h) (Or.inl ⟨by rfl, ?_⟩) hHeld ?_
  · intro ww hS
    try dsimp only at hS
    go_simp
    try with_reducible rfl
    try omega
  try simp only [Act.put, List.setIfInBounds_toArray, List.set_cons_zero, List.set_cons_succ]
  refine wpAnyH_take (i := 8) (oi := ⟨some 19, _, _, _, _, _⟩) (v := .bool true) rfl (by kernel_rfl) (by kernel_rfl) (by kernel_rfl) (fun _ _ _ h => h) (Or.inl ⟨by rfl, ?_⟩) hHeld ?_
  · intro ww hS
    try dsimp only at hS
    go_simp
    try with_reducible rfl
    try omega
  try simp only [Act.put, List.setIfInBounds_toArray, List.set_cons_zero, List.set_cons_succ]
  refine wpAnyH_take (i := 9) (oi := ⟨some 9, _, _, _, _, _⟩) (v := .func (.func 70) #[] #[.pointer (some ⟨kC, 0, none⟩), .pointer (some ⟨kK, 0, none⟩)]) rfl (by kernel_rfl) (by kernel_rfl) (by kernel_rfl) (fun _ _ _ h => h) (Or.inl ⟨by rfl, ?_⟩) hHeld ?_
  · intro ww hS
    try dsimp only at hS
    go_simp
    try with_reducible rfl
    try omega
  try simp only [Act.put, List.setIfInBounds_toArray, List.set_cons_zero, List.set_cons_succ]
  refine wpAnyH_take (i := 10) (oi := ⟨some 10, _, _, _, _, _⟩) (v := .bool true) rfl (by kernel_rfl) (by kernel_rfl) (by kernel_rfl) (fun _ _ _ h => h) (Or.inl ⟨by rfl, ?_⟩) hHeld ?_
  · intro ww hS
    try dsimp only at hS
    go_simp
    try with_reducible rfl
    try omega
  try simp only [Act.put, List.setIfInBounds_toArray, List.set_cons_zero, List.set_cons_succ]
  refine wpAnyH_done (by kernel_rfl) ?_ _
  clear hHeld
  go_wp2_with (refine wpList_load_row rfl 40 (.tmp 5) rfl gO rfl _ _ (0, 0) _ (L.bk_ 1 rfl) Tryz.underlying40 rfl op_sz ?_)
  have KS := L.K.size
  refine ((TK _ _ _ _ _ (hU.below L.K) (hL.below L.K) (L.get 1 rfl) (L.get 0 rfl)).out).mono ?_
  rintro e w4 ⟨h3, B2, d2, rfl, U, L', hA, K'⟩
  have Lb := L.lts
  replace L := L.over K'
  replace L := L.us_av (fun i b e => hA b.1 (Lb i b e) (hU.apart0 hm0 L i b e)) U
  replace L := L.lists Lb L'
  clear Lb
  try dsimp only [lF, List.cons_append, List.nil_append] at L
  clear U L'
  go_wp2_with (refine wpList_store_row rfl 40 (.tmp 7) (.tmp 29) rfl gR _ rfl rfl _ _ (L.bk_ 0 rfl) op_sz rfl (opv_one _ _) ?_)
  replace L := (L.row 0 rfl (opv h3 s2))
  try dsimp only [nput] at L
  generalize (w4).setRow gR (opv h3 s2) = w5 at L ⊢
  refine bodyPost_ret (v := .tuple #[.slice B2 m d2, .agg (opv h3 s2), .bool b2]) ?_ rfl ?_
  · exact results_tct (fn := Tryz.f13) Tryz.results13 _ _ gR _ _ (0, 0) _ rfl (L.bk_ 0 rfl) Tryz.underlying40 rfl op_sz
  exact ⟨_, _, _, rfl, L.us_ 4 rfl, (L.lists_at 0 rfl).lower_ KS, fun k hk => hA k (Nat.lt_of_lt_of_le hk KS), L.K⟩
theorem gstep_any (ha : a < 4294967296) (hM : Much a p M) (h1 : 1 ≤ ns) (h2 : ns ≤ 64) (hN : N ≤ 60000) (hG : GI M ns zs N s sn) (hY : YI M zs ys) (hU : US w B m d ys) (hL : Lists lo w h (gl sn)) :
    Calls Tryz.prog 13 #[.agg #[.int .u32 (a : Int), .int .i64 p, .slice A n c, .int .i64 (ns : Int), .int .i64 wo, .int .i64 qu, .int .i64 tr], .slice B m d, .agg (opv h s)] w (RetG (gS a M ns ys s sn) (gl (gN M ys s sn)) m (gC M ys s) (gB M ys s sn) B w) := by
  rcases gp_phase hG with h | h | h | h | h | h | h | h
  · exact gstep0 ha hM h1 h2 hN hG hY hU hL h
  · exact gstep1 ha hM h1 h2 hN hG hY hU hL h
  · exact gstep2 ha hM h1 h2 hN hG hY hU hL h
  · exact gstep3 ha hM h1 h2 hN hG hY hU hL h
  · exact gstep4 ha hM h1 h2 hN hG hY hU hL h
  · exact gstep5 ha hM h1 h2 hN hG hY hU hL h
  · exact gstep6 ha hM h1 h2 hN hG hY hU hL h
  · exact gstep7 ha hM h1 h2 hN hG hY hU hL h
end
end Go.Proofs.YtghecdccdmeooaaGreat

/-
  The first cells, in new memory. Conditions: a block that may be.
-/
namespace Go.Proofs.YtghecdccdmeooaaGreat
set_option maxRecDepth 100000
open Go.RowKit
set_option maxHeartbeats 1000000 in
theorem wcells_new {w : World} {lo a M : Nat} {p sh wo qu tr : Int} {A : Option Addr} {n c : Nat} {xs : List Int} (ha : a < 4294967296) (hM : Much a p M) (h : IS .i64 lo w A n c xs) (hn : n ≤ 65536) (hr : risB M 0 xs = true) :
    Calls Tryz.prog 11 #[.agg #[.int .u32 a, .int .i64 p, .slice A n c, .int .i64 sh, .int .i64 wo, .int .i64 qu, .int .i64 tr]] w (RetSM (lv M + tv M + 1) (cl (nw M xs) (lv M) (tv M) (lv M)) w) := by
  have hm := hM.most
  have h1 := lv_le hm
  have h2 := tv_le hm
  have h3 : lv M ≤ 64 * tv M := by unfold tv tq; omega
  have h4 : M ≤ 32 * lv M ∧ 32 * lv M < M + 32 := by unfold lv; omega
  have F := fun w g j ys (B : Blk w g 37 ys) e1 e2 e3 => Lib.hid (wfree_any (M := M) (j := j) B e1 e2 hm e3)
  have T1 := fun w => Lib.hid (cells_any M hm w)
  have T2 := fun w => Lib.hid (leaves_any M hm w)
  have T3 : ∀ w, Hid (Calls Tryz.prog 29 #[.int .i64 64] w fun e w' => e = .returned (.int .u64 (msk 64)) ∧ w = w') := fun w => mask_any 64 (by decide) w
  have hv := nw_lt M xs
  obtain ⟨N, hN⟩ : ∃ N, N = lv M + tv M + 1 := ⟨_, rfl⟩
  rw [← hN] at T1 F ⊢
  obtain ⟨i0, hi, hz0, hz1, hz2⟩ := info_parts u64_info
  have hb8 : i0.bytes * N ≤ 281474976710656 := by rw [hz2]; omega
  have hN2 : N ≤ 3000 := by omega
  generalize lv M = L at *
  generalize tv M = T at *
  have HN := Lib.hid hN
  clear hN
  have K := below_alloc w (.cells #[.int .u32 a, .int .i64 p, .slice A n c, .int .i64 sh, .int .i64 wo, .int .i64 qu, .int .i64 tr] 27)
  have H := Bk.new w #[.int .u32 a, .int .i64 p, .slice A n c, .int .i64 sh, .int .i64 wo, .int .i64 qu, .int .i64 tr] 27
  replace h := h.below K
  go_enter Tryz.func11, Tryz.ntmps11
  go_wp2_with fail
  generalize w.alloc (.cells #[.int .u32 a, .int .i64 p, .slice A n c, .int .i64 sh, .int .i64 wo, .int .i64 qu, .int .i64 tr] 27) = w1 at H K h ⊢
  generalize w.heap.size = g at H ⊢
  refine (many_yes ha hM).mono ?_
  rintro e w2 ⟨rfl, K'⟩
  replace H := H.below K'
  replace h := h.below K'
  replace K := Below.then_ K K'
  clear K'
  go_wp2_with (first
    | ((with_reducible refine ((T1 _).out).mono ?_); rintro e w' ⟨rfl, rfl⟩)
    | ((with_reducible refine ((T2 _).out).mono ?_); rintro e w' ⟨rfl, rfl⟩)
    | (at_make; refine wpList_make_full _ rfl (.tmp 11) (.tmp 11) _ rfl w2.heap.size 37 i0 _ 1 Tryz.underlying38 hi hz0 hz1 .i64 .i64 _ _ N rfl rfl rfl rfl hb8 (by unfold maxLen; omega) (Nat.le_refl _) ?_; intro w3 hown1 hg1; have B := Blk.of_made hown1; clear hown1; have K1 : Below w2.heap.size w2 w3 := (Below.refl _ _).grown hg1 (Nat.le_refl _) (by simp); clear hg1))
  clear hb8 hi hz0 hz1 hz2 T1
  rw [prc_start L] at B
  obtain ⟨g2, hg2⟩ : ∃ x, x = w2.heap.size := ⟨_, rfl⟩
  rw [← hg2] at B ⊢
  have hge : w2.heap.size ≤ g2 := by omega
  clear hg2
  have hg0 : w.heap.size ≤ g2 := Nat.le_trans K.size hge
  go_loopw [5] (fun i wr => ∃ k : Nat, L ≤ k ∧ k ≤ N ∧ i = .int .i64 k ∧ Hid (Blk wr g2 37 (prc L k N)) ∧ Below w2.heap.size w2 wr) (fun i _ => N - (intOf i).toNat)
  case atStart => exact ⟨L, Nat.le_refl _, by have := HN.out; omega, rfl, Lib.hid B, K1⟩
  case round =>
    clear B K1
    obtain ⟨k, hLk, hk, rfl, HB, Kr⟩ := hrel
    by_cases hlt : k < N
    · have c1 := HB.out.cell (i := k) (by rw [prc_len]; omega)
      have f1 := HB.out.frozen k
      have HB2 : Hid (Blk (wr.setCell ⟨g2, k, none⟩ (.int .u64 (msk 64 : Nat))) g2 37 (prc L (k + 1) N)) := by have := HB.out.set_ k (msk 64); rw [prc_step hLk hlt] at this; exact this
      go_wp2_with ((with_reducible refine ((T3 _).out).mono ?_); rintro e w' ⟨rfl, rfl⟩)
      go_roundw
      case rel => exact ⟨k + 1, by omega, by omega, by go_num, HB2, Kr.setCell hge _⟩
      case measure => simp [intOf]; omega
    · obtain rfl : k = N := by omega
      have HB2 : Hid (Blk wr g2 37 (cl (nw M xs) L T 0)) := by have := HB.out; rw [HN.out, prc_end (nw M xs)] at this; exact this
      clear HB
      go_wp2_with ((with_reducible refine ((T2 _).out).mono ?_); rintro e w' ⟨rfl, rfl⟩)
      clear T3 T2 hlt hLk hk
      go_loopw [27] (fun i ws => ∃ j : Nat, j ≤ L ∧ i = .int .i64 j ∧ Hid (Blk ws g2 37 (cl (nw M xs) L T j)) ∧ Below w2.heap.size w2 ws) (fun i _ => L - (intOf i).toNat)
      case atStart => exact ⟨0, Nat.zero_le _, rfl, HB2, Kr⟩
      case round =>
        clear HB2 Kr
        obtain ⟨j, hj, rfl, HB, Kr⟩ := hrel
        replace H := H.below Kr
        replace h := h.below Kr
        have K2 := Below.then_ K Kr
        clear K
        have K := K2
        clear K2
        by_cases hlt : j < L
        · have hjM : 32 * j < M := by omega
          have gH := H.lt
          have H_0 := H.at_ (v := .int .u32 a) 0 rfl
          have H_1 := H.at_ (v := .int .i64 p) 1 rfl
          have H_2 := H.at_ (v := .slice A n c) 2 rfl
          have H_3 := H.at_ (v := .int .i64 sh) 3 rfl
          have H_4 := H.at_ (v := .int .i64 wo) 4 rfl
          have H_5 := H.at_ (v := .int .i64 qu) 5 rfl
          have H_6 := H.at_ (v := .int .i64 tr) 6 rfl
          have H_z := H.lt
          go_wp2_with fail
          refine (wnew_any ha hM h hn hr hjM).mono ?_
          rintro e w6 ⟨rfl, K6⟩
          clear H_0 H_1 H_2 H_3 H_4 H_5 H_6 H_z
          have K' := K6
          replace H := H.below K'
          replace h := h.below K'
          replace Kr := Below.then_ Kr K'
          replace K := Below.then_ K K'
          clear K'
          have B := HB.out.below K6
          clear HB K6
          have B2 := B.set_ j (nw M xs j)
          have c1 := B.cell (i := j) (by rw [cl_len]; omega)
          have f1 := B.frozen j
          have c2 := B2.cell (i := j) (by rw [List.length_set, cl_len]; omega)
          rw [gt_set (by rw [cl_len]; omega), if_pos rfl] at c2
          have V := fun w => Lib.hid (full_any (nw M xs j) (hv j) w)
          have hjT : j / 64 < T := by omega
          have HE : L + T + 1 = k := HN.out.symm
          have hjk : j < k := by omega
          cases hfu : fl (nw M xs j) with
          | true =>
            rw [cl_full hlt hfu] at B2
            rw [hfu] at V
            have HB := Lib.hid B2
            clear B B2 hfu F HE
            have Kx := Kr.setCell (p := ⟨g2, j, none⟩) hge (.int .u64 (nw M xs j : Nat))
            generalize nw M xs j = x at *
            go_wp2_with ((with_reducible refine ((V _).out).mono ?_); rintro e w' ⟨rfl, rfl⟩)
            go_roundw
            case rel => exact ⟨j + 1, by omega, by go_num, HB, Kx⟩
            case measure => simp [intOf]; omega
          | false =>
            have FF := F _ _ j _ B2 (by rw [List.length_set, cl_len]; exact HE) (fit_set (cl_fit hv L T j) j (hv j)) hlt
            rw [gt_set (by rw [cl_len]; omega), gt_set (by rw [cl_len]; omega), if_neg (by omega), if_neg (by omega), gt_cl_top hjT, gt_cl_root, cl_free hlt hjT (by omega) hfu] at FF
            rw [hfu] at V
            clear B B2 hfu F HE
            have Kx := Kr.setCell (p := ⟨g2, j, none⟩) hge (.int .u64 (nw M xs j : Nat))
            generalize nw M xs j = x at *
            go_wp2_with ((with_reducible refine ((V _).out).mono ?_); rintro e w' ⟨rfl, rfl⟩)
            refine ((FF).out).mono ?_
            rintro e w7 ⟨rfl, B7, K7⟩
            go_wp2
            go_roundw
            case rel => exact ⟨j + 1, by omega, by go_num, Lib.hid B7, Kx.trans (K7.mono hge)⟩
            case measure => simp [intOf]; omega
        · obtain rfl : j = L := by omega
          go_wp2
          go_ret
          exact ⟨_, _, rfl, HB.out.us (cl_fit hv _ _ _) (by rw [cl_len]; exact HN.out.symm) (by omega), hg0, K⟩
end Go.Proofs.YtghecdccdmeooaaGreat
