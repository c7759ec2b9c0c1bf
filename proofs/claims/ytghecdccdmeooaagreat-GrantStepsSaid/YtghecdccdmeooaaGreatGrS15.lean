/-
  What the functions that these laws call answer, and what follows of it; conditions: those that each theorem names. In this file: SweepStep, SeekMath2, SeekRun, GrantMath, GrantParts, GrantRef, GrantClo0, GrantClo, GrantStep, WordCellsNew.
-/
import Derived.Test.YtghecdccdmeooaaGreatGrS14
/-
  What sweep.Step answers of a Grant that sweeps. Conditions: a block that may be, a leaf that there is, as many seen as the Phase has.
-/
namespace Go.Proofs.YtghecdccdmeooaaGreat
set_option maxRecDepth 100000
set_option maxRecDepth 100000
open Go.RowKit
set_option linter.unusedVariables false
section
variable {w w1 : World} {lo gPR gPO gPH a M m d tt : Nat} {p sh wo qu tr ph : Int} {A B : Option Addr} {n c : Nat} {sn ys : List Nat} {h : Hd} {s : Sc} {l : Ls}
set_option maxHeartbeats 2000000 in
theorem swstep_found (ha : a < 4294967296) (hM : Much a p M) (hL : Lists lo w h l) (h0 : h.n0 ≤ 65536) (h1 : h.n1 ≤ 65536) (h2 : h.n2 ≤ 65536) (h3 : h.n3 ≤ 65000) (hU : US w B m d ys) (hat : s.at_ = (tt : Int)) (hlm : tt < m) (htl : tt < lv M) (hk : s.kind = 1) (hph : s.phase = 6) (hb : fb (gt ys tt) 32 = true) :
    Calls Tryz.prog 71 #[.agg #[.int .u32 (a : Int), .int .i64 p, .slice A n c, .int .i64 sh, .int .i64 wo, .int .i64 qu, .int .i64 tr], .slice B m d, .agg (opv h s)] w (RetSw w.heap.size (swFc s (gt ys tt) (fi (gt ys tt) 32)) (swNo l) false w) := by
  have TOwn := fun w (L : Lists lo w h l) => Lib.hid (own_any (s := s) L h0 h1 h2 (by omega))
  have TK := fun w A0 c0 A1 c1 A2 c2 A3 c3 (U : US w B m d ys) => Lib.hid (sfirst_found (w := w) (a := a) (p := p) (sh := sh) (wo := wo) (qu := qu) (tr := tr) (A := A) (n := n) (c := c) (h := ⟨A0, h.n0, c0, A1, h.n1, c1, A2, h.n2, c2, A3, h.n3, c3⟩) (s := s) U hat hlm hk hb)
  clear hlm htl hb ha hM
  rcases s with ⟨kind, addr, err, aad, used, phase, shard, sought, leaf, bit, word, full, at_, tries, item, stamp⟩
  rcases h with ⟨A0, n0, c0, A1, n1, c1, A2, n2, c2, A3, n3, c3⟩
  try dsimp only at *
  subst hk hph hat
  go_enter Tryz.func71, Tryz.ntmps71
  go_upto_region 1 with (fail)
  have L := Loc.start w
  replace L := (((L).alloc #[.int .u32 (a : Int), .int .i64 p, .slice A n c, .int .i64 sh, .int .i64 wo, .int .i64 qu, .int .i64 tr] 27).alloc (opv ⟨A0, n0, c0, A1, n1, c1, A2, n2, c2, A3, n3, c3⟩ ⟨1, addr, err, aad, used, 6, shard, sought, leaf, bit, word, full, (tt : Int), tries, item, stamp⟩) 40).alloc #[.int .i64 0, .int .u32 0, .slice none 0 0, .int .i64 0, .int .u32 0, .bool false, .slice none 0 0, .slice none 0 0, .int .i64 0, .int .i64 0, .int .i64 0, .int .i64 0, .int .i64 0, .int .u64 0, .bool false, .slice none 0 0, .int .i64 0, .int .i64 0, .int .i64 0, .int .i64 0] 40
  try simp only [World.size_alloc] at L
  replace L := L.is 0 (opv hd0 sc0) rfl
  try dsimp only [nput] at L
  generalize (((w).alloc (.cells #[.int .u32 (a : Int), .int .i64 p, .slice A n c, .int .i64 sh, .int .i64 wo, .int .i64 qu, .int .i64 tr] 27)).alloc (.cells (opv ⟨A0, n0, c0, A1, n1, c1, A2, n2, c2, A3, n3, c3⟩ ⟨1, addr, err, aad, used, 6, shard, sought, leaf, bit, word, full, (tt : Int), tries, item, stamp⟩) 40)).alloc (.cells #[.int .i64 0, .int .u32 0, .slice none 0 0, .int .i64 0, .int .u32 0, .bool false, .slice none 0 0, .slice none 0 0, .int .i64 0, .int .i64 0, .int .i64 0, .int .i64 0, .int .i64 0, .int .u64 0, .bool false, .slice none 0 0, .int .i64 0, .int .i64 0, .int .i64 0, .int .i64 0] 40) = w1 at L ⊢
  generalize w.heap.size + 1 + 1 = gR at L ⊢
  generalize w.heap.size + 1 = gO at L ⊢
  generalize w.heap.size = gH at L ⊢
  go_wp2_with (refine wpList_load_row rfl 40 (.tmp 5) rfl gO rfl _ _ (0, 0) _ (L.bk_ 1 rfl) Tryz.underlying40 rfl op_sz ?_)
  have KS := L.K.size
  have LbO := L.gs
  refine ((TOwn _ (hL.below L.K)).out).mono ?_
  rintro e w2 ⟨A0', c0', A1', c1', A2', c2', A3', c3', rfl, L', K'⟩
  have Lb := L.lts
  replace L := L.over K'
  replace L := L.lists Lb L'
  replace L := L.sz K'.size
  clear Lb
  try dsimp only [lF, List.cons_append, List.nil_append] at L
  clear L'
  go_upto_region 2 with (refine wpList_store_row rfl 40 (.tmp 5) (.tmp 11) rfl gO _ rfl rfl _ _ (L.bk_ 1 rfl) op_sz rfl (opv_one _ _) ?_)
  replace L := (L.row 1 rfl (opv ⟨A0', n0, c0', A1', n1, c1', A2', n2, c2', A3', n3, c3'⟩ ⟨1, addr, err, aad, used, 6, shard, sought, leaf, bit, word, full, (tt : Int), tries, item, stamp⟩))
  try dsimp only [nput] at L
  generalize (w2).setRow gO (opv ⟨A0', n0, c0', A1', n1, c1', A2', n2, c2', A3', n3, c3'⟩ ⟨1, addr, err, aad, used, 6, shard, sought, leaf, bit, word, full, (tt : Int), tries, item, stamp⟩) = w3 at L ⊢
  replace L := L.drew
  refine wp_region_held_drew (S := fun w' => Loc w w' [(gR, 40, opv hd0 sc0), (gO, 40, opv ⟨A0', n0, c0', A1', n1, c1', A2', n2, c2', A3', n3, c3'⟩ ⟨1, addr, err, aad, used, 6, shard, sought, leaf, bit, word, full, (tt : Int), tries, item, stamp⟩), (gH, 27, #[.int .u32 (a : Int), .int .i64 p, .slice A n c, .int .i64 sh, .int .i64 wo, .int .i64 qu, .int .i64 tr])] [zF w1.heap.size, iF .u32 w1.heap.size A0' n0 c0' l.rqs, iF .u32 w1.heap.size A1' n1 c1' l.ads, iF .i64 w1.heap.size A2' n2 c2' l.ers, iF .u64 w1.heap.size A3' n3 c3' l.ses]) (by kernel_rfl) L (fun hHeld => ?_)
  generalize w3.drew = v4 at hHeld L ⊢
  refine wpAnyH_take (i := 1) (oi := ⟨some 14, _, _, _, _, _⟩) (v := .pointer (some ⟨gO, 0, none⟩)) rfl (by kernel_rfl) (by kernel_rfl) (by kernel_rfl) (fun _ _ _ h => h) (Or.inl ⟨by rfl, ?_⟩) hHeld ?_
  · (intro ww hS; go_simp; try with_reducible rfl; try omega)
  try simp only [Act.put, sA, sZ, sS]
  refine wpAnyH_take (i := 2) (oi := ⟨some 15, _, _, _, _, _⟩) (v := .pointer (some ⟨gO, 0, none⟩)) rfl (by kernel_rfl) (by kernel_rfl) (by kernel_rfl) (fun _ _ _ h => h) (Or.inl ⟨by rfl, ?_⟩) hHeld ?_
  · (intro ww hS; go_simp; try with_reducible rfl; try omega)
  try simp only [Act.put, sA, sZ, sS]
  refine wpAnyH_take (i := 3) (oi := ⟨some 16, _, _, _, _, _⟩) (v := .int .i64 1) rfl (by kernel_rfl) (by kernel_rfl) (by kernel_rfl) (fun _ _ _ h => h) (Or.inl ⟨by rfl, ?_⟩) hHeld ?_
  · intro ww hS
    try dsimp only at hS
    have O_0 := (hS).at_ 1 0 rfl (v := .int .i64 1) rfl
    have O_z := (hS).lt 1 rfl
    go_simp
    try with_reducible rfl
    try omega
  try simp only [Act.put, sA, sZ, sS]
  refine wpAnyH_ready (rs := [0]) (by kernel_rfl) (by simp) ?_
  refine AllReadyH.cons (o := ⟨some 13, _, _, _, _, _⟩) rfl (fun K0 hK => ?_) AllReadyH.nil
  go_simp
  refine (sen_any _).mono ?_
  rintro e w5 ⟨gm, rfl, hF, hgm, K'⟩
  have Lb := L.lts
  replace L := L.over K'
  replace L := L.map_new Lb hgm hF
  clear Lb
  try dsimp only [lF, List.cons_append, List.nil_append] at L
  clear hF hgm
  refine hK.out _ _ (L.less 1) (fun hHeld' => ?_)
  clear hHeld hK K0
  have hHeld := hHeld'
  clear hHeld'
  clear K'
  try simp only [Act.put, sA, sZ, sS]
  refine wpAnyH_ready (rs := [4]) (by kernel_rfl) (by simp) ?_
  refine AllReadyH.cons (o := ⟨some 17, _, _, _, _, _⟩) rfl (fun K0 hK => ?_) AllReadyH.nil
  have hrun := FMap.look (L.get 0 rfl : FMap _ gm sen_l) Tryz.underlying117 (sen_z _) (k := 1) (by decide) (f := 120) rfl
  go_simp
  refine hK.out _ _ hHeld (fun hHeld' => ?_)
  clear hHeld hK K0
  have hHeld := hHeld'
  clear hHeld'
  try simp only [Act.put, sA, sZ, sS]
  clear hrun
  refine wpAnyH_take (i := 5) (oi := ⟨some 12, _, _, _, _, _⟩) (v := ?_) rfl (by kernel_rfl) (by kernel_rfl) (by kernel_rfl) (fun _ _ _ h => h) (Or.inl ⟨by rfl, ?_⟩) hHeld ?_
  rotate_left
  · (intro ww hS; go_simp; try with_reducible rfl; try omega)
  try simp only [Act.put, sA, sZ, sS]
  refine wpAnyH_take (i := 6) (oi := ⟨some 18, _, _, _, _, _⟩) (v := .func (.func 120) #[] #[]) rfl (by kernel_rfl) (by kernel_rfl) (by kernel_rfl) (fun _ _ _ h => h) (Or.inl ⟨by rfl, ?_⟩) hHeld ?_
  · (intro ww hS; go_simp; try with_reducible rfl; try omega)
  try simp only [Act.put, sA, sZ, sS]
  refine wpAnyH_take (i := 7) (oi := ⟨some 19, _, _, _, _, _⟩) (v := .bool true) rfl (by kernel_rfl) (by kernel_rfl) (by kernel_rfl) (fun _ _ _ h => h) (Or.inl ⟨by rfl, ?_⟩) hHeld ?_
  · (intro ww hS; go_simp; try with_reducible rfl; try omega)
  try simp only [Act.put, sA, sZ, sS]
  refine wpAnyH_take (i := 8) (oi := ⟨some 8, _, _, _, _, _⟩) (v := .func (.func 120) #[] #[]) rfl (by kernel_rfl) (by kernel_rfl) (by kernel_rfl) (fun _ _ _ h => h) (Or.inl ⟨by rfl, ?_⟩) hHeld ?_
  · (intro ww hS; go_simp; try with_reducible rfl; try omega)
  try simp only [Act.put, sA, sZ, sS]
  refine wpAnyH_take (i := 9) (oi := ⟨some 9, _, _, _, _, _⟩) (v := .bool true) rfl (by kernel_rfl) (by kernel_rfl) (by kernel_rfl) (fun _ _ _ h => h) (Or.inl ⟨by rfl, ?_⟩) hHeld ?_
  · (intro ww hS; go_simp; try with_reducible rfl; try omega)
  try simp only [Act.put, sA, sZ, sS]
  refine wpAnyH_done (by kernel_rfl) ?_ _
  clear hHeld
  have O_8 := L.at_ 1 8 rfl (v := .int .i64 6) rfl
  have O_z := L.lt 1 rfl
  go_wp2_with (first | (refine wpList_load_row rfl 27 (.tmp 3) rfl gH rfl _ _ (0, 0) _ (L.bk_ 2 rfl) Tryz.underlying27 rfl cf_sz ?_) | (refine wpList_load_row rfl 40 (.tmp 5) rfl gO rfl _ _ (0, 0) _ (L.bk_ 1 rfl) Tryz.underlying40 rfl op_sz ?_))
  refine ((TK _ _ _ _ _ _ _ _ _ (hU.below L.K)).out).mono ?_
  rintro e w6 ⟨rfl, K'⟩
  clear O_8 O_z
  replace L := L.over K'
  go_wp2_with (refine wpList_store_row rfl 40 (.tmp 6) (.tmp 30) rfl gR _ rfl rfl _ _ (L.bk_ 0 rfl) op_sz rfl (opv_one _ _) ?_)
  replace L := (L.row 0 rfl (opv (swH ⟨A0', n0, c0', A1', n1, c1', A2', n2, c2', A3', n3, c3'⟩) (swFc ⟨1, addr, err, aad, used, 6, shard, sought, leaf, bit, word, full, (tt : Int), tries, item, stamp⟩ (gt ys tt) (fi (gt ys tt) 32))))
  try dsimp only [nput] at L
  generalize (w6).setRow gR (opv (swH ⟨A0', n0, c0', A1', n1, c1', A2', n2, c2', A3', n3, c3'⟩) (swFc ⟨1, addr, err, aad, used, 6, shard, sought, leaf, bit, word, full, (tt : Int), tries, item, stamp⟩ (gt ys tt) (fi (gt ys tt) 32))) = w7 at L ⊢
  refine bodyPost_ret (v := .tuple #[.agg (opv (swH ⟨A0', n0, c0', A1', n1, c1', A2', n2, c2', A3', n3, c3'⟩) (swFc ⟨1, addr, err, aad, used, 6, shard, sought, leaf, bit, word, full, (tt : Int), tries, item, stamp⟩ (gt ys tt) (fi (gt ys tt) 32))), .bool false]) ?_ rfl ?_
  · exact results_ct (fn := Tryz.f71) Tryz.results71 _ _ gR _ _ (0, 0) _ rfl (L.bk_ 0 rfl) Tryz.underlying40 rfl op_sz
  exact ⟨_, rfl, swLists ((L.lists_at 2 rfl).lower_ KS), L.K⟩
set_option maxHeartbeats 2000000 in
theorem swstep_mv (ha : a < 4294967296) (hM : Much a p M) (hL : Lists lo w h l) (h0 : h.n0 ≤ 65536) (h1 : h.n1 ≤ 65536) (h2 : h.n2 ≤ 65536) (h3 : h.n3 ≤ 65000) (hU : US w B m d ys) (hat : s.at_ = (tt : Int)) (hlm : tt < m) (htl : tt < lv M) (hk : s.kind = 1) (hph : s.phase = 6) (hb : fb (gt ys tt) 32 = false) (hlt : tt + 1 < lv M) :
    Calls Tryz.prog 71 #[.agg #[.int .u32 (a : Int), .int .i64 p, .slice A n c, .int .i64 sh, .int .i64 wo, .int .i64 qu, .int .i64 tr], .slice B m d, .agg (opv h s)] w (RetSw w.heap.size (swMv s) (⟨l.rqs, l.ads, l.ers, l.ses ++ [((gt ys tt : Nat) : Int)]⟩) false w) := by
  have TOwn := fun w (L : Lists lo w h l) => Lib.hid (own_seen (s := s) L h0 h1 h2 (by omega))
  have TK := fun w1 gPR gPO gPH lo A0 c0 A1 c1 A2 c2 A3 c3 (L : Loc w w1 [(gPR, 40, opv hd0 sc0), (gPO, 40, opv ⟨A0, h.n0, c0, A1, h.n1, c1, A2, h.n2, c2, A3, h.n3, c3⟩ s), (gPH, 27, #[.int .u32 (a : Int), .int .i64 p, .slice A n c, .int .i64 sh, .int .i64 wo, .int .i64 qu, .int .i64 tr])] [rF .u64 37 lo A3 h.n3 c3 l.ses, iF .u32 lo A0 h.n0 c0 l.rqs, iF .u32 lo A1 h.n1 c1 l.ads, iF .i64 lo A2 h.n2 c2 l.ers, zF lo]) (hs0 : SepF (.slice A3 h.n3 c3) (iF .u32 lo A0 h.n0 c0 l.rqs)) (hs1 : SepF (.slice A3 h.n3 c3) (iF .u32 lo A1 h.n1 c1 l.ads)) (hs2 : SepF (.slice A3 h.n3 c3) (iF .i64 lo A2 h.n2 c2 l.ers)) (hlo : w.heap.size ≤ lo) => Lib.hid (sfirst_mv (h := ⟨A0, h.n0, c0, A1, h.n1, c1, A2, h.n2, c2, A3, h.n3, c3⟩) (s := s) ha hM L hs0 hs1 hs2 hlo hU hat hlm hk h3 htl hb hlt)
  clear hlm htl hb ha hM hlt
  rcases s with ⟨kind, addr, err, aad, used, phase, shard, sought, leaf, bit, word, full, at_, tries, item, stamp⟩
  rcases h with ⟨A0, n0, c0, A1, n1, c1, A2, n2, c2, A3, n3, c3⟩
  try dsimp only at *
  subst hk hph hat
  go_enter Tryz.func71, Tryz.ntmps71
  go_upto_region 1 with (fail)
  have L := Loc.start w
  replace L := (((L).alloc #[.int .u32 (a : Int), .int .i64 p, .slice A n c, .int .i64 sh, .int .i64 wo, .int .i64 qu, .int .i64 tr] 27).alloc (opv ⟨A0, n0, c0, A1, n1, c1, A2, n2, c2, A3, n3, c3⟩ ⟨1, addr, err, aad, used, 6, shard, sought, leaf, bit, word, full, (tt : Int), tries, item, stamp⟩) 40).alloc #[.int .i64 0, .int .u32 0, .slice none 0 0, .int .i64 0, .int .u32 0, .bool false, .slice none 0 0, .slice none 0 0, .int .i64 0, .int .i64 0, .int .i64 0, .int .i64 0, .int .i64 0, .int .u64 0, .bool false, .slice none 0 0, .int .i64 0, .int .i64 0, .int .i64 0, .int .i64 0] 40
  try simp only [World.size_alloc] at L
  replace L := L.is 0 (opv hd0 sc0) rfl
  try dsimp only [nput] at L
  generalize (((w).alloc (.cells #[.int .u32 (a : Int), .int .i64 p, .slice A n c, .int .i64 sh, .int .i64 wo, .int .i64 qu, .int .i64 tr] 27)).alloc (.cells (opv ⟨A0, n0, c0, A1, n1, c1, A2, n2, c2, A3, n3, c3⟩ ⟨1, addr, err, aad, used, 6, shard, sought, leaf, bit, word, full, (tt : Int), tries, item, stamp⟩) 40)).alloc (.cells #[.int .i64 0, .int .u32 0, .slice none 0 0, .int .i64 0, .int .u32 0, .bool false, .slice none 0 0, .slice none 0 0, .int .i64 0, .int .i64 0, .int .i64 0, .int .i64 0, .int .i64 0, .int .u64 0, .bool false, .slice none 0 0, .int .i64 0, .int .i64 0, .int .i64 0, .int .i64 0] 40) = w1 at L ⊢
  generalize w.heap.size + 1 + 1 = gR at L ⊢
  generalize w.heap.size + 1 = gO at L ⊢
  generalize w.heap.size = gH at L ⊢
  go_wp2_with (refine wpList_load_row rfl 40 (.tmp 5) rfl gO rfl _ _ (0, 0) _ (L.bk_ 1 rfl) Tryz.underlying40 rfl op_sz ?_)
  have KS := L.K.size
  have LbO := L.gs
  refine ((TOwn _ (hL.below L.K)).out).mono ?_
  rintro e w2 ⟨A0', c0', A1', c1', A2', c2', A3', c3', rfl, I0, I1, I2, R3, hs0, hs1, hs2, K'⟩
  have Lb := L.lts
  replace L := L.over K'
  replace L := L.sz K'.size
  replace L := L.is_new Lb I2
  replace L := L.is_new Lb I1
  replace L := L.is_new Lb I0
  replace L := L.ri_new Lb R3
  clear Lb
  try dsimp only [lF, List.cons_append, List.nil_append] at L
  clear I0 I1 I2 R3
  go_upto_region 2 with (refine wpList_store_row rfl 40 (.tmp 5) (.tmp 11) rfl gO _ rfl rfl _ _ (L.bk_ 1 rfl) op_sz rfl (opv_one _ _) ?_)
  replace L := (L.row 1 rfl (opv ⟨A0', n0, c0', A1', n1, c1', A2', n2, c2', A3', n3, c3'⟩ ⟨1, addr, err, aad, used, 6, shard, sought, leaf, bit, word, full, (tt : Int), tries, item, stamp⟩))
  try dsimp only [nput] at L
  generalize (w2).setRow gO (opv ⟨A0', n0, c0', A1', n1, c1', A2', n2, c2', A3', n3, c3'⟩ ⟨1, addr, err, aad, used, 6, shard, sought, leaf, bit, word, full, (tt : Int), tries, item, stamp⟩) = w3 at L ⊢
  replace L := L.drew
  refine wp_region_held_drew (S := fun w' => Loc w w' [(gR, 40, opv hd0 sc0), (gO, 40, opv ⟨A0', n0, c0', A1', n1, c1', A2', n2, c2', A3', n3, c3'⟩ ⟨1, addr, err, aad, used, 6, shard, sought, leaf, bit, word, full, (tt : Int), tries, item, stamp⟩), (gH, 27, #[.int .u32 (a : Int), .int .i64 p, .slice A n c, .int .i64 sh, .int .i64 wo, .int .i64 qu, .int .i64 tr])] [rF .u64 37 w1.heap.size A3' n3 c3' l.ses, iF .u32 w1.heap.size A0' n0 c0' l.rqs, iF .u32 w1.heap.size A1' n1 c1' l.ads, iF .i64 w1.heap.size A2' n2 c2' l.ers, zF w1.heap.size]) (by kernel_rfl) L (fun hHeld => ?_)
  generalize w3.drew = v4 at hHeld L ⊢
  refine wpAnyH_take (i := 1) (oi := ⟨some 14, _, _, _, _, _⟩) (v := .pointer (some ⟨gO, 0, none⟩)) rfl (by kernel_rfl) (by kernel_rfl) (by kernel_rfl) (fun _ _ _ h => h) (Or.inl ⟨by rfl, ?_⟩) hHeld ?_
  · (intro ww hS; go_simp; try with_reducible rfl; try omega)
  try simp only [Act.put, sA, sZ, sS]
  refine wpAnyH_take (i := 2) (oi := ⟨some 15, _, _, _, _, _⟩) (v := .pointer (some ⟨gO, 0, none⟩)) rfl (by kernel_rfl) (by kernel_rfl) (by kernel_rfl) (fun _ _ _ h => h) (Or.inl ⟨by rfl, ?_⟩) hHeld ?_
  · (intro ww hS; go_simp; try with_reducible rfl; try omega)
  try simp only [Act.put, sA, sZ, sS]
  refine wpAnyH_take (i := 3) (oi := ⟨some 16, _, _, _, _, _⟩) (v := .int .i64 1) rfl (by kernel_rfl) (by kernel_rfl) (by kernel_rfl) (fun _ _ _ h => h) (Or.inl ⟨by rfl, ?_⟩) hHeld ?_
  · intro ww hS
    try dsimp only at hS
    have O_0 := (hS).at_ 1 0 rfl (v := .int .i64 1) rfl
    have O_z := (hS).lt 1 rfl
    go_simp
    try with_reducible rfl
    try omega
  try simp only [Act.put, sA, sZ, sS]
  refine wpAnyH_ready (rs := [0]) (by kernel_rfl) (by simp) ?_
  refine AllReadyH.cons (o := ⟨some 13, _, _, _, _, _⟩) rfl (fun K0 hK => ?_) AllReadyH.nil
  go_simp
  refine (sen_any _).mono ?_
  rintro e w5 ⟨gm, rfl, hF, hgm, K'⟩
  have Lb := L.lts
  replace L := L.over K'
  replace L := L.map_new Lb hgm hF
  clear Lb
  try dsimp only [lF, List.cons_append, List.nil_append] at L
  clear hF hgm
  refine hK.out _ _ (L.less 1) (fun hHeld' => ?_)
  clear hHeld hK K0
  have hHeld := hHeld'
  clear hHeld'
  clear K'
  try simp only [Act.put, sA, sZ, sS]
  refine wpAnyH_ready (rs := [4]) (by kernel_rfl) (by simp) ?_
  refine AllReadyH.cons (o := ⟨some 17, _, _, _, _, _⟩) rfl (fun K0 hK => ?_) AllReadyH.nil
  have hrun := FMap.look (L.get 0 rfl : FMap _ gm sen_l) Tryz.underlying117 (sen_z _) (k := 1) (by decide) (f := 120) rfl
  go_simp
  refine hK.out _ _ hHeld (fun hHeld' => ?_)
  clear hHeld hK K0
  have hHeld := hHeld'
  clear hHeld'
  try simp only [Act.put, sA, sZ, sS]
  clear hrun
  refine wpAnyH_take (i := 5) (oi := ⟨some 12, _, _, _, _, _⟩) (v := ?_) rfl (by kernel_rfl) (by kernel_rfl) (by kernel_rfl) (fun _ _ _ h => h) (Or.inl ⟨by rfl, ?_⟩) hHeld ?_
  rotate_left
  · (intro ww hS; go_simp; try with_reducible rfl; try omega)
  try simp only [Act.put, sA, sZ, sS]
  refine wpAnyH_take (i := 6) (oi := ⟨some 18, _, _, _, _, _⟩) (v := .func (.func 120) #[] #[]) rfl (by kernel_rfl) (by kernel_rfl) (by kernel_rfl) (fun _ _ _ h => h) (Or.inl ⟨by rfl, ?_⟩) hHeld ?_
  · (intro ww hS; go_simp; try with_reducible rfl; try omega)
  try simp only [Act.put, sA, sZ, sS]
  refine wpAnyH_take (i := 7) (oi := ⟨some 19, _, _, _, _, _⟩) (v := .bool true) rfl (by kernel_rfl) (by kernel_rfl) (by kernel_rfl) (fun _ _ _ h => h) (Or.inl ⟨by rfl, ?_⟩) hHeld ?_
  · (intro ww hS; go_simp; try with_reducible rfl; try omega)
  try simp only [Act.put, sA, sZ, sS]
  refine wpAnyH_take (i := 8) (oi := ⟨some 8, _, _, _, _, _⟩) (v := .func (.func 120) #[] #[]) rfl (by kernel_rfl) (by kernel_rfl) (by kernel_rfl) (fun _ _ _ h => h) (Or.inl ⟨by rfl, ?_⟩) hHeld ?_
  · (intro ww hS; go_simp; try with_reducible rfl; try omega)
  try simp only [Act.put, sA, sZ, sS]
  refine wpAnyH_take (i := 9) (oi := ⟨some 9, _, _, _, _, _⟩) (v := .bool true) rfl (by kernel_rfl) (by kernel_rfl) (by kernel_rfl) (fun _ _ _ h => h) (Or.inl ⟨by rfl, ?_⟩) hHeld ?_
  · (intro ww hS; go_simp; try with_reducible rfl; try omega)
  try simp only [Act.put, sA, sZ, sS]
  refine wpAnyH_done (by kernel_rfl) ?_ _
  clear hHeld
  have O_8 := L.at_ 1 8 rfl (v := .int .i64 6) rfl
  have O_z := L.lt 1 rfl
  go_wp2_with (first | (refine wpList_load_row rfl 27 (.tmp 3) rfl gH rfl _ _ (0, 0) _ (L.bk_ 2 rfl) Tryz.underlying27 rfl cf_sz ?_) | (refine wpList_load_row rfl 40 (.tmp 5) rfl gO rfl _ _ (0, 0) _ (L.bk_ 1 rfl) Tryz.underlying40 rfl op_sz ?_))
  refine ((TK _ _ _ _ _ _ _ _ _ _ _ _ _ (L.less 1) hs0 hs1 hs2 KS).out).mono ?_
  rintro e w6 ⟨h3, rfl, L', LN⟩
  clear O_8 O_z
  replace L := LN.lists' LbO L'
  try dsimp only [lF, List.cons_append, List.nil_append] at L
  clear LN L'
  go_wp2_with (refine wpList_store_row rfl 40 (.tmp 6) (.tmp 30) rfl gR _ rfl rfl _ _ (L.bk_ 0 rfl) op_sz rfl (opv_one _ _) ?_)
  replace L := (L.row 0 rfl (opv h3 (swMv ⟨1, addr, err, aad, used, 6, shard, sought, leaf, bit, word, full, (tt : Int), tries, item, stamp⟩)))
  try dsimp only [nput] at L
  generalize (w6).setRow gR (opv h3 (swMv ⟨1, addr, err, aad, used, 6, shard, sought, leaf, bit, word, full, (tt : Int), tries, item, stamp⟩)) = w7 at L ⊢
  refine bodyPost_ret (v := .tuple #[.agg (opv h3 (swMv ⟨1, addr, err, aad, used, 6, shard, sought, leaf, bit, word, full, (tt : Int), tries, item, stamp⟩)), .bool false]) ?_ rfl ?_
  · exact results_ct (fn := Tryz.f71) Tryz.results71 _ _ gR _ _ (0, 0) _ rfl (L.bk_ 0 rfl) Tryz.underlying40 rfl op_sz
  exact ⟨_, rfl, (L.lists_at 0 rfl).lower_ KS, L.K⟩
set_option maxHeartbeats 2000000 in
theorem swstep_ag (ha : a < 4294967296) (hM : Much a p M) (hL : Lists lo w h l) (h0 : h.n0 ≤ 65536) (h1 : h.n1 ≤ 65536) (h2 : h.n2 ≤ 65536) (h3 : h.n3 ≤ 65000) (hU : US w B m d ys) (hat : s.at_ = (tt : Int)) (hlm : tt < m) (htl : tt < lv M) (hk : s.kind = 1) (hph : s.phase = 6) (hb : fb (gt ys tt) 32 = false) (hlt : ¬ tt + 1 < lv M) :
    Calls Tryz.prog 71 #[.agg #[.int .u32 (a : Int), .int .i64 p, .slice A n c, .int .i64 sh, .int .i64 wo, .int .i64 qu, .int .i64 tr], .slice B m d, .agg (opv h s)] w (RetSw w.heap.size (swAg s) (⟨l.rqs, l.ads, l.ers, l.ses ++ [((gt ys tt : Nat) : Int)]⟩) false w) := by
  have TOwn := fun w (L : Lists lo w h l) => Lib.hid (own_seen (s := s) L h0 h1 h2 (by omega))
  have TK := fun w1 gPR gPO gPH lo A0 c0 A1 c1 A2 c2 A3 c3 (L : Loc w w1 [(gPR, 40, opv hd0 sc0), (gPO, 40, opv ⟨A0, h.n0, c0, A1, h.n1, c1, A2, h.n2, c2, A3, h.n3, c3⟩ s), (gPH, 27, #[.int .u32 (a : Int), .int .i64 p, .slice A n c, .int .i64 sh, .int .i64 wo, .int .i64 qu, .int .i64 tr])] [rF .u64 37 lo A3 h.n3 c3 l.ses, iF .u32 lo A0 h.n0 c0 l.rqs, iF .u32 lo A1 h.n1 c1 l.ads, iF .i64 lo A2 h.n2 c2 l.ers, zF lo]) (hs0 : SepF (.slice A3 h.n3 c3) (iF .u32 lo A0 h.n0 c0 l.rqs)) (hs1 : SepF (.slice A3 h.n3 c3) (iF .u32 lo A1 h.n1 c1 l.ads)) (hs2 : SepF (.slice A3 h.n3 c3) (iF .i64 lo A2 h.n2 c2 l.ers)) (hlo : w.heap.size ≤ lo) => Lib.hid (sfirst_ag (h := ⟨A0, h.n0, c0, A1, h.n1, c1, A2, h.n2, c2, A3, h.n3, c3⟩) (s := s) ha hM L hs0 hs1 hs2 hlo hU hat hlm hk h3 htl hb hlt)
  clear hlm htl hb ha hM hlt
  rcases s with ⟨kind, addr, err, aad, used, phase, shard, sought, leaf, bit, word, full, at_, tries, item, stamp⟩
  rcases h with ⟨A0, n0, c0, A1, n1, c1, A2, n2, c2, A3, n3, c3⟩
  try dsimp only at *
  subst hk hph hat
  go_enter Tryz.func71, Tryz.ntmps71
  go_upto_region 1 with (fail)
  have L := Loc.start w
  replace L := (((L).alloc #[.int .u32 (a : Int), .int .i64 p, .slice A n c, .int .i64 sh, .int .i64 wo, .int .i64 qu, .int .i64 tr] 27).alloc (opv ⟨A0, n0, c0, A1, n1, c1, A2, n2, c2, A3, n3, c3⟩ ⟨1, addr, err, aad, used, 6, shard, sought, leaf, bit, word, full, (tt : Int), tries, item, stamp⟩) 40).alloc #[.int .i64 0, .int .u32 0, .slice none 0 0, .int .i64 0, .int .u32 0, .bool false, .slice none 0 0, .slice none 0 0, .int .i64 0, .int .i64 0, .int .i64 0, .int .i64 0, .int .i64 0, .int .u64 0, .bool false, .slice none 0 0, .int .i64 0, .int .i64 0, .int .i64 0, .int .i64 0] 40
  try simp only [World.size_alloc] at L
  replace L := L.is 0 (opv hd0 sc0) rfl
  try dsimp only [nput] at L
  generalize (((w).alloc (.cells #[.int .u32 (a : Int), .int .i64 p, .slice A n c, .int .i64 sh, .int .i64 wo, .int .i64 qu, .int .i64 tr] 27)).alloc (.cells (opv ⟨A0, n0, c0, A1, n1, c1, A2, n2, c2, A3, n3, c3⟩ ⟨1, addr, err, aad, used, 6, shard, sought, leaf, bit, word, full, (tt : Int), tries, item, stamp⟩) 40)).alloc (.cells #[.int .i64 0, .int .u32 0, .slice none 0 0, .int .i64 0, .int .u32 0, .bool false, .slice none 0 0, .slice none 0 0, .int .i64 0, .int .i64 0, .int .i64 0, .int .i64 0, .int .i64 0, .int .u64 0, .bool false, .slice none 0 0, .int .i64 0, .int .i64 0, .int .i64 0, .int .i64 0] 40) = w1 at L ⊢
  generalize w.heap.size + 1 + 1 = gR at L ⊢
  generalize w.heap.size + 1 = gO at L ⊢
  generalize w.heap.size = gH at L ⊢
  go_wp2_with (refine wpList_load_row rfl 40 (.tmp 5) rfl gO rfl _ _ (0, 0) _ (L.bk_ 1 rfl) Tryz.underlying40 rfl op_sz ?_)
  have KS := L.K.size
  have LbO := L.gs
  refine ((TOwn _ (hL.below L.K)).out).mono ?_
  rintro e w2 ⟨A0', c0', A1', c1', A2', c2', A3', c3', rfl, I0, I1, I2, R3, hs0, hs1, hs2, K'⟩
  have Lb := L.lts
  replace L := L.over K'
  replace L := L.sz K'.size
  replace L := L.is_new Lb I2
  replace L := L.is_new Lb I1
  replace L := L.is_new Lb I0
  replace L := L.ri_new Lb R3
  clear Lb
  try dsimp only [lF, List.cons_append, List.nil_append] at L
  clear I0 I1 I2 R3
  go_upto_region 2 with (refine wpList_store_row rfl 40 (.tmp 5) (.tmp 11) rfl gO _ rfl rfl _ _ (L.bk_ 1 rfl) op_sz rfl (opv_one _ _) ?_)
  replace L := (L.row 1 rfl (opv ⟨A0', n0, c0', A1', n1, c1', A2', n2, c2', A3', n3, c3'⟩ ⟨1, addr, err, aad, used, 6, shard, sought, leaf, bit, word, full, (tt : Int), tries, item, stamp⟩))
  try dsimp only [nput] at L
  generalize (w2).setRow gO (opv ⟨A0', n0, c0', A1', n1, c1', A2', n2, c2', A3', n3, c3'⟩ ⟨1, addr, err, aad, used, 6, shard, sought, leaf, bit, word, full, (tt : Int), tries, item, stamp⟩) = w3 at L ⊢
  replace L := L.drew
  refine wp_region_held_drew (S := fun w' => Loc w w' [(gR, 40, opv hd0 sc0), (gO, 40, opv ⟨A0', n0, c0', A1', n1, c1', A2', n2, c2', A3', n3, c3'⟩ ⟨1, addr, err, aad, used, 6, shard, sought, leaf, bit, word, full, (tt : Int), tries, item, stamp⟩), (gH, 27, #[.int .u32 (a : Int), .int .i64 p, .slice A n c, .int .i64 sh, .int .i64 wo, .int .i64 qu, .int .i64 tr])] [rF .u64 37 w1.heap.size A3' n3 c3' l.ses, iF .u32 w1.heap.size A0' n0 c0' l.rqs, iF .u32 w1.heap.size A1' n1 c1' l.ads, iF .i64 w1.heap.size A2' n2 c2' l.ers, zF w1.heap.size]) (by kernel_rfl) L (fun hHeld => ?_)
  generalize w3.drew = v4 at hHeld L ⊢
  refine wpAnyH_take (i := 1) (oi := ⟨some 14, _, _, _, _, _⟩) (v := .pointer (some ⟨gO, 0, none⟩)) rfl (by kernel_rfl) (by kernel_rfl) (by kernel_rfl) (fun _ _ _ h => h) (Or.inl ⟨by rfl, ?_⟩) hHeld ?_
  · (intro ww hS; go_simp; try with_reducible rfl; try omega)
  try simp only [Act.put, sA, sZ, sS]
  refine wpAnyH_take (i := 2) (oi := ⟨some 15, _, _, _, _, _⟩) (v := .pointer (some ⟨gO, 0, none⟩)) rfl (by kernel_rfl) (by kernel_rfl) (by kernel_rfl) (fun _ _ _ h => h) (Or.inl ⟨by rfl, ?_⟩) hHeld ?_
  · (intro ww hS; go_simp; try with_reducible rfl; try omega)
  try simp only [Act.put, sA, sZ, sS]
  refine wpAnyH_take (i := 3) (oi := ⟨some 16, _, _, _, _, _⟩) (v := .int .i64 1) rfl (by kernel_rfl) (by kernel_rfl) (by kernel_rfl) (fun _ _ _ h => h) (Or.inl ⟨by rfl, ?_⟩) hHeld ?_
  · intro ww hS
    try dsimp only at hS
    have O_0 := (hS).at_ 1 0 rfl (v := .int .i64 1) rfl
    have O_z := (hS).lt 1 rfl
    go_simp
    try with_reducible rfl
    try omega
  try simp only [Act.put, sA, sZ, sS]
  refine wpAnyH_ready (rs := [0]) (by kernel_rfl) (by simp) ?_
  refine AllReadyH.cons (o := ⟨some 13, _, _, _, _, _⟩) rfl (fun K0 hK => ?_) AllReadyH.nil
  go_simp
  refine (sen_any _).mono ?_
  rintro e w5 ⟨gm, rfl, hF, hgm, K'⟩
  have Lb := L.lts
  replace L := L.over K'
  replace L := L.map_new Lb hgm hF
  clear Lb
  try dsimp only [lF, List.cons_append, List.nil_append] at L
  clear hF hgm
  refine hK.out _ _ (L.less 1) (fun hHeld' => ?_)
  clear hHeld hK K0
  have hHeld := hHeld'
  clear hHeld'
  clear K'
  try simp only [Act.put, sA, sZ, sS]
  refine wpAnyH_ready (rs := [4]) (by kernel_rfl) (by simp) ?_
  refine AllReadyH.cons (o := ⟨some 17, _, _, _, _, _⟩) rfl (fun K0 hK => ?_) AllReadyH.nil
  have hrun := FMap.look (L.get 0 rfl : FMap _ gm sen_l) Tryz.underlying117 (sen_z _) (k := 1) (by decide) (f := 120) rfl
  go_simp
  refine hK.out _ _ hHeld (fun hHeld' => ?_)
  clear hHeld hK K0
  have hHeld := hHeld'
  clear hHeld'
  try simp only [Act.put, sA, sZ, sS]
  clear hrun
  refine wpAnyH_take (i := 5) (oi := ⟨some 12, _, _, _, _, _⟩) (v := ?_) rfl (by kernel_rfl) (by kernel_rfl) (by kernel_rfl) (fun _ _ _ h => h) (Or.inl ⟨by rfl, ?_⟩) hHeld ?_
  rotate_left
  · (intro ww hS; go_simp; try with_reducible rfl; try omega)
  try simp only [Act.put, sA, sZ, sS]
  refine wpAnyH_take (i := 6) (oi := ⟨some 18, _, _, _, _, _⟩) (v := .func (.func 120) #[] #[]) rfl (by kernel_rfl) (by kernel_rfl) (by kernel_rfl) (fun _ _ _ h => h) (Or.inl ⟨by rfl, ?_⟩) hHeld ?_
  · (intro ww hS; go_simp; try with_reducible rfl; try omega)
  try simp only [Act.put, sA, sZ, sS]
  refine wpAnyH_take (i := 7) (oi := ⟨some 19, _, _, _, _, _⟩) (v := .bool true) rfl (by kernel_rfl) (by kernel_rfl) (by kernel_rfl) (fun _ _ _ h => h) (Or.inl ⟨by rfl, ?_⟩) hHeld ?_
  · (intro ww hS; go_simp; try with_reducible rfl; try omega)
  try simp only [Act.put, sA, sZ, sS]
  refine wpAnyH_take (i := 8) (oi := ⟨some 8, _, _, _, _, _⟩) (v := .func (.func 120) #[] #[]) rfl (by kernel_rfl) (by kernel_rfl) (by kernel_rfl) (fun _ _ _ h => h) (Or.inl ⟨by rfl, ?_⟩) hHeld ?_
  · (intro ww hS; go_simp; try with_reducible rfl; try omega)
  try simp only [Act.put, sA, sZ, sS]
  refine wpAnyH_take (i := 9) (oi := ⟨some 9, _, _, _, _, _⟩) (v := .bool true) rfl (by kernel_rfl) (by kernel_rfl) (by kernel_rfl) (fun _ _ _ h => h) (Or.inl ⟨by rfl, ?_⟩) hHeld ?_
  · (intro ww hS; go_simp; try with_reducible rfl; try omega)
  try simp only [Act.put, sA, sZ, sS]
  refine wpAnyH_done (by kernel_rfl) ?_ _
  clear hHeld
  have O_8 := L.at_ 1 8 rfl (v := .int .i64 6) rfl
  have O_z := L.lt 1 rfl
  go_wp2_with (first | (refine wpList_load_row rfl 27 (.tmp 3) rfl gH rfl _ _ (0, 0) _ (L.bk_ 2 rfl) Tryz.underlying27 rfl cf_sz ?_) | (refine wpList_load_row rfl 40 (.tmp 5) rfl gO rfl _ _ (0, 0) _ (L.bk_ 1 rfl) Tryz.underlying40 rfl op_sz ?_))
  refine ((TK _ _ _ _ _ _ _ _ _ _ _ _ _ (L.less 1) hs0 hs1 hs2 KS).out).mono ?_
  rintro e w6 ⟨h3, rfl, L', LN⟩
  clear O_8 O_z
  replace L := LN.lists' LbO L'
  try dsimp only [lF, List.cons_append, List.nil_append] at L
  clear LN L'
  go_wp2_with (refine wpList_store_row rfl 40 (.tmp 6) (.tmp 30) rfl gR _ rfl rfl _ _ (L.bk_ 0 rfl) op_sz rfl (opv_one _ _) ?_)
  replace L := (L.row 0 rfl (opv h3 (swAg ⟨1, addr, err, aad, used, 6, shard, sought, leaf, bit, word, full, (tt : Int), tries, item, stamp⟩)))
  try dsimp only [nput] at L
  generalize (w6).setRow gR (opv h3 (swAg ⟨1, addr, err, aad, used, 6, shard, sought, leaf, bit, word, full, (tt : Int), tries, item, stamp⟩)) = w7 at L ⊢
  refine bodyPost_ret (v := .tuple #[.agg (opv h3 (swAg ⟨1, addr, err, aad, used, 6, shard, sought, leaf, bit, word, full, (tt : Int), tries, item, stamp⟩)), .bool false]) ?_ rfl ?_
  · exact results_ct (fn := Tryz.f71) Tryz.results71 _ _ gR _ _ (0, 0) _ rfl (L.bk_ 0 rfl) Tryz.underlying40 rfl op_sz
  exact ⟨_, rfl, (L.lists_at 0 rfl).lower_ KS, L.K⟩
set_option maxHeartbeats 2000000 in
theorem swstep_not (ha : a < 4294967296) (hM : Much a p M) (hL : Lists lo w h l) (h0 : h.n0 ≤ 65536) (h1 : h.n1 ≤ 65536) (h2 : h.n2 ≤ 65536) (h3 : h.n3 ≤ 65000) (hU : US w B m d ys) (hat : s.at_ = (tt : Int)) (hlm : tt < m) (htl : tt < lv M) (hk : s.kind = 1) (hse : l.ses = sn.map Int.ofNat) (hf : ∀ x ∈ sn, x < U64) (hn3 : tt < h.n3) (hph : s.phase = 7) (hne : ¬ gt ys tt = gt sn tt) :
    Calls Tryz.prog 71 #[.agg #[.int .u32 (a : Int), .int .i64 p, .slice A n c, .int .i64 sh, .int .i64 wo, .int .i64 qu, .int .i64 tr], .slice B m d, .agg (opv h s)] w (RetSw w.heap.size (swLe s 6) (swNo l) false w) := by
  have TOwn := fun w (L : Lists lo w h l) => Lib.hid (own_any (s := s) L h0 h1 h2 (by omega))
  have TK := fun w lo A0 c0 A1 c1 A2 c2 A3 c3 (L : Lists lo w ⟨A0, h.n0, c0, A1, h.n1, c1, A2, h.n2, c2, A3, h.n3, c3⟩ l) (U : US w B m d ys) => Lib.hid (sagain_not (w := w) (lo := lo) (p := p) (sh := sh) (wo := wo) (qu := qu) (tr := tr) (A := A) (n := n) (c := c) (h := ⟨A0, h.n0, c0, A1, h.n1, c1, A2, h.n2, c2, A3, h.n3, c3⟩) (s := s) ha hM (by have := L.i3; rw [hse] at this; exact this) hf U hat hlm htl hn3 L hne)
  clear hlm htl ha hM hf hn3 hne hse
  rcases s with ⟨kind, addr, err, aad, used, phase, shard, sought, leaf, bit, word, full, at_, tries, item, stamp⟩
  rcases h with ⟨A0, n0, c0, A1, n1, c1, A2, n2, c2, A3, n3, c3⟩
  try dsimp only at *
  subst hk hph hat
  go_enter Tryz.func71, Tryz.ntmps71
  go_upto_region 1 with (fail)
  have L := Loc.start w
  replace L := (((L).alloc #[.int .u32 (a : Int), .int .i64 p, .slice A n c, .int .i64 sh, .int .i64 wo, .int .i64 qu, .int .i64 tr] 27).alloc (opv ⟨A0, n0, c0, A1, n1, c1, A2, n2, c2, A3, n3, c3⟩ ⟨1, addr, err, aad, used, 7, shard, sought, leaf, bit, word, full, (tt : Int), tries, item, stamp⟩) 40).alloc #[.int .i64 0, .int .u32 0, .slice none 0 0, .int .i64 0, .int .u32 0, .bool false, .slice none 0 0, .slice none 0 0, .int .i64 0, .int .i64 0, .int .i64 0, .int .i64 0, .int .i64 0, .int .u64 0, .bool false, .slice none 0 0, .int .i64 0, .int .i64 0, .int .i64 0, .int .i64 0] 40
  try simp only [World.size_alloc] at L
  replace L := L.is 0 (opv hd0 sc0) rfl
  try dsimp only [nput] at L
  generalize (((w).alloc (.cells #[.int .u32 (a : Int), .int .i64 p, .slice A n c, .int .i64 sh, .int .i64 wo, .int .i64 qu, .int .i64 tr] 27)).alloc (.cells (opv ⟨A0, n0, c0, A1, n1, c1, A2, n2, c2, A3, n3, c3⟩ ⟨1, addr, err, aad, used, 7, shard, sought, leaf, bit, word, full, (tt : Int), tries, item, stamp⟩) 40)).alloc (.cells #[.int .i64 0, .int .u32 0, .slice none 0 0, .int .i64 0, .int .u32 0, .bool false, .slice none 0 0, .slice none 0 0, .int .i64 0, .int .i64 0, .int .i64 0, .int .i64 0, .int .i64 0, .int .u64 0, .bool false, .slice none 0 0, .int .i64 0, .int .i64 0, .int .i64 0, .int .i64 0] 40) = w1 at L ⊢
  generalize w.heap.size + 1 + 1 = gR at L ⊢
  generalize w.heap.size + 1 = gO at L ⊢
  generalize w.heap.size = gH at L ⊢
  go_wp2_with (refine wpList_load_row rfl 40 (.tmp 5) rfl gO rfl _ _ (0, 0) _ (L.bk_ 1 rfl) Tryz.underlying40 rfl op_sz ?_)
  have KS := L.K.size
  have LbO := L.gs
  refine ((TOwn _ (hL.below L.K)).out).mono ?_
  rintro e w2 ⟨A0', c0', A1', c1', A2', c2', A3', c3', rfl, L', K'⟩
  have Lb := L.lts
  replace L := L.over K'
  replace L := L.lists Lb L'
  replace L := L.sz K'.size
  clear Lb
  try dsimp only [lF, List.cons_append, List.nil_append] at L
  clear L'
  go_upto_region 2 with (refine wpList_store_row rfl 40 (.tmp 5) (.tmp 11) rfl gO _ rfl rfl _ _ (L.bk_ 1 rfl) op_sz rfl (opv_one _ _) ?_)
  replace L := (L.row 1 rfl (opv ⟨A0', n0, c0', A1', n1, c1', A2', n2, c2', A3', n3, c3'⟩ ⟨1, addr, err, aad, used, 7, shard, sought, leaf, bit, word, full, (tt : Int), tries, item, stamp⟩))
  try dsimp only [nput] at L
  generalize (w2).setRow gO (opv ⟨A0', n0, c0', A1', n1, c1', A2', n2, c2', A3', n3, c3'⟩ ⟨1, addr, err, aad, used, 7, shard, sought, leaf, bit, word, full, (tt : Int), tries, item, stamp⟩) = w3 at L ⊢
  replace L := L.drew
  refine wp_region_held_drew (S := fun w' => Loc w w' [(gR, 40, opv hd0 sc0), (gO, 40, opv ⟨A0', n0, c0', A1', n1, c1', A2', n2, c2', A3', n3, c3'⟩ ⟨1, addr, err, aad, used, 7, shard, sought, leaf, bit, word, full, (tt : Int), tries, item, stamp⟩), (gH, 27, #[.int .u32 (a : Int), .int .i64 p, .slice A n c, .int .i64 sh, .int .i64 wo, .int .i64 qu, .int .i64 tr])] [zF w1.heap.size, iF .u32 w1.heap.size A0' n0 c0' l.rqs, iF .u32 w1.heap.size A1' n1 c1' l.ads, iF .i64 w1.heap.size A2' n2 c2' l.ers, iF .u64 w1.heap.size A3' n3 c3' l.ses]) (by kernel_rfl) L (fun hHeld => ?_)
  generalize w3.drew = v4 at hHeld L ⊢
  refine wpAnyH_take (i := 1) (oi := ⟨some 14, _, _, _, _, _⟩) (v := .pointer (some ⟨gO, 0, none⟩)) rfl (by kernel_rfl) (by kernel_rfl) (by kernel_rfl) (fun _ _ _ h => h) (Or.inl ⟨by rfl, ?_⟩) hHeld ?_
  · (intro ww hS; go_simp; try with_reducible rfl; try omega)
  try simp only [Act.put, sA, sZ, sS]
  refine wpAnyH_take (i := 2) (oi := ⟨some 15, _, _, _, _, _⟩) (v := .pointer (some ⟨gO, 0, none⟩)) rfl (by kernel_rfl) (by kernel_rfl) (by kernel_rfl) (fun _ _ _ h => h) (Or.inl ⟨by rfl, ?_⟩) hHeld ?_
  · (intro ww hS; go_simp; try with_reducible rfl; try omega)
  try simp only [Act.put, sA, sZ, sS]
  refine wpAnyH_take (i := 3) (oi := ⟨some 16, _, _, _, _, _⟩) (v := .int .i64 1) rfl (by kernel_rfl) (by kernel_rfl) (by kernel_rfl) (fun _ _ _ h => h) (Or.inl ⟨by rfl, ?_⟩) hHeld ?_
  · intro ww hS
    try dsimp only at hS
    have O_0 := (hS).at_ 1 0 rfl (v := .int .i64 1) rfl
    have O_z := (hS).lt 1 rfl
    go_simp
    try with_reducible rfl
    try omega
  try simp only [Act.put, sA, sZ, sS]
  refine wpAnyH_ready (rs := [0]) (by kernel_rfl) (by simp) ?_
  refine AllReadyH.cons (o := ⟨some 13, _, _, _, _, _⟩) rfl (fun K0 hK => ?_) AllReadyH.nil
  go_simp
  refine (sen_any _).mono ?_
  rintro e w5 ⟨gm, rfl, hF, hgm, K'⟩
  have Lb := L.lts
  replace L := L.over K'
  replace L := L.map_new Lb hgm hF
  clear Lb
  try dsimp only [lF, List.cons_append, List.nil_append] at L
  clear hF hgm
  refine hK.out _ _ (L.less 1) (fun hHeld' => ?_)
  clear hHeld hK K0
  have hHeld := hHeld'
  clear hHeld'
  clear K'
  try simp only [Act.put, sA, sZ, sS]
  refine wpAnyH_ready (rs := [4]) (by kernel_rfl) (by simp) ?_
  refine AllReadyH.cons (o := ⟨some 17, _, _, _, _, _⟩) rfl (fun K0 hK => ?_) AllReadyH.nil
  have hrun := FMap.look (L.get 0 rfl : FMap _ gm sen_l) Tryz.underlying117 (sen_z _) (k := 1) (by decide) (f := 120) rfl
  go_simp
  refine hK.out _ _ hHeld (fun hHeld' => ?_)
  clear hHeld hK K0
  have hHeld := hHeld'
  clear hHeld'
  try simp only [Act.put, sA, sZ, sS]
  clear hrun
  refine wpAnyH_take (i := 5) (oi := ⟨some 12, _, _, _, _, _⟩) (v := ?_) rfl (by kernel_rfl) (by kernel_rfl) (by kernel_rfl) (fun _ _ _ h => h) (Or.inl ⟨by rfl, ?_⟩) hHeld ?_
  rotate_left
  · (intro ww hS; go_simp; try with_reducible rfl; try omega)
  try simp only [Act.put, sA, sZ, sS]
  refine wpAnyH_take (i := 6) (oi := ⟨some 18, _, _, _, _, _⟩) (v := .func (.func 120) #[] #[]) rfl (by kernel_rfl) (by kernel_rfl) (by kernel_rfl) (fun _ _ _ h => h) (Or.inl ⟨by rfl, ?_⟩) hHeld ?_
  · (intro ww hS; go_simp; try with_reducible rfl; try omega)
  try simp only [Act.put, sA, sZ, sS]
  refine wpAnyH_take (i := 7) (oi := ⟨some 19, _, _, _, _, _⟩) (v := .bool true) rfl (by kernel_rfl) (by kernel_rfl) (by kernel_rfl) (fun _ _ _ h => h) (Or.inl ⟨by rfl, ?_⟩) hHeld ?_
  · (intro ww hS; go_simp; try with_reducible rfl; try omega)
  try simp only [Act.put, sA, sZ, sS]
  refine wpAnyH_take (i := 8) (oi := ⟨some 8, _, _, _, _, _⟩) (v := .func (.func 120) #[] #[]) rfl (by kernel_rfl) (by kernel_rfl) (by kernel_rfl) (fun _ _ _ h => h) (Or.inl ⟨by rfl, ?_⟩) hHeld ?_
  · (intro ww hS; go_simp; try with_reducible rfl; try omega)
  try simp only [Act.put, sA, sZ, sS]
  refine wpAnyH_take (i := 9) (oi := ⟨some 9, _, _, _, _, _⟩) (v := .bool true) rfl (by kernel_rfl) (by kernel_rfl) (by kernel_rfl) (fun _ _ _ h => h) (Or.inl ⟨by rfl, ?_⟩) hHeld ?_
  · (intro ww hS; go_simp; try with_reducible rfl; try omega)
  try simp only [Act.put, sA, sZ, sS]
  refine wpAnyH_done (by kernel_rfl) ?_ _
  clear hHeld
  have O_8 := L.at_ 1 8 rfl (v := .int .i64 7) rfl
  have O_z := L.lt 1 rfl
  go_wp2_with (first | (refine wpList_load_row rfl 27 (.tmp 3) rfl gH rfl _ _ (0, 0) _ (L.bk_ 2 rfl) Tryz.underlying27 rfl cf_sz ?_) | (refine wpList_load_row rfl 40 (.tmp 5) rfl gO rfl _ _ (0, 0) _ (L.bk_ 1 rfl) Tryz.underlying40 rfl op_sz ?_))
  refine ((TK _ _ _ _ _ _ _ _ _ _ (L.lists_at 2 rfl) (hU.below L.K)).out).mono ?_
  rintro e w6 ⟨h3, rfl, L', K'⟩
  clear O_8 O_z
  have Lb := L.gs
  replace L := (L.over K').lists' LbO L'
  try dsimp only [lF, List.cons_append, List.nil_append] at L
  clear L' Lb K'
  go_wp2_with (refine wpList_store_row rfl 40 (.tmp 6) (.tmp 38) rfl gR _ rfl rfl _ _ (L.bk_ 0 rfl) op_sz rfl (opv_one _ _) ?_)
  replace L := (L.row 0 rfl (opv h3 (swLe ⟨1, addr, err, aad, used, 7, shard, sought, leaf, bit, word, full, (tt : Int), tries, item, stamp⟩ 6)))
  try dsimp only [nput] at L
  generalize (w6).setRow gR (opv h3 (swLe ⟨1, addr, err, aad, used, 7, shard, sought, leaf, bit, word, full, (tt : Int), tries, item, stamp⟩ 6)) = w7 at L ⊢
  refine bodyPost_ret (v := .tuple #[.agg (opv h3 (swLe ⟨1, addr, err, aad, used, 7, shard, sought, leaf, bit, word, full, (tt : Int), tries, item, stamp⟩ 6)), .bool false]) ?_ rfl ?_
  · exact results_ct (fn := Tryz.f71) Tryz.results71 _ _ gR _ _ (0, 0) _ rfl (L.bk_ 0 rfl) Tryz.underlying40 rfl op_sz
  exact ⟨_, rfl, (L.lists_at 0 rfl).lower_ KS, L.K⟩
set_option maxHeartbeats 2000000 in
theorem swstep_on (ha : a < 4294967296) (hM : Much a p M) (hL : Lists lo w h l) (h0 : h.n0 ≤ 65536) (h1 : h.n1 ≤ 65536) (h2 : h.n2 ≤ 65536) (h3 : h.n3 ≤ 65000) (hU : US w B m d ys) (hat : s.at_ = (tt : Int)) (hlm : tt < m) (htl : tt < lv M) (hk : s.kind = 1) (hse : l.ses = sn.map Int.ofNat) (hf : ∀ x ∈ sn, x < U64) (hn3 : tt < h.n3) (hph : s.phase = 7) (hne : gt ys tt = gt sn tt) (hlt : tt + 1 < lv M) :
    Calls Tryz.prog 71 #[.agg #[.int .u32 (a : Int), .int .i64 p, .slice A n c, .int .i64 sh, .int .i64 wo, .int .i64 qu, .int .i64 tr], .slice B m d, .agg (opv h s)] w (RetSw w.heap.size (swMv s) (l) false w) := by
  have TOwn := fun w (L : Lists lo w h l) => Lib.hid (own_any (s := s) L h0 h1 h2 (by omega))
  have TK := fun w lo A0 c0 A1 c1 A2 c2 A3 c3 (L : Lists lo w ⟨A0, h.n0, c0, A1, h.n1, c1, A2, h.n2, c2, A3, h.n3, c3⟩ l) (U : US w B m d ys) => Lib.hid (sagain_mv (w := w) (lo := lo) (p := p) (sh := sh) (wo := wo) (qu := qu) (tr := tr) (A := A) (n := n) (c := c) (h := ⟨A0, h.n0, c0, A1, h.n1, c1, A2, h.n2, c2, A3, h.n3, c3⟩) (s := s) ha hM (by have := L.i3; rw [hse] at this; exact this) hf U hat hlm htl hn3 L hne hlt)
  clear hlm htl ha hM hf hn3 hne hse hlt
  rcases s with ⟨kind, addr, err, aad, used, phase, shard, sought, leaf, bit, word, full, at_, tries, item, stamp⟩
  rcases h with ⟨A0, n0, c0, A1, n1, c1, A2, n2, c2, A3, n3, c3⟩
  try dsimp only at *
  subst hk hph hat
  go_enter Tryz.func71, Tryz.ntmps71
  go_upto_region 1 with (fail)
  have L := Loc.start w
  replace L := (((L).alloc #[.int .u32 (a : Int), .int .i64 p, .slice A n c, .int .i64 sh, .int .i64 wo, .int .i64 qu, .int .i64 tr] 27).alloc (opv ⟨A0, n0, c0, A1, n1, c1, A2, n2, c2, A3, n3, c3⟩ ⟨1, addr, err, aad, used, 7, shard, sought, leaf, bit, word, full, (tt : Int), tries, item, stamp⟩) 40).alloc #[.int .i64 0, .int .u32 0, .slice none 0 0, .int .i64 0, .int .u32 0, .bool false, .slice none 0 0, .slice none 0 0, .int .i64 0, .int .i64 0, .int .i64 0, .int .i64 0, .int .i64 0, .int .u64 0, .bool false, .slice none 0 0, .int .i64 0, .int .i64 0, .int .i64 0, .int .i64 0] 40
  try simp only [World.size_alloc] at L
  replace L := L.is 0 (opv hd0 sc0) rfl
  try dsimp only [nput] at L
  generalize (((w).alloc (.cells #[.int .u32 (a : Int), .int .i64 p, .slice A n c, .int .i64 sh, .int .i64 wo, .int .i64 qu, .int .i64 tr] 27)).alloc (.cells (opv ⟨A0, n0, c0, A1, n1, c1, A2, n2, c2, A3, n3, c3⟩ ⟨1, addr, err, aad, used, 7, shard, sought, leaf, bit, word, full, (tt : Int), tries, item, stamp⟩) 40)).alloc (.cells #[.int .i64 0, .int .u32 0, .slice none 0 0, .int .i64 0, .int .u32 0, .bool false, .slice none 0 0, .slice none 0 0, .int .i64 0, .int .i64 0, .int .i64 0, .int .i64 0, .int .i64 0, .int .u64 0, .bool false, .slice none 0 0, .int .i64 0, .int .i64 0, .int .i64 0, .int .i64 0] 40) = w1 at L ⊢
  generalize w.heap.size + 1 + 1 = gR at L ⊢
  generalize w.heap.size + 1 = gO at L ⊢
  generalize w.heap.size = gH at L ⊢
  go_wp2_with (refine wpList_load_row rfl 40 (.tmp 5) rfl gO rfl _ _ (0, 0) _ (L.bk_ 1 rfl) Tryz.underlying40 rfl op_sz ?_)
  have KS := L.K.size
  have LbO := L.gs
  refine ((TOwn _ (hL.below L.K)).out).mono ?_
  rintro e w2 ⟨A0', c0', A1', c1', A2', c2', A3', c3', rfl, L', K'⟩
  have Lb := L.lts
  replace L := L.over K'
  replace L := L.lists Lb L'
  replace L := L.sz K'.size
  clear Lb
  try dsimp only [lF, List.cons_append, List.nil_append] at L
  clear L'
  go_upto_region 2 with (refine wpList_store_row rfl 40 (.tmp 5) (.tmp 11) rfl gO _ rfl rfl _ _ (L.bk_ 1 rfl) op_sz rfl (opv_one _ _) ?_)
  replace L := (L.row 1 rfl (opv ⟨A0', n0, c0', A1', n1, c1', A2', n2, c2', A3', n3, c3'⟩ ⟨1, addr, err, aad, used, 7, shard, sought, leaf, bit, word, full, (tt : Int), tries, item, stamp⟩))
  try dsimp only [nput] at L
  generalize (w2).setRow gO (opv ⟨A0', n0, c0', A1', n1, c1', A2', n2, c2', A3', n3, c3'⟩ ⟨1, addr, err, aad, used, 7, shard, sought, leaf, bit, word, full, (tt : Int), tries, item, stamp⟩) = w3 at L ⊢
  replace L := L.drew
  refine wp_region_held_drew (S := fun w' => Loc w w' [(gR, 40, opv hd0 sc0), (gO, 40, opv ⟨A0', n0, c0', A1', n1, c1', A2', n2, c2', A3', n3, c3'⟩ ⟨1, addr, err, aad, used, 7, shard, sought, leaf, bit, word, full, (tt : Int), tries, item, stamp⟩), (gH, 27, #[.int .u32 (a : Int), .int .i64 p, .slice A n c, .int .i64 sh, .int .i64 wo, .int .i64 qu, .int .i64 tr])] [zF w1.heap.size, iF .u32 w1.heap.size A0' n0 c0' l.rqs, iF .u32 w1.heap.size A1' n1 c1' l.ads, iF .i64 w1.heap.size A2' n2 c2' l.ers, iF .u64 w1.heap.size A3' n3 c3' l.ses]) (by kernel_rfl) L (fun hHeld => ?_)
  generalize w3.drew = v4 at hHeld L ⊢
  refine wpAnyH_take (i := 1) (oi := ⟨some 14, _, _, _, _, _⟩) (v := .pointer (some ⟨gO, 0, none⟩)) rfl (by kernel_rfl) (by kernel_rfl) (by kernel_rfl) (fun _ _ _ h => h) (Or.inl ⟨by rfl, ?_⟩) hHeld ?_
  · (intro ww hS; go_simp; try with_reducible rfl; try omega)
  try simp only [Act.put, sA, sZ, sS]
  refine wpAnyH_take (i := 2) (oi := ⟨some 15, _, _, _, _, _⟩) (v := .pointer (some ⟨gO, 0, none⟩)) rfl (by kernel_rfl) (by kernel_rfl) (by kernel_rfl) (fun _ _ _ h => h) (Or.inl ⟨by rfl, ?_⟩) hHeld ?_
  · (intro ww hS; go_simp; try with_reducible rfl; try omega)
  try simp only [Act.put, sA, sZ, sS]
  refine wpAnyH_take (i := 3) (oi := ⟨some 16, _, _, _, _, _⟩) (v := .int .i64 1) rfl (by kernel_rfl) (by kernel_rfl) (by kernel_rfl) (fun _ _ _ h => h) (Or.inl ⟨by rfl, ?_⟩) hHeld ?_
  · intro ww hS
    try dsimp only at hS
    have O_0 := (hS).at_ 1 0 rfl (v := .int .i64 1) rfl
    have O_z := (hS).lt 1 rfl
    go_simp
    try with_reducible rfl
    try omega
  try simp only [Act.put, sA, sZ, sS]
  refine wpAnyH_ready (rs := [0]) (by kernel_rfl) (by simp) ?_
  refine AllReadyH.cons (o := ⟨some 13, _, _, _, _, _⟩) rfl (fun K0 hK => ?_) AllReadyH.nil
  go_simp
  refine (sen_any _).mono ?_
  rintro e w5 ⟨gm, rfl, hF, hgm, K'⟩
  have Lb := L.lts
  replace L := L.over K'
  replace L := L.map_new Lb hgm hF
  clear Lb
  try dsimp only [lF, List.cons_append, List.nil_append] at L
  clear hF hgm
  refine hK.out _ _ (L.less 1) (fun hHeld' => ?_)
  clear hHeld hK K0
  have hHeld := hHeld'
  clear hHeld'
  clear K'
  try simp only [Act.put, sA, sZ, sS]
  refine wpAnyH_ready (rs := [4]) (by kernel_rfl) (by simp) ?_
  refine AllReadyH.cons (o := ⟨some 17, _, _, _, _, _⟩) rfl (fun K0 hK => ?_) AllReadyH.nil
  have hrun := FMap.look (L.get 0 rfl : FMap _ gm sen_l) Tryz.underlying117 (sen_z _) (k := 1) (by decide) (f := 120) rfl
  go_simp
  refine hK.out _ _ hHeld (fun hHeld' => ?_)
  clear hHeld hK K0
  have hHeld := hHeld'
  clear hHeld'
  try simp only [Act.put, sA, sZ, sS]
  clear hrun
  refine wpAnyH_take (i := 5) (oi := ⟨some 12, _, _, _, _, _⟩) (v := ?_) rfl (by kernel_rfl) (by kernel_rfl) (by kernel_rfl) (fun _ _ _ h => h) (Or.inl ⟨by rfl, ?_⟩) hHeld ?_
  rotate_left
  · (intro ww hS; go_simp; try with_reducible rfl; try omega)
  try simp only [Act.put, sA, sZ, sS]
  refine wpAnyH_take (i := 6) (oi := ⟨some 18, _, _, _, _, _⟩) (v := .func (.func 120) #[] #[]) rfl (by kernel_rfl) (by kernel_rfl) (by kernel_rfl) (fun _ _ _ h => h) (Or.inl ⟨by rfl, ?_⟩) hHeld ?_
  · (intro ww hS; go_simp; try with_reducible rfl; try omega)
  try simp only [Act.put, sA, sZ, sS]
  refine wpAnyH_take (i := 7) (oi := ⟨some 19, _, _, _, _, _⟩) (v := .bool true) rfl (by kernel_rfl) (by kernel_rfl) (by kernel_rfl) (fun _ _ _ h => h) (Or.inl ⟨by rfl, ?_⟩) hHeld ?_
  · (intro ww hS; go_simp; try with_reducible rfl; try omega)
  try simp only [Act.put, sA, sZ, sS]
  refine wpAnyH_take (i := 8) (oi := ⟨some 8, _, _, _, _, _⟩) (v := .func (.func 120) #[] #[]) rfl (by kernel_rfl) (by kernel_rfl) (by kernel_rfl) (fun _ _ _ h => h) (Or.inl ⟨by rfl, ?_⟩) hHeld ?_
  · (intro ww hS; go_simp; try with_reducible rfl; try omega)
  try simp only [Act.put, sA, sZ, sS]
  refine wpAnyH_take (i := 9) (oi := ⟨some 9, _, _, _, _, _⟩) (v := .bool true) rfl (by kernel_rfl) (by kernel_rfl) (by kernel_rfl) (fun _ _ _ h => h) (Or.inl ⟨by rfl, ?_⟩) hHeld ?_
  · (intro ww hS; go_simp; try with_reducible rfl; try omega)
  try simp only [Act.put, sA, sZ, sS]
  refine wpAnyH_done (by kernel_rfl) ?_ _
  clear hHeld
  have O_8 := L.at_ 1 8 rfl (v := .int .i64 7) rfl
  have O_z := L.lt 1 rfl
  go_wp2_with (first | (refine wpList_load_row rfl 27 (.tmp 3) rfl gH rfl _ _ (0, 0) _ (L.bk_ 2 rfl) Tryz.underlying27 rfl cf_sz ?_) | (refine wpList_load_row rfl 40 (.tmp 5) rfl gO rfl _ _ (0, 0) _ (L.bk_ 1 rfl) Tryz.underlying40 rfl op_sz ?_))
  refine ((TK _ _ _ _ _ _ _ _ _ _ (L.lists_at 2 rfl) (hU.below L.K)).out).mono ?_
  rintro e w6 ⟨h3, rfl, L', K'⟩
  clear O_8 O_z
  have Lb := L.gs
  replace L := (L.over K').lists' LbO L'
  try dsimp only [lF, List.cons_append, List.nil_append] at L
  clear L' Lb K'
  go_wp2_with (refine wpList_store_row rfl 40 (.tmp 6) (.tmp 38) rfl gR _ rfl rfl _ _ (L.bk_ 0 rfl) op_sz rfl (opv_one _ _) ?_)
  replace L := (L.row 0 rfl (opv h3 (swMv ⟨1, addr, err, aad, used, 7, shard, sought, leaf, bit, word, full, (tt : Int), tries, item, stamp⟩)))
  try dsimp only [nput] at L
  generalize (w6).setRow gR (opv h3 (swMv ⟨1, addr, err, aad, used, 7, shard, sought, leaf, bit, word, full, (tt : Int), tries, item, stamp⟩)) = w7 at L ⊢
  refine bodyPost_ret (v := .tuple #[.agg (opv h3 (swMv ⟨1, addr, err, aad, used, 7, shard, sought, leaf, bit, word, full, (tt : Int), tries, item, stamp⟩)), .bool false]) ?_ rfl ?_
  · exact results_ct (fn := Tryz.f71) Tryz.results71 _ _ gR _ _ (0, 0) _ rfl (L.bk_ 0 rfl) Tryz.underlying40 rfl op_sz
  exact ⟨_, rfl, (L.lists_at 0 rfl).lower_ KS, L.K⟩
set_option maxHeartbeats 2000000 in
theorem swstep_end (ha : a < 4294967296) (hM : Much a p M) (hL : Lists lo w h l) (h0 : h.n0 ≤ 65536) (h1 : h.n1 ≤ 65536) (h2 : h.n2 ≤ 65536) (h3 : h.n3 ≤ 65000) (hU : US w B m d ys) (hat : s.at_ = (tt : Int)) (hlm : tt < m) (htl : tt < lv M) (hk : s.kind = 1) (hse : l.ses = sn.map Int.ofNat) (hf : ∀ x ∈ sn, x < U64) (hn3 : tt < h.n3) (hph : s.phase = 7) (hne : gt ys tt = gt sn tt) (hlt : ¬ tt + 1 < lv M) :
    Calls Tryz.prog 71 #[.agg #[.int .u32 (a : Int), .int .i64 p, .slice A n c, .int .i64 sh, .int .i64 wo, .int .i64 qu, .int .i64 tr], .slice B m d, .agg (opv h s)] w (RetSw w.heap.size (swEn s) (swNo l) true w) := by
  have TOwn := fun w (L : Lists lo w h l) => Lib.hid (own_any (s := s) L h0 h1 h2 (by omega))
  have TK := fun w lo A0 c0 A1 c1 A2 c2 A3 c3 (L : Lists lo w ⟨A0, h.n0, c0, A1, h.n1, c1, A2, h.n2, c2, A3, h.n3, c3⟩ l) (U : US w B m d ys) => Lib.hid (sagain_end (w := w) (lo := lo) (p := p) (sh := sh) (wo := wo) (qu := qu) (tr := tr) (A := A) (n := n) (c := c) (h := ⟨A0, h.n0, c0, A1, h.n1, c1, A2, h.n2, c2, A3, h.n3, c3⟩) (s := s) ha hM (by have := L.i3; rw [hse] at this; exact this) hf U hat hlm htl hn3 L hne hlt)
  clear hlm htl ha hM hf hn3 hne hse hlt
  rcases s with ⟨kind, addr, err, aad, used, phase, shard, sought, leaf, bit, word, full, at_, tries, item, stamp⟩
  rcases h with ⟨A0, n0, c0, A1, n1, c1, A2, n2, c2, A3, n3, c3⟩
  try dsimp only at *
  subst hk hph hat
  go_enter Tryz.func71, Tryz.ntmps71
  go_upto_region 1 with (fail)
  have L := Loc.start w
  replace L := (((L).alloc #[.int .u32 (a : Int), .int .i64 p, .slice A n c, .int .i64 sh, .int .i64 wo, .int .i64 qu, .int .i64 tr] 27).alloc (opv ⟨A0, n0, c0, A1, n1, c1, A2, n2, c2, A3, n3, c3⟩ ⟨1, addr, err, aad, used, 7, shard, sought, leaf, bit, word, full, (tt : Int), tries, item, stamp⟩) 40).alloc #[.int .i64 0, .int .u32 0, .slice none 0 0, .int .i64 0, .int .u32 0, .bool false, .slice none 0 0, .slice none 0 0, .int .i64 0, .int .i64 0, .int .i64 0, .int .i64 0, .int .i64 0, .int .u64 0, .bool false, .slice none 0 0, .int .i64 0, .int .i64 0, .int .i64 0, .int .i64 0] 40
  try simp only [World.size_alloc] at L
  replace L := L.is 0 (opv hd0 sc0) rfl
  try dsimp only [nput] at L
  generalize (((w).alloc (.cells #[.int .u32 (a : Int), .int .i64 p, .slice A n c, .int .i64 sh, .int .i64 wo, .int .i64 qu, .int .i64 tr] 27)).alloc (.cells (opv ⟨A0, n0, c0, A1, n1, c1, A2, n2, c2, A3, n3, c3⟩ ⟨1, addr, err, aad, used, 7, shard, sought, leaf, bit, word, full, (tt : Int), tries, item, stamp⟩) 40)).alloc (.cells #[.int .i64 0, .int .u32 0, .slice none 0 0, .int .i64 0, .int .u32 0, .bool false, .slice none 0 0, .slice none 0 0, .int .i64 0, .int .i64 0, .int .i64 0, .int .i64 0, .int .i64 0, .int .u64 0, .bool false, .slice none 0 0, .int .i64 0, .int .i64 0, .int .i64 0, .int .i64 0] 40) = w1 at L ⊢
  generalize w.heap.size + 1 + 1 = gR at L ⊢
  generalize w.heap.size + 1 = gO at L ⊢
  generalize w.heap.size = gH at L ⊢
  go_wp2_with (refine wpList_load_row rfl 40 (.tmp 5) rfl gO rfl _ _ (0, 0) _ (L.bk_ 1 rfl) Tryz.underlying40 rfl op_sz ?_)
  have KS := L.K.size
  have LbO := L.gs
  refine ((TOwn _ (hL.below L.K)).out).mono ?_
  rintro e w2 ⟨A0', c0', A1', c1', A2', c2', A3', c3', rfl, L', K'⟩
  have Lb := L.lts
  replace L := L.over K'
  replace L := L.lists Lb L'
  replace L := L.sz K'.size
  clear Lb
  try dsimp only [lF, List.cons_append, List.nil_append] at L
  clear L'
  go_upto_region 2 with (refine wpList_store_row rfl 40 (.tmp 5) (.tmp 11) rfl gO _ rfl rfl _ _ (L.bk_ 1 rfl) op_sz rfl (opv_one _ _) ?_)
  replace L := (L.row 1 rfl (opv ⟨A0', n0, c0', A1', n1, c1', A2', n2, c2', A3', n3, c3'⟩ ⟨1, addr, err, aad, used, 7, shard, sought, leaf, bit, word, full, (tt : Int), tries, item, stamp⟩))
  try dsimp only [nput] at L
  generalize (w2).setRow gO (opv ⟨A0', n0, c0', A1', n1, c1', A2', n2, c2', A3', n3, c3'⟩ ⟨1, addr, err, aad, used, 7, shard, sought, leaf, bit, word, full, (tt : Int), tries, item, stamp⟩) = w3 at L ⊢
  replace L := L.drew
  refine wp_region_held_drew (S := fun w' => Loc w w' [(gR, 40, opv hd0 sc0), (gO, 40, opv ⟨A0', n0, c0', A1', n1, c1', A2', n2, c2', A3', n3, c3'⟩ ⟨1, addr, err, aad, used, 7, shard, sought, leaf, bit, word, full, (tt : Int), tries, item, stamp⟩), (gH, 27, #[.int .u32 (a : Int), .int .i64 p, .slice A n c, .int .i64 sh, .int .i64 wo, .int .i64 qu, .int .i64 tr])] [zF w1.heap.size, iF .u32 w1.heap.size A0' n0 c0' l.rqs, iF .u32 w1.heap.size A1' n1 c1' l.ads, iF .i64 w1.heap.size A2' n2 c2' l.ers, iF .u64 w1.heap.size A3' n3 c3' l.ses]) (by kernel_rfl) L (fun hHeld => ?_)
  generalize w3.drew = v4 at hHeld L ⊢
  refine wpAnyH_take (i := 1) (oi := ⟨some 14, _, _, _, _, _⟩) (v := .pointer (some ⟨gO, 0, none⟩)) rfl (by kernel_rfl) (by kernel_rfl) (by kernel_rfl) (fun _ _ _ h => h) (Or.inl ⟨by rfl, ?_⟩) hHeld ?_
  · (intro ww hS; go_simp; try with_reducible rfl; try omega)
  try simp only [Act.put, sA, sZ, sS]
  refine wpAnyH_take (i := 2) (oi := ⟨some 15, _, _, _, _, _⟩) (v := .pointer (some ⟨gO, 0, none⟩)) rfl (by kernel_rfl) (by kernel_rfl) (by kernel_rfl) (fun _ _ _ h => h) (Or.inl ⟨by rfl, ?_⟩) hHeld ?_
  · (intro ww hS; go_simp; try with_reducible rfl; try omega)
  try simp only [Act.put, sA, sZ, sS]
  refine wpAnyH_take (i := 3) (oi := ⟨some 16, _, _, _, _, _⟩) (v := .int .i64 1) rfl (by kernel_rfl) (by kernel_rfl) (by kernel_rfl) (fun _ _ _ h => h) (Or.inl ⟨by rfl, ?_⟩) hHeld ?_
  · intro ww hS
    try dsimp only at hS
    have O_0 := (hS).at_ 1 0 rfl (v := .int .i64 1) rfl
    have O_z := (hS).lt 1 rfl
    go_simp
    try with_reducible rfl
    try omega
  try simp only [Act.put, sA, sZ, sS]
  refine wpAnyH_ready (rs := [0]) (by kernel_rfl) (by simp) ?_
  refine AllReadyH.cons (o := ⟨some 13, _, _, _, _, _⟩) rfl (fun K0 hK => ?_) AllReadyH.nil
  go_simp
  refine (sen_any _).mono ?_
  rintro e w5 ⟨gm, rfl, hF, hgm, K'⟩
  have Lb := L.lts
  replace L := L.over K'
  replace L := L.map_new Lb hgm hF
  clear Lb
  try dsimp only [lF, List.cons_append, List.nil_append] at L
  clear hF hgm
  refine hK.out _ _ (L.less 1) (fun hHeld' => ?_)
  clear hHeld hK K0
  have hHeld := hHeld'
  clear hHeld'
  clear K'
  try simp only [Act.put, sA, sZ, sS]
  refine wpAnyH_ready (rs := [4]) (by kernel_rfl) (by simp) ?_
  refine AllReadyH.cons (o := ⟨some 17, _, _, _, _, _⟩) rfl (fun K0 hK => ?_) AllReadyH.nil
  have hrun := FMap.look (L.get 0 rfl : FMap _ gm sen_l) Tryz.underlying117 (sen_z _) (k := 1) (by decide) (f := 120) rfl
  go_simp
  refine hK.out _ _ hHeld (fun hHeld' => ?_)
  clear hHeld hK K0
  have hHeld := hHeld'
  clear hHeld'
  try simp only [Act.put, sA, sZ, sS]
  clear hrun
  refine wpAnyH_take (i := 5) (oi := ⟨some 12, _, _, _, _, _⟩) (v := ?_) rfl (by kernel_rfl) (by kernel_rfl) (by kernel_rfl) (fun _ _ _ h => h) (Or.inl ⟨by rfl, ?_⟩) hHeld ?_
  rotate_left
  · (intro ww hS; go_simp; try with_reducible rfl; try omega)
  try simp only [Act.put, sA, sZ, sS]
  refine wpAnyH_take (i := 6) (oi := ⟨some 18, _, _, _, _, _⟩) (v := .func (.func 120) #[] #[]) rfl (by kernel_rfl) (by kernel_rfl) (by kernel_rfl) (fun _ _ _ h => h) (Or.inl ⟨by rfl, ?_⟩) hHeld ?_
  · (intro ww hS; go_simp; try with_reducible rfl; try omega)
  try simp only [Act.put, sA, sZ, sS]
  refine wpAnyH_take (i := 7) (oi := ⟨some 19, _, _, _, _, _⟩) (v := .bool true) rfl (by kernel_rfl) (by kernel_rfl) (by kernel_rfl) (fun _ _ _ h => h) (Or.inl ⟨by rfl, ?_⟩) hHeld ?_
  · (intro ww hS; go_simp; try with_reducible rfl; try omega)
  try simp only [Act.put, sA, sZ, sS]
  refine wpAnyH_take (i := 8) (oi := ⟨some 8, _, _, _, _, _⟩) (v := .func (.func 120) #[] #[]) rfl (by kernel_rfl) (by kernel_rfl) (by kernel_rfl) (fun _ _ _ h => h) (Or.inl ⟨by rfl, ?_⟩) hHeld ?_
  · (intro ww hS; go_simp; try with_reducible rfl; try omega)
  try simp only [Act.put, sA, sZ, sS]
  refine wpAnyH_take (i := 9) (oi := ⟨some 9, _, _, _, _, _⟩) (v := .bool true) rfl (by kernel_rfl) (by kernel_rfl) (by kernel_rfl) (fun _ _ _ h => h) (Or.inl ⟨by rfl, ?_⟩) hHeld ?_
  · (intro ww hS; go_simp; try with_reducible rfl; try omega)
  try simp only [Act.put, sA, sZ, sS]
  refine wpAnyH_done (by kernel_rfl) ?_ _
  clear hHeld
  have O_8 := L.at_ 1 8 rfl (v := .int .i64 7) rfl
  have O_z := L.lt 1 rfl
  go_wp2_with (first | (refine wpList_load_row rfl 27 (.tmp 3) rfl gH rfl _ _ (0, 0) _ (L.bk_ 2 rfl) Tryz.underlying27 rfl cf_sz ?_) | (refine wpList_load_row rfl 40 (.tmp 5) rfl gO rfl _ _ (0, 0) _ (L.bk_ 1 rfl) Tryz.underlying40 rfl op_sz ?_))
  refine ((TK _ _ _ _ _ _ _ _ _ _ (L.lists_at 2 rfl) (hU.below L.K)).out).mono ?_
  rintro e w6 ⟨h3, rfl, L', K'⟩
  clear O_8 O_z
  have Lb := L.gs
  replace L := (L.over K').lists' LbO L'
  try dsimp only [lF, List.cons_append, List.nil_append] at L
  clear L' Lb K'
  go_wp2_with (refine wpList_store_row rfl 40 (.tmp 6) (.tmp 38) rfl gR _ rfl rfl _ _ (L.bk_ 0 rfl) op_sz rfl (opv_one _ _) ?_)
  replace L := (L.row 0 rfl (opv h3 (swEn ⟨1, addr, err, aad, used, 7, shard, sought, leaf, bit, word, full, (tt : Int), tries, item, stamp⟩)))
  try dsimp only [nput] at L
  generalize (w6).setRow gR (opv h3 (swEn ⟨1, addr, err, aad, used, 7, shard, sought, leaf, bit, word, full, (tt : Int), tries, item, stamp⟩)) = w7 at L ⊢
  refine bodyPost_ret (v := .tuple #[.agg (opv h3 (swEn ⟨1, addr, err, aad, used, 7, shard, sought, leaf, bit, word, full, (tt : Int), tries, item, stamp⟩)), .bool true]) ?_ rfl ?_
  · exact results_ct (fn := Tryz.f71) Tryz.results71 _ _ gR _ _ (0, 0) _ rfl (L.bk_ 0 rfl) Tryz.underlying40 rfl op_sz
  exact ⟨_, rfl, (L.lists_at 0 rfl).lower_ KS, L.K⟩
theorem swstep_first (ha : a < 4294967296) (hM : Much a p M) (hL : Lists lo w h l) (h0 : h.n0 ≤ 65536) (h1 : h.n1 ≤ 65536) (h2 : h.n2 ≤ 65536) (h3 : h.n3 ≤ 65000) (hU : US w B m d ys) (hat : s.at_ = (tt : Int)) (hlm : tt < m) (htl : tt < lv M) (hk : s.kind = 1) (hph : s.phase = 6) :
    Calls Tryz.prog 71 #[.agg #[.int .u32 (a : Int), .int .i64 p, .slice A n c, .int .i64 sh, .int .i64 wo, .int .i64 qu, .int .i64 tr], .slice B m d, .agg (opv h s)] w (RetSw w.heap.size (swF (lv M) (gt ys tt) s) (swFL (gt ys tt) l) false w) := by
  unfold swF swFL
  cases hb : fb (gt ys tt) 32 with
  | true => rw [if_pos rfl, if_pos rfl]; exact swstep_found ha hM hL h0 h1 h2 h3 hU hat hlm htl hk hph hb
  | false =>
    rw [if_neg Bool.false_ne_true, if_neg Bool.false_ne_true]
    by_cases hlt : tt + 1 < lv M
    · rw [if_pos (by omega)]; exact swstep_mv ha hM hL h0 h1 h2 h3 hU hat hlm htl hk hph hb hlt
    · rw [if_neg (by omega)]; exact swstep_ag ha hM hL h0 h1 h2 h3 hU hat hlm htl hk hph hb hlt
theorem swstep_again (ha : a < 4294967296) (hM : Much a p M) (hL : Lists lo w h l) (h0 : h.n0 ≤ 65536) (h1 : h.n1 ≤ 65536) (h2 : h.n2 ≤ 65536) (h3 : h.n3 ≤ 65000) (hU : US w B m d ys) (hat : s.at_ = (tt : Int)) (hlm : tt < m) (htl : tt < lv M) (hk : s.kind = 1) (hse : l.ses = sn.map Int.ofNat) (hf : ∀ x ∈ sn, x < U64) (hn3 : tt < h.n3) (hph : s.phase = 7) :
    Calls Tryz.prog 71 #[.agg #[.int .u32 (a : Int), .int .i64 p, .slice A n c, .int .i64 sh, .int .i64 wo, .int .i64 qu, .int .i64 tr], .slice B m d, .agg (opv h s)] w (RetSw w.heap.size (swA (lv M) (gt ys tt) (gt sn tt) s) (swAL (lv M) (gt ys tt) (gt sn tt) s l) (swAB (lv M) (gt ys tt) (gt sn tt) s) w) := by
  unfold swA swAL swAB
  by_cases hne : gt ys tt = gt sn tt
  · rw [if_pos hne, if_pos hne, decide_eq_true hne]
    by_cases hlt : tt + 1 < lv M
    · rw [if_pos (by omega), if_pos (by omega), decide_eq_false (by omega)]; exact swstep_on ha hM hL h0 h1 h2 h3 hU hat hlm htl hk hse hf hn3 hph hne hlt
    · rw [if_neg (by omega), if_neg (by omega), decide_eq_true (by omega)]; exact swstep_end ha hM hL h0 h1 h2 h3 hU hat hlm htl hk hse hf hn3 hph hne hlt
  · rw [if_neg hne, if_neg hne, decide_eq_false hne]
    exact swstep_not ha hM hL h0 h1 h2 h3 hU hat hlm htl hk hse hf hn3 hph hne
end
end Go.Proofs.YtghecdccdmeooaaGreat

/-
  What a step of seeking leaves as it was; a seek, step by step: what is known of the leaves that it has passed. No program in it.
-/
namespace Go.Proofs.YtghecdccdmeooaaGreat
set_option maxRecDepth 100000
set_option linter.unusedVariables false
theorem skL_nil {sh : Int} {M : Nat} {ys : List Nat} {a b : Nat} {s : Sc} : skL sh M ys a b s ⟨[], [], [], []⟩ = ⟨[], [], [], []⟩ := by
  have els : ∀ s' : Sc, elsL sh s' ⟨[], [], [], []⟩ = ⟨[], [], [], []⟩ := fun s' => by unfold elsL; split <;> rfl
  unfold skL
  split
  · unfold onL
    split
    · rfl
    · exact els _
  · split
    · rfl
    · unfold onL
      split
      · rfl
      · exact els _
end Go.Proofs.YtghecdccdmeooaaGreat

/-
  A seek, step by step: which leaves it has passed, where it is, how far it can go on. No program in it.
-/
namespace Go.Proofs.YtghecdccdmeooaaGreat
set_option maxRecDepth 100000
set_option linter.unusedVariables false
theorem hit_iff {at_ x t : Nat} : hit at_ x t = true ↔ at_ ≤ t ∧ x.testBit t = false := by
  unfold hit
  simp
theorem nxt_cases (a b at_ x : Nat) : (∃ t, nxt a b at_ x = some t ∧ a / 64 ≤ t ∧ t < a / 64 + cnt_ a b ∧ at_ ≤ t ∧ x.testBit t = false ∧ ∀ u, a / 64 ≤ u → u < t → at_ ≤ u → x.testBit u = true) ∨
    (nxt a b at_ x = none ∧ ∀ u, a / 64 ≤ u → u < a / 64 + cnt_ a b → at_ ≤ u → x.testBit u = true) := by
  have aux : ∀ m, m ≤ cnt_ a b → (∀ j, j < m → hit at_ x (a / 64 + j) = false) ∨ ∃ k, k < m ∧ (∀ j, j < k → hit at_ x (a / 64 + j) = false) ∧ hit at_ x (a / 64 + k) = true := fun m => by
    induction m with
    | zero => intro _; exact .inl fun j h => absurd h (by omega)
    | succ m ih =>
      intro h
      rcases ih (by omega) with h1 | ⟨k, hk, h1, h2⟩
      · cases hb : hit at_ x (a / 64 + m) with
        | true => exact .inr ⟨m, by omega, h1, hb⟩
        | false =>
          refine .inl fun j hj => ?_
          by_cases e : j = m
          · rw [e]; exact hb
          · exact h1 j (by omega)
      · exact .inr ⟨k, by omega, h1, h2⟩
  have bit : ∀ u, hit at_ x u = false → at_ ≤ u → x.testBit u = true := fun u h hu => by
    cases hx : x.testBit u with
    | true => rfl
    | false => have := hit_iff.2 ⟨hu, hx⟩; rw [h] at this; cases this
  rcases aux _ (Nat.le_refl _) with h | ⟨k, hk, h1, h2⟩
  · refine .inr ⟨nxt_none h, fun u h1 h2 h3 => bit u ?_ h3⟩
    have := h (u - a / 64) (by omega)
    rwa [show a / 64 + (u - a / 64) = u by omega] at this
  · have hh := hit_iff.1 h2
    refine .inl ⟨a / 64 + k, nxt_some hk h1 h2, by omega, by omega, hh.1, hh.2, fun u g1 g2 g3 => bit u ?_ g3⟩
    have := h1 (u - a / 64) (by omega)
    rwa [show a / 64 + (u - a / 64) = u by omega] at this
theorem in_top {a b i : Nat} (h1 : a ≤ i) (h2 : i < b) : a / 64 ≤ i / 64 ∧ i / 64 < a / 64 + cnt_ a b := cnt_top.2 ⟨by omega, by omega, by omega⟩
theorem fre_cases (a b x t : Nat) : (∃ i, fre a b x t = some i ∧ a ≤ i ∧ i < b ∧ i / 64 = t ∧ x.testBit (i % 64) = false ∧ ∀ j, a ≤ j → j < i → j / 64 = t → x.testBit (j % 64) = true) ∨
    (fre a b x t = none ∧ ∀ j, a ≤ j → j < b → j / 64 = t → x.testBit (j % 64) = true) := by
  by_cases hin : a / 64 ≤ t ∧ t < a / 64 + cnt_ a b
  · have hc := cnt_top.1 hin
    have e1 : bfr a t = max a (64 * t) - 64 * t := rfl
    have e2 : bto b t = min b (64 * t + 64) - 64 * t := rfl
    have out : ∀ j, a ≤ j → j / 64 = t → ¬ (j % 64 < bfr a t) := fun j h1 h2 => by omega
    cases hf : fb (fl_ x (bfr a t)) (bto b t) with
    | true =>
      have hy := f_yes hf
      generalize hfi : fi (fl_ x (bfr a t)) (bto b t) = f at hy
      have hb := hy.2.1
      rw [fl_bit, Bool.or_eq_false_iff, decide_eq_false_iff_not] at hb
      refine .inl ⟨64 * t + f, ?_, by omega, by omega, by omega, ?_, fun j h1 h2 h3 => ?_⟩
      · unfold fre
        rw [inT_yes hin, if_pos rfl, hf, if_pos rfl, hfi]
      · rw [show (64 * t + f) % 64 = f by omega]; exact hb.1
      · have := hy.2.2 (j % 64) (by omega)
        rw [fl_bit, decide_eq_false (out j h1 h3), Bool.or_false] at this
        exact this
    | false =>
      have hn := (f_no hf).2
      refine .inr ⟨?_, fun j h1 h2 h3 => ?_⟩
      · unfold fre
        rw [inT_yes hin, if_pos rfl, hf, if_neg Bool.false_ne_true]
      · have := hn (j % 64) (by omega)
        rw [fl_bit, decide_eq_false (out j h1 h3), Bool.or_false] at this
        exact this
  · refine .inr ⟨?_, fun j h1 h2 h3 => ?_⟩
    · unfold fre
      rw [inT_no hin, if_neg Bool.false_ne_true]
    · have := in_top h1 h2
      rw [h3] at this
      exact absurd this hin
/-- Is the leaf hinted to be full? -/
def hf (M : Nat) (ys : List Nat) (i : Nat) : Bool := (gt ys (lv M + i / 64)).testBit (i % 64) || (gt ys (lv M + tv M)).testBit (i / 64)
/-- The leaves of the k-th shard that is sought. -/
def sa (M ns hd k : Nat) : Nat := ct (lv M) ns ((hd + k) % ns)
def sb (M ns hd k : Nat) : Nat := ct (lv M) ns ((hd + k) % ns + 1)
theorem sab {M ns hd k : Nat} (h : 1 ≤ ns) : sa M ns hd k ≤ sb M ns hd k ∧ sb M ns hd k ≤ lv M := by
  refine ⟨ct_mono (by omega), ?_⟩
  have := ct_mono (L := lv M) (p := ns) (show (hd + k) % ns + 1 ≤ ns by have := Nat.mod_lt (hd + k) h; omega)
  rwa [ct_all h] at this
def Pas (M ns hd : Nat) (ys : List Nat) (k : Nat) : Prop := ∀ j, j < k → ∀ i, sa M ns hd j ≤ i → i < sb M ns hd j → hf M ys i = true
section
variable {M ns hd k t : Nat} {ys : List Nat} {s : Sc}
theorem Pas.succ (h : Pas M ns hd ys k) (h2 : ∀ i, sa M ns hd k ≤ i → i < sb M ns hd k → hf M ys i = true) : Pas M ns hd ys (k + 1) := fun j hj i h3 h4 => by
  by_cases e : j = k
  · subst e; exact h2 i h3 h4
  · exact h j (by omega) i h3 h4
end
end Go.Proofs.YtghecdccdmeooaaGreat

/-
  A grant, step by step, as functions of numbers and lists; what holds of it whatever others do between. No program in it.
-/
namespace Go.Proofs.YtghecdccdmeooaaGreat
set_option maxRecDepth 100000
set_option maxRecDepth 100000
open Go.RowKit
set_option linter.unusedVariables false
/-- A grant's lists: what it has seen. -/
def gl (sn : List Nat) : Ls := ⟨[], [], [], sn.map Int.ofNat⟩
/-- A step of a grant: the operation, what it has seen, the cells, whether it takes effect. -/
def gS (a M ns : Nat) (ys : List Nat) (s : Sc) (sn : List Nat) : Sc :=
  if s.phase = 1 then skS (ns : Int) M ys (sa M ns s.shard.toNat s.sought.toNat) (sb M ns s.shard.toNat s.sought.toNat) s
  else if s.phase = 2 then lookS (ns : Int) (gt ys s.leaf.toNat) s
  else if s.phase = 3 then claimS a 0 [] (gt ys s.leaf.toNat) s
  else if s.phase = 4 ∨ s.phase = 5 then stO a M 0 [] ys s
  else if s.phase = 6 then swF (lv M) (gt ys s.at_.toNat) s
  else if s.phase = 7 then swA (lv M) (gt ys s.at_.toNat) (gt sn s.at_.toNat) s
  else s
def gN (M : Nat) (ys : List Nat) (s : Sc) (sn : List Nat) : List Nat :=
  if s.phase = 6 then (if fb (gt ys s.at_.toNat) 32 = true then [] else sn ++ [gt ys s.at_.toNat])
  else if s.phase = 7 then (if gt ys s.at_.toNat = gt sn s.at_.toNat then (if s.at_ + 1 < (lv M : Int) then sn else []) else [])
  else sn
def gC (M : Nat) (ys : List Nat) (s : Sc) : List Nat :=
  if s.phase = 3 then claimC ys s else if s.phase = 4 ∨ s.phase = 5 then stC M ys s else ys
def gB (M : Nat) (ys : List Nat) (s : Sc) (sn : List Nat) : Bool :=
  if s.phase = 3 then decide (gt ys s.leaf.toNat = s.word) else if s.phase = 7 then swAB (lv M) (gt ys s.at_.toNat) (gt sn s.at_.toNat) s else false
/-- A grant that begins. -/
def gS0 (hd : Int) : Sc := ⟨1, 0, 0, 0, false, 1, hd, 0, 0, 0, 0, false, 0, 0, 0, 0⟩
/-- Words that saw no free bit. -/
def Fls (sn : List Nat) : Prop := ∀ x, x ∈ sn → x < U64 ∧ fl x = true
/-- Where a grant may be. -/
inductive GP (M ns : Nat) (zs : List Int) (s : Sc) : List Nat → Prop
  | done (h : s.phase = 0) : GP M ns zs s []
  | seek (k t : Nat) (h : s.phase = 1) (h1 : s.sought = (k : Int)) (h2 : s.at_ = (t : Int)) (h3 : k < ns) (h4 : t ≤ tv M) : GP M ns zs s []
  | look (i : Nat) (h : s.phase = 2) (h1 : s.leaf = (i : Int)) (h2 : i < lv M) : GP M ns zs s []
  | claim (i b : Nat) (h : s.phase = 3) (h1 : s.leaf = (i : Int)) (h2 : s.bit = (b : Int)) (h3 : i < lv M) (h4 : b < 32) (h5 : nf M zs i b = false) (h6 : s.word.testBit b = false) : GP M ns zs s []
  | mark (i : Nat) (h : s.phase = 4 ∨ s.phase = 5) (h1 : s.leaf = (i : Int)) (h2 : i < lv M) (h3 : s.at_ = 0 ∨ s.at_ = 1) : GP M ns zs s []
  | first (sn : List Nat) (h : s.phase = 6) (h1 : s.at_ = (sn.length : Int)) (h2 : sn.length < lv M) (h3 : Fls sn) : GP M ns zs s sn
  | again (sn : List Nat) (t : Nat) (h : s.phase = 7) (h1 : s.at_ = (t : Int)) (h2 : t < lv M) (h3 : sn.length = lv M) (h4 : Fls sn) : GP M ns zs s sn
structure GI (M ns : Nat) (zs : List Int) (N : Nat) (s : Sc) (sn : List Nat) : Prop where
  kd : s.kind = 1
  er : s.phase ≠ 0 → s.err = 0
  sd : 0 ≤ s.shard ∧ s.shard < (ns : Int)
  so : 0 ≤ s.sought ∧ s.sought ≤ (N : Int)
  it : s.item = 0
  aa : 0 ≤ s.aad ∧ s.aad < 4294967296
  wd : s.word < 18446744073709551616
  ph : GP M ns zs s sn
/-- The cells: as many as there are, and in the leaves the bits that can't be free are set. -/
structure YI (M : Nat) (zs : List Int) (ys : List Nat) : Prop where
  len : ys.length = lv M + tv M + 1
  fit : ∀ x ∈ ys, x < U64
  top : ∀ i b, i < lv M → b < 32 → nf M zs i b = true → (gt ys i).testBit b = true
section
variable {a M ns N : Nat} {zs : List Int} {ys : List Nat} {s : Sc} {sn : List Nat}
theorem YI.leaf (h : YI M zs ys) {i W : Nat} (hi : i < lv M) (hW : W < U64) (hb : ∀ b, b < 32 → nf M zs i b = true → W.testBit b = true) : YI M zs (ys.set i W) := by
  refine ⟨by simpa using h.len, fit_set h.fit _ hW, fun j b hj hb' hn => ?_⟩
  rw [gt_set (by have := h.len; omega)]
  split
  · rename_i e; subst e; exact hb b hb' hn
  · exact h.top j b hj hb' hn
theorem YI.sum (h : YI M zs ys) {i W : Nat} (hi : lv M ≤ i) (hW : W < U64) : YI M zs (ys.set i W) := by
  refine ⟨by simpa using h.len, fit_set h.fit _ hW, fun j b hj hb' hn => ?_⟩
  have e : gt (ys.set i W) j = gt ys j := by
    by_cases hl : i < ys.length
    · rw [gt_set hl, if_neg (by omega)]
    · rw [List.set_eq_of_length_le (by omega)]
  rw [e]; exact h.top j b hj hb' hn
theorem gt_sum {i j W : Nat} (hi : lv M ≤ i) (hj : j < lv M) : gt (ys.set i W) j = gt ys j := by
  by_cases hl : i < ys.length
  · rw [gt_set hl, if_neg (by omega)]
  · rw [List.set_eq_of_length_le (by omega)]
/-- A free bit is an offset's, and not reserved. -/
theorem YI.free (h : YI M zs ys) {i b : Nat} (hi : i < lv M) (hb : b < 32) (h0 : (gt ys i).testBit b = false) : nf M zs i b = false := by
  cases hn : nf M zs i b with
  | false => rfl
  | true => rw [h.top i b hi hb hn] at h0; cases h0
theorem nf_no {i b : Nat} (h : nf M zs i b = false) : 32 * i + b < M ∧ hasB zs ((32 * i + b : Nat) : Int) = false := by
  unfold nf at h
  rw [Bool.or_eq_false_iff, decide_eq_false_iff_not] at h
  exact ⟨by omega, h.2⟩
theorem gon_one {n : Nat} {xs : List Int} {s : Sc} (h : s.kind = 1) : gon a n xs s = ende s := by
  unfold gon fur
  rw [if_neg (by simp [h])]
/-- Where a seek is behind a step. -/
def skAt (s : Sc) (u x : Nat) : Sc := ⟨s.kind, s.addr, s.err, s.aad, s.used, s.phase, s.shard, s.sought, s.leaf, s.bit, x, s.full, (u : Int), s.tries, s.item, s.stamp⟩
theorem els_mv {k : Nat} {s s' : Sc} (hso : s'.sought = (k : Int)) (hk : k < ns) (e1 : seekS s' = seekS s) (e2 : firstS s' = firstS s) :
    (k + 1 < ns ∧ elsS (ns : Int) s' = seekS s) ∨ (k + 1 = ns ∧ elsS (ns : Int) s' = firstS s) := by
  unfold elsS
  split
  · exact .inl ⟨by omega, e1⟩
  · exact .inr ⟨by omega, e2⟩
theorem on_mv {hd k t : Nat} {s s' : Sc} (hns : 1 ≤ ns) (hso : s'.sought = (k : Int)) (hat : s'.at_ = (t : Int)) (hk : k < ns) (hw : s'.word < 18446744073709551616) (e0 : ∀ u, atS s' u = skAt s (u + 1) s'.word) (e1 : seekS s' = seekS s) (e2 : firstS s' = firstS s) :
    (∃ u x, t < u ∧ u ≤ tv M ∧ x < 18446744073709551616 ∧ onS (ns : Int) (sa M ns hd k) (sb M ns hd k) s' = skAt s u x) ∨ (k + 1 < ns ∧ onS (ns : Int) (sa M ns hd k) (sb M ns hd k) s' = seekS s) ∨ (k + 1 = ns ∧ onS (ns : Int) (sa M ns hd k) (sb M ns hd k) s' = firstS s) := by
  obtain ⟨hab, hbl⟩ := sab (M := M) (hd := hd) (k := k) hns
  unfold onS
  rw [hat, Int.toNat_natCast]
  rcases nxt_cases (sa M ns hd k) (sb M ns hd k) t s'.word with ⟨u, e, g1, g2, g3, g4, g5⟩ | ⟨e, g⟩
  · rw [e]
    refine .inl ⟨u + 1, s'.word, by omega, ?_, hw, e0 u⟩
    have := cnt_top.1 ⟨g1, g2⟩
    unfold tv tq
    omega
  · rw [e]
    exact .inr (els_mv hso hk e1 e2)
theorem seek_mv {hd k t : Nat} (hns : 1 ≤ ns) (hso : s.sought = (k : Int)) (hat : s.at_ = (t : Int)) (hk : k < ns) (hw : s.word < 18446744073709551616) (hx : gt ys (lv M + tv M) < 18446744073709551616) :
    (∃ u x, t < u ∧ u ≤ tv M ∧ x < 18446744073709551616 ∧ skS (ns : Int) M ys (sa M ns hd k) (sb M ns hd k) s = skAt s u x) ∨ (∃ i, i < lv M ∧ skS (ns : Int) M ys (sa M ns hd k) (sb M ns hd k) s = foundS s i) ∨
    (k + 1 < ns ∧ skS (ns : Int) M ys (sa M ns hd k) (sb M ns hd k) s = seekS s) ∨ (k + 1 = ns ∧ skS (ns : Int) M ys (sa M ns hd k) (sb M ns hd k) s = firstS s) := by
  obtain ⟨hab, hbl⟩ := sab (M := M) (hd := hd) (k := k) hns
  unfold skS
  split
  · rename_i h0
    have ht : t = 0 := by omega
    subst ht
    rcases on_mv (M := M) (hd := hd) (s := s) (s' := wdS s (gt ys (lv M + tv M))) hns hso hat hk hx (fun u => rfl) rfl rfl with h | h | h
    · exact .inl h
    · exact .inr (.inr (.inl h))
    · exact .inr (.inr (.inr h))
  · rcases fre_cases (sa M ns hd k) (sb M ns hd k) (gt ys (lv M + (s.at_.toNat - 1))) (s.at_.toNat - 1) with ⟨i, e, g1, g2, _⟩ | ⟨e, _⟩
    · rw [e]
      exact .inr (.inl ⟨i, by omega, rfl⟩)
    · rw [e]
      rcases on_mv (M := M) (hd := hd) (s := s) (s' := s) hns hso hat hk hw (fun u => rfl) rfl rfl with h | h | h
      · exact .inl h
      · exact .inr (.inr (.inl h))
      · exact .inr (.inr (.inr h))
/-- What a step of marking may come to. -/
theorem dn_mv {n : Nat} {xs : List Int} {s : Sc} (hk : s.kind = 1) : dn a n xs s = ende s ∨ (s.at_ = 0 ∧ dn a n xs s = root_ s) := by
  unfold dn
  split
  · exact .inl (gon_one hk)
  · rename_i h
    refine .inr ⟨?_, rfl⟩
    unfold ends_ at h
    simp at h
    exact h.1
theorem mark_mv (hk : s.kind = 1) (hp : s.phase = 4 ∨ s.phase = 5) : (∃ x, x < 18446744073709551616 ∧ stO a M 0 [] ys s = setp (worded s x) ∧ s.phase = 4) ∨ (∃ x, x < 18446744073709551616 ∧ s.at_ = 0 ∧ stO a M 0 [] ys s = root_ (worded s x)) ∨ (∃ x, stO a M 0 [] ys s = ende (worded s x)) ∨ (¬ s.word < 18446744073709551616 ∨ ¬ gt ys (hcel M s) < 18446744073709551616 ∨ ¬ bt s < 64) := by
  by_cases hw : s.word < 18446744073709551616
  rotate_left
  · exact .inr (.inr (.inr (.inl hw)))
  by_cases hx : gt ys (hcel M s) < 18446744073709551616
  rotate_left
  · exact .inr (.inr (.inr (.inr (.inl hx))))
  by_cases hb : bt s < 64
  rotate_left
  · exact .inr (.inr (.inr (.inr (.inr hb))))
  have aux : ∀ x, x < 18446744073709551616 → (∃ x, x < 18446744073709551616 ∧ s.at_ = 0 ∧ dn a 0 [] (worded s x) = root_ (worded s x)) ∨ (∃ x, dn a 0 [] (worded s x) = ende (worded s x)) := fun x hx => by
    rcases dn_mv (a := a) (n := 0) (xs := []) (s := worded s x) hk with h | ⟨h0, h⟩
    · exact .inr ⟨x, h⟩
    · exact .inl ⟨x, hx, h0, h⟩
  unfold stO
  split
  · rename_i h4
    unfold lk
    split
    · rcases dn_mv (a := a) (n := 0) (xs := []) (s := worded s (gt ys (hcel M s))) hk with h | ⟨h0, h⟩
      · exact .inr (.inr (.inl ⟨_, h⟩))
      · exact .inr (.inl ⟨_, hx, h0, h⟩)
    · exact .inl ⟨_, hx, rfl, h4⟩
  · rcases dn_mv (a := a) (n := 0) (xs := []) (s := worded s (mkd s.word (bt s) s.full)) hk with h | ⟨h0, h⟩
    · exact .inr (.inr (.inl ⟨_, h⟩))
    · exact .inr (.inl ⟨_, mkd_lt _ hw hb, h0, h⟩)
/-- Marking leaves the leaves. -/
theorem stC_sum (hlv : ∀ i : Nat, s.leaf = (i : Int) → i < lv M → i / 64 < tv M) : stC M ys s = ys ∨ ∃ i W, lv M ≤ i ∧ stC M ys s = ys.set i W ∧ W = mkd s.word (bt s) s.full := by
  unfold stC
  split
  · exact .inl rfl
  · split
    · refine .inr ⟨hcel M s, _, ?_, rfl, rfl⟩
      unfold hcel
      split <;> omega
    · exact .inl rfl
theorem claim_mv (hk : s.kind = 1) (x : Nat) : (x = s.word ∧ (claimS a 0 [] x s = fullS (adS s (adr a s.leaf.toNat s.bit.toNat)) ∨ claimS a 0 [] x s = ende (adS s (adr a s.leaf.toNat s.bit.toNat)))) ∨ (x ≠ s.word ∧ claimS a 0 [] x s = againS s ∧ (againS s).phase = 2) := by
  unfold claimS
  split
  · rename_i h
    refine .inl ⟨h, ?_⟩
    split
    · exact .inl rfl
    · exact .inr (gon_one hk)
  · rename_i h
    exact .inr ⟨h, rfl, if_pos hk⟩
theorem fls_snoc {x : Nat} (h : Fls sn) (hx : x < U64) (hf : fb x 32 = false) : Fls (sn ++ [x]) := fun y hy => by
  rcases List.mem_append.1 hy with h1 | h1
  · exact h y h1
  · rw [List.mem_singleton.1 h1]
    exact ⟨hx, by unfold fl; rw [hf]; rfl⟩
theorem fls_nil : Fls [] := fun _ h => by cases h
theorem lv_top {i : Nat} (hM : M ≤ 65536) (hi : i < lv M) : i / 64 < tv M ∧ i / 64 < 64 ∧ i % 64 < 64 ∧ tv M ≤ 64 := by
  have := lv_le hM
  unfold tv tq
  omega
theorem adr_rng {a x y : Nat} : (0 : Int) ≤ ((adr a x y : Nat) : Int) ∧ ((adr a x y : Nat) : Int) < 4294967296 := ⟨by omega, by unfold adr; omega⟩
/-- What holds stays so at a step. -/
theorem gi_step (hM : M ≤ 65536) (hM0 : 0 < M) (hns : 1 ≤ ns) (h : GI M ns zs N s sn) (hy : YI M zs ys) : GI M ns zs (N + 1) (gS a M ns ys s sn) (gN M ys s sn) ∧ YI M zs (gC M ys s) := by
  obtain ⟨kd, er, sd, so, it, aa, wd, ph⟩ := h
  have hL : 0 < lv M := by unfold lv; omega
  cases ph with
  | done h =>
    unfold gS gN gC
    simp only [h]
    refine ⟨?_, hy⟩
    show GI M ns zs (N + 1) s []
    exact ⟨kd, er, sd, ⟨so.1, by omega⟩, it, aa, wd, .done h⟩
  | seek k t h h1 h2 h3 h4 =>
    have e : s.sought.toNat = k := by rw [h1, Int.toNat_natCast]
    unfold gS gN gC
    simp only [h, e]
    have er0 := er (by omega)
    refine ⟨?_, hy⟩
    show GI M ns zs (N + 1) (skS (ns : Int) M ys (sa M ns s.shard.toNat k) (sb M ns s.shard.toNat k) s) []
    rcases seek_mv (M := M) (ys := ys) (hd := s.shard.toNat) hns h1 h2 h3 wd (gt_lt hy.fit _) with ⟨u, x, g1, g2, g3, g4⟩ | ⟨i, g1, g2⟩ | ⟨g1, g2⟩ | ⟨g1, g2⟩
    · rw [g4]; exact ⟨kd, fun _ => er0, sd, ⟨so.1, by show s.sought ≤ _; omega⟩, it, aa, g3, .seek k u h h1 rfl h3 g2⟩
    · rw [g2]; exact ⟨kd, fun _ => er0, sd, ⟨so.1, by show s.sought ≤ _; omega⟩, it, aa, by show 0 < _; omega, .look i rfl rfl g1⟩
    · rw [g2]; exact ⟨kd, fun _ => er0, sd, ⟨by show 0 ≤ s.sought + 1; omega, by show s.sought + 1 ≤ _; omega⟩, it, aa, by show 0 < _; omega, .seek (k + 1) 0 rfl (by show s.sought + 1 = _; omega) rfl g1 (Nat.zero_le _)⟩
    · rw [g2]; exact ⟨kd, fun _ => er0, sd, ⟨by show 0 ≤ s.sought + 1; omega, by show s.sought + 1 ≤ _; omega⟩, it, aa, by show 0 < _; omega, .first [] rfl rfl hL fls_nil⟩
  | look i h h1 h2 =>
    have e : s.leaf.toNat = i := by rw [h1, Int.toNat_natCast]
    unfold gS gN gC
    simp only [h, e]
    have er0 := er (by omega)
    refine ⟨?_, hy⟩
    show GI M ns zs (N + 1) (lookS (ns : Int) (gt ys i) s) []
    unfold lookS
    split
    · rename_i hb
      obtain ⟨f1, f2, f3⟩ := f_yes hb
      exact ⟨kd, fun _ => er0, sd, ⟨so.1, by show s.sought ≤ _; omega⟩, it, aa, gt_lt hy.fit _, .claim i _ rfl h1 rfl h2 f1 (hy.free h2 f1 f2) f2⟩
    · split
      · rename_i hlt
        exact ⟨kd, fun _ => er0, sd, ⟨by show 0 ≤ s.sought + 1; omega, by show s.sought + 1 ≤ _; omega⟩, it, aa, by show 0 < _; omega, .seek (s.sought + 1).toNat 0 rfl (by show s.sought + 1 = _; omega) rfl (by omega) (Nat.zero_le _)⟩
      · exact ⟨kd, fun _ => er0, sd, ⟨by show 0 ≤ s.sought + 1; omega, by show s.sought + 1 ≤ _; omega⟩, it, aa, by show 0 < _; omega, .first [] rfl rfl hL fls_nil⟩
  | claim i b h h1 h2 h3 h4 h5 h6 =>
    have e : s.leaf.toNat = i := by rw [h1, Int.toNat_natCast]
    have e2 : s.bit.toNat = b := by rw [h2, Int.toNat_natCast]
    have er0 := er (by omega)
    unfold gS gN gC
    simp only [h]
    constructor
    · show GI M ns zs (N + 1) (claimS a 0 [] (gt ys s.leaf.toNat) s) []
      rcases claim_mv (a := a) kd (gt ys s.leaf.toNat) with ⟨g0, g | g⟩ | ⟨g0, g, gp⟩
      · rw [g]; exact ⟨kd, fun _ => er0, sd, ⟨so.1, by show s.sought ≤ _; omega⟩, it, adr_rng, by show 0 < _; omega, .mark i (.inl rfl) h1 h3 (.inl rfl)⟩
      · rw [g]; exact ⟨kd, fun h => absurd rfl h, sd, ⟨so.1, by show s.sought ≤ _; omega⟩, it, adr_rng, by show 0 < _; omega, .done rfl⟩
      · rw [g]; exact ⟨kd, fun _ => er0, sd, ⟨so.1, by show s.sought ≤ _; omega⟩, it, aa, by show 0 < _; omega, .look i gp h1 h3⟩
    · show YI M zs (claimC ys s)
      unfold claimC
      rw [e, e2]
      split
      · rename_i hx
        refine hy.leaf h3 (clm_lt _ _) fun k hk hn => ?_
        rw [clm_bit _ _ hk, ← hx, hy.top i k h3 hk hn]; rfl
      · exact hy
  | mark i h h1 h2 h3 =>
    have hn : ¬ s.phase = 1 ∧ ¬ s.phase = 2 ∧ ¬ s.phase = 3 ∧ ¬ s.phase = 6 ∧ ¬ s.phase = 7 ∧ s.phase ≠ 0 := by omega
    obtain ⟨n1, n2, n3, n6, n7, n0⟩ := hn
    have er0 := er n0
    have hlt := lv_top hM h2
    have hlf : s.leaf.toNat = i := by rw [h1, Int.toNat_natCast]
    have hbt : bt s < 64 := by unfold bt; rw [hlf]; split <;> omega
    unfold gS gN gC
    rw [if_neg n1, if_neg n2, if_neg n3, if_pos h, if_neg n6, if_neg n7, if_neg n3, if_pos h]
    constructor
    · rcases mark_mv (a := a) (M := M) (ys := ys) kd h with ⟨x, g1, g2, g3⟩ | ⟨x, g1, g2, g3⟩ | ⟨x, g⟩ | g | g | g
      · rw [g2]; exact ⟨kd, fun _ => er0, sd, ⟨so.1, by show s.sought ≤ _; omega⟩, it, aa, g1, .mark i (.inr rfl) h1 h2 h3⟩
      · rw [g3]; exact ⟨kd, fun _ => er0, sd, ⟨so.1, by show s.sought ≤ _; omega⟩, it, aa, g1, .mark i (.inl rfl) h1 h2 (.inr rfl)⟩
      · rw [g]; exact ⟨kd, fun h => absurd rfl h, sd, ⟨so.1, by show s.sought ≤ _; omega⟩, it, aa, by show 0 < _; omega, .done rfl⟩
      · exact absurd wd g
      · exact absurd (gt_lt hy.fit _) g
      · exact absurd hbt g
    · rcases stC_sum (M := M) (ys := ys) (s := s) (fun j e hj => (lv_top hM hj).1) with e | ⟨j, W, hj, e, eW⟩
      · rw [e]; exact hy
      · rw [e]
        refine hy.sum hj ?_
        rw [eW]; exact mkd_lt _ wd hbt
  | first sn h h1 h2 h3 =>
    have e : s.at_.toNat = sn.length := by rw [h1, Int.toNat_natCast]
    have er0 := er (by omega)
    unfold gS gN gC
    simp only [h, e]
    refine ⟨?_, hy⟩
    show GI M ns zs (N + 1) (swF (lv M) (gt ys sn.length) s) (if fb (gt ys sn.length) 32 = true then [] else sn ++ [gt ys sn.length])
    unfold swF
    cases hb : fb (gt ys sn.length) 32 with
    | true =>
      obtain ⟨f1, f2, f3⟩ := f_yes hb
      rw [if_pos rfl, if_pos rfl]
      exact ⟨kd, fun _ => er0, sd, ⟨so.1, by show s.sought ≤ _; omega⟩, it, aa, gt_lt hy.fit _, .claim sn.length _ rfl h1 rfl h2 f1 (hy.free h2 f1 f2) f2⟩
    | false =>
      rw [if_neg Bool.false_ne_true, if_neg Bool.false_ne_true]
      have hF := fls_snoc h3 (gt_lt hy.fit _) hb
      split
      · rename_i hlt
        exact ⟨kd, fun _ => er0, sd, ⟨so.1, by show s.sought ≤ _; omega⟩, it, aa, wd, .first _ h (by show s.at_ + 1 = _; simp; omega) (by simp; omega) hF⟩
      · rename_i hlt
        exact ⟨kd, fun _ => er0, sd, ⟨so.1, by show s.sought ≤ _; omega⟩, it, aa, wd, .again _ 0 rfl rfl hL (by simp; omega) hF⟩
  | again sn t h h1 h2 h3 h4 =>
    have e : s.at_.toNat = t := by rw [h1, Int.toNat_natCast]
    have er0 := er (by omega)
    unfold gS gN gC
    simp only [h, e]
    refine ⟨?_, hy⟩
    show GI M ns zs (N + 1) (swA (lv M) (gt ys t) (gt sn t) s) (if gt ys t = gt sn t then (if s.at_ + 1 < (lv M : Int) then sn else []) else [])
    unfold swA
    split
    · split
      · rename_i hx hlt
        exact ⟨kd, fun _ => er0, sd, ⟨so.1, by show s.sought ≤ _; omega⟩, it, aa, wd, .again sn (t + 1) h (by show s.at_ + 1 = _; omega) (by omega) h3 h4⟩
      · exact ⟨kd, fun h => absurd rfl h, sd, ⟨so.1, by show s.sought ≤ _; omega⟩, it, aa, wd, .done rfl⟩
    · exact ⟨kd, fun _ => er0, sd, ⟨so.1, by show s.sought ≤ _; omega⟩, it, aa, wd, .first [] rfl rfl hL fls_nil⟩
theorem gi_start {hd : Int} (h0 : 0 ≤ hd) (h1 : hd < (ns : Int)) : GI M ns zs N (gS0 hd) [] :=
  ⟨rfl, fun _ => rfl, ⟨h0, h1⟩, ⟨Int.le_refl _, by show (0 : Int) ≤ _; omega⟩, rfl, ⟨Int.le_refl _, by show (0 : Int) < _; omega⟩, by show 0 < _; omega, .seek 0 0 rfl rfl rfl (by omega) (Nat.zero_le _)⟩
end
end Go.Proofs.YtghecdccdmeooaaGreat

/-
  What the steps that a grant is made of answer of a grant. Conditions: a block that may be, as many cells as there are, a grant where it may be.
-/
namespace Go.Proofs.YtghecdccdmeooaaGreat
set_option maxRecDepth 100000
set_option maxRecDepth 100000
open Go.RowKit
set_option linter.unusedVariables false
/-- What a step answers: cells in new memory or those that were handed in, an operation with lists of its own, whether it took effect. -/
def RetG (s : Sc) (l : Ls) (m : Nat) (ys : List Nat) (b : Bool) (B0 : Option Addr) (w : World) (e : Ending) (w' : World) : Prop :=
  ∃ h' B d, e = .returned (.tuple #[.slice B m d, .agg (opv h' s), .bool b]) ∧ US w' B m d ys ∧ Lists w.heap.size w' h' l ∧ (∀ k, k < w.heap.size → Apart k B0 → Apart k B) ∧ Below w.heap.size w w'
section
variable {w w' : World} {lo a M ns m d N : Nat} {p wo qu tr : Int} {A B : Option Addr} {n c : Nat} {zs : List Int} {ys : List Nat} {h : Hd} {s : Sc} {sn : List Nat}
theorem gl_len (H : Lists lo w h (gl sn)) : h.n0 = 0 ∧ h.n1 = 0 ∧ h.n2 = 0 ∧ h.n3 = sn.length := by
  have h0 := H.i0.len
  have h1 := H.i1.len
  have h2 := H.i2.len
  have h3 := H.i3.len
  unfold gl at h0 h1 h2 h3
  simp at h0 h1 h2 h3
  exact ⟨h0.symm, h1.symm, h2.symm, h3.symm⟩
theorem gp_few (hM : M ≤ 65536) (hG : GI M ns zs N s sn) : sn.length ≤ 2048 := by
  have := lv_le hM
  cases hG.ph <;> first | (simp; done) | omega
theorem IS.emp0 {k : IntKind} {lo : Nat} {w : World} {A : Option Addr} {n c : Nat} (h : IS k lo w A n c []) (lo' : Nat) (w' : World) : IS k lo' w' A n c [] := by
  have := h.len
  simp at this
  exact ⟨h.len, h.cap, h.most, h.nil_, fun hn => absurd hn (by omega)⟩
/-- A grant's lists, as a fact of what a call knows. -/
def gF (h : Hd) (sn : List Nat) : Fct := ⟨fun w => Lists 0 w h (gl sn), fun b => 0 < h.n3 ∧ ∃ o, h.A3 = some ⟨b, o, none⟩⟩
theorem gF_ok : (gF h sn).Ok :=
  ⟨fun w w' H hs hk => ⟨H.i0.emp0 _ _, H.i1.emp0 _ _, H.i2.emp0 _ _, IS.keep H.i3 hs fun b o hn e hb => hk b hb ⟨hn, o, e⟩⟩, fun w b H hf => by
    obtain ⟨hn, o, e⟩ := hf
    obtain ⟨b', o', e', _, hl, _⟩ := IS.cells H.i3 hn
    rw [e] at e'; injection e' with e'; injection e' with e1 e2; omega⟩
theorem Loc.gf {w0 : World} {bs : List Bl} {fs : List Fct} (L : Loc w0 w bs fs) (hl : ∀ i b, nth bs i = some b → b.1 < lo) (H : Lists lo w h (gl sn)) : Loc w0 w bs (gF h sn :: fs) :=
  L.add _ (H.lower_ (Nat.zero_le _)) gF_ok fun i b e hf => by
    obtain ⟨hn, o, e'⟩ := hf
    obtain ⟨b', o', e2, hlo, _⟩ := IS.cells H.i3 hn
    have := hl i b e
    rw [e'] at e2; injection e2 with e2; injection e2 with e3 e4; omega
theorem Loc.gf0 {w0 : World} {bs : List Bl} {fs : List Fct} (L : Loc w0 w bs fs) : Loc w0 w bs (gF hd0 [] :: fs) :=
  L.add _ (Lists.hd0 _) gF_ok fun i b e hf => absurd hf.1 (by show ¬ 0 < 0; omega)
theorem Loc.gf_ {w0 : World} {bs : List Bl} {fs : List Fct} (L : Loc w0 w bs fs) (k : Nat) (e : nth fs k = some (gF h sn)) : Lists 0 w h (gl sn) := L.get k e
set_option maxHeartbeats 1000000
theorem gp_seek (ha : a < 4294967296) (hM : Much a p M) (h1 : 1 ≤ ns) (h2 : ns ≤ 64) (hG : GI M ns zs N s sn) (hY : YI M zs ys) (hU : US w B m d ys) (hL : Lists lo w h (gl sn)) (hph : s.phase = 1) :
    Calls Tryz.prog 67 #[.agg #[.int .u32 (a : Int), .int .i64 p, .slice A n c, .int .i64 (ns : Int), .int .i64 wo, .int .i64 qu, .int .i64 tr], .slice B m d, .agg (opv h s)] w (RetSk (gS a M ns ys s sn) (gl (gN M ys s sn)) w) := by
  obtain ⟨z0, z1, z2, z3⟩ := gl_len hL
  have hml := hU.len
  have hyl := hY.len
  obtain ⟨kd, er, sd, so, it, aa, wd, ph⟩ := hG
  have e1 : gS a M ns ys s sn = skS (ns : Int) M ys (sa M ns s.shard.toNat s.sought.toNat) (sb M ns s.shard.toNat s.sought.toNat) s := by unfold gS; rw [if_pos hph]
  have e2 : gN M ys s sn = sn := by unfold gN; rw [if_neg (by omega), if_neg (by omega)]
  rw [e1, e2]
  cases ph with
  | seek k t q1 q2 q3 q4 q5 =>
    have ht := tv_le hM.most
    have e : s.sought.toNat = k := by rw [q2, Int.toNat_natCast]
    rw [e]
    have R := sstep_any (w := w) (lo := lo) (M := M) (ns := ns) (hd := s.shard.toNat) (k := k) (tt := t) (wo := wo) (qu := qu) (tr := tr) (A := A) (n := n) (c := c) hL (by omega) (by omega) (by omega) (by simp at z3; omega) hU (by omega) wd hph ha hM h1 h2 (by omega) (by omega) q2 q4 q3 (by omega)
    have e3 : ∀ x y, skL (ns : Int) M ys x y s (gl []) = gl [] := fun x y => skL_nil
    rw [e3] at R
    exact R
  | _ => omega
theorem gp_claim (ha : a < 4294967296) (hM : Much a p M) (h1 : 1 ≤ ns) (h2 : ns ≤ 64) (hN : N ≤ 60000) (hG : GI M ns zs N s sn) (hY : YI M zs ys) (hU : US w B m d ys) (hL : Lists lo w h (gl sn)) (hph : s.phase = 2 ∨ s.phase = 3) :
    Calls Tryz.prog 69 #[.agg #[.int .u32 (a : Int), .int .i64 p, .slice A n c, .int .i64 (ns : Int), .int .i64 wo, .int .i64 qu, .int .i64 tr], .slice B m d, .agg (opv h s)] w (RetG (gS a M ns ys s sn) (gl (gN M ys s sn)) m (gC M ys s) (gB M ys s sn) B w) := by
  obtain ⟨z0, z1, z2, z3⟩ := gl_len hL
  have hml := hU.len
  have hyl := hY.len
  have hlv := lv_le hM.most
  have htv := tv_le hM.most
  obtain ⟨kd, er, sd, so, it, aa, wd, ph⟩ := hG
  cases ph with
  | look i q1 q2 q3 =>
    have e : s.leaf.toNat = i := by rw [q2, Int.toNat_natCast]
    have e1 : gS a M ns ys s [] = lookS (ns : Int) (gt ys i) s := by unfold gS; rw [if_neg (by omega), if_pos q1, e]
    have e2 : gN M ys s [] = [] := by unfold gN; rw [if_neg (by omega), if_neg (by omega)]
    have e3 : gC M ys s = ys := by unfold gC; rw [if_neg (by omega), if_neg (by omega)]
    have e4 : gB M ys s [] = false := by unfold gB; rw [if_neg (by omega), if_neg (by omega)]
    rw [e1, e2, e3, e4]
    have R := cstep_look (w := w) (a := a) (p := p) (sh := (ns : Int)) (wo := wo) (qu := qu) (tr := tr) (A := A) (n := n) (c := c) hL (by omega) (by omega) (by omega) (by simp at z3; omega) hU q2 (by omega) so.1 (by omega) q1
    have e5 : lookL (ns : Int) (gt ys i) s (gl []) = gl [] := by unfold lookL; split; rfl; split <;> rfl
    rw [e5] at R
    refine R.mono ?_
    rintro e w' ⟨A0, c0, A1, n1, c1, A2, n2, c2, A3, n3, c3, B', d', rfl, U, L', hA, K⟩
    exact ⟨_, _, _, rfl, U, L', hA, K⟩
  | claim i b q1 q2 q3 q4 q5 q6 q7 =>
    have e : s.leaf.toNat = i := by rw [q2, Int.toNat_natCast]
    have e1 : gS a M ns ys s [] = claimS a 0 [] (gt ys i) s := by unfold gS; rw [if_neg (by omega), if_neg (by omega), if_pos q1, e]
    have e2 : gN M ys s [] = [] := by unfold gN; rw [if_neg (by omega), if_neg (by omega)]
    have e3 : gC M ys s = claimC ys s := by unfold gC; rw [if_pos q1]
    have e4 : gB M ys s [] = decide (gt ys i = s.word) := by unfold gB; rw [if_pos q1, e]
    rw [e1, e2, e3, e4]
    have hf := nf_no q6
    have R := cstep_claim (w := w) (a := a) (p := p) (sh := (ns : Int)) (wo := wo) (qu := qu) (tr := tr) (A := A) (n := n) (c := c) (xs := []) ha hM hL.i0 (by omega) (fun j hj => absurd hj (by omega)) hL (by omega) (by omega) (by simp at z3; omega) hU (by omega) q2 (by omega) q3 q5 hf.1 wd q1
    rw [z0] at R
    refine R.mono ?_
    rintro e w' ⟨A0, c0, A1, n1, c1, A2, n2, c2, A3, n3, c3, B', d', rfl, U, L', hA, K⟩
    exact ⟨_, _, _, rfl, U, L', hA, K⟩
  | _ => omega
theorem gp_mark (ha : a < 4294967296) (hM : Much a p M) (hG : GI M ns zs N s sn) (hY : YI M zs ys) (hU : US w B m d ys) (hL : Lists lo w h (gl sn)) (hph : s.phase = 4 ∨ s.phase = 5) :
    Calls Tryz.prog 73 #[.agg #[.int .u32 (a : Int), .int .i64 p, .slice A n c, .int .i64 (ns : Int), .int .i64 wo, .int .i64 qu, .int .i64 tr], .slice B m d, .agg (opv h s)] w fun e w' => ∃ h' B' d', e = .returned (.tuple #[.slice B' m d', .agg (opv h' (gS a M ns ys s sn))]) ∧ US w' B' m d' (gC M ys s) ∧ Lists w.heap.size w' h' (gl (gN M ys s sn)) ∧ (∀ k, k < w.heap.size → Apart k B → Apart k B') ∧ Below w.heap.size w w' := by
  obtain ⟨z0, z1, z2, z3⟩ := gl_len hL
  have hml := hU.len
  have hyl := hY.len
  obtain ⟨kd, er, sd, so, it, aa, wd, ph⟩ := hG
  have e1 : gS a M ns ys s sn = stO a M 0 [] ys s := by unfold gS; rw [if_neg (by omega), if_neg (by omega), if_neg (by omega), if_pos hph]
  have e2 : gN M ys s sn = sn := by unfold gN; rw [if_neg (by omega), if_neg (by omega)]
  have e3 : gC M ys s = stC M ys s := by unfold gC; rw [if_neg (by omega), if_pos hph]
  rw [e1, e2, e3]
  cases ph with
  | mark i q1 q2 q3 q4 =>
    have R := step_any (w := w) (a := a) (p := p) (sh := (ns : Int)) (wo := wo) (qu := qu) (tr := tr) (A := A) (n := n) (c := c) (xs := []) ha hM (by omega) hL.i0 (fun j hj => absurd hj (by omega)) hL (by omega) (by omega) (by simp at z3; omega) hU (by omega) q2 q3 q4 hph wd
    rw [z0] at R
    refine R.mono ?_
    rintro e w' ⟨A0, c0, A1, c1, A2, c2, A3, c3, B', d', rfl, U, L', hA, K⟩
    exact ⟨_, _, _, rfl, U, L', hA, K⟩
  | _ => omega
theorem gp_sweep (ha : a < 4294967296) (hM : Much a p M) (hG : GI M ns zs N s sn) (hY : YI M zs ys) (hU : US w B m d ys) (hL : Lists lo w h (gl sn)) (hph : s.phase = 6 ∨ s.phase = 7) :
    Calls Tryz.prog 71 #[.agg #[.int .u32 (a : Int), .int .i64 p, .slice A n c, .int .i64 (ns : Int), .int .i64 wo, .int .i64 qu, .int .i64 tr], .slice B m d, .agg (opv h s)] w (RetSw w.heap.size (gS a M ns ys s sn) (gl (gN M ys s sn)) (gB M ys s sn) w) := by
  have hfew := gp_few hM.most hG
  obtain ⟨z0, z1, z2, z3⟩ := gl_len hL
  have hml := hU.len
  have hyl := hY.len
  obtain ⟨kd, er, sd, so, it, aa, wd, ph⟩ := hG
  cases ph with
  | first sn q1 q2 q3 q4 =>
    have e : s.at_.toNat = sn.length := by rw [q2, Int.toNat_natCast]
    have e1 : gS a M ns ys s sn = swF (lv M) (gt ys sn.length) s := by unfold gS; rw [if_neg (by omega), if_neg (by omega), if_neg (by omega), if_neg (by omega), if_pos q1, e]
    have e4 : gB M ys s sn = false := by unfold gB; rw [if_neg (by omega), if_neg (by omega)]
    have R := swstep_first (w := w) (a := a) (p := p) (sh := (ns : Int)) (wo := wo) (qu := qu) (tr := tr) (A := A) (n := n) (c := c) ha hM hL (by omega) (by omega) (by omega) (by omega) hU q2 (by omega) q3 kd q1
    have e2 : gl (gN M ys s sn) = swFL (gt ys sn.length) (gl sn) := by
      unfold gN swFL; rw [if_pos q1, e]
      split
      · rfl
      · unfold gl; simp
    rw [e1, e2, e4]
    exact R
  | again sn t q1 q2 q3 q4 q5 =>
    have e : s.at_.toNat = t := by rw [q2, Int.toNat_natCast]
    have e1 : gS a M ns ys s sn = swA (lv M) (gt ys t) (gt sn t) s := by unfold gS; rw [if_neg (by omega), if_neg (by omega), if_neg (by omega), if_neg (by omega), if_neg (by omega), if_pos q1, e]
    have e4 : gB M ys s sn = swAB (lv M) (gt ys t) (gt sn t) s := by unfold gB; rw [if_neg (by omega), if_pos q1, e]
    have R := swstep_again (w := w) (a := a) (p := p) (sh := (ns : Int)) (wo := wo) (qu := qu) (tr := tr) (A := A) (n := n) (c := c) ha hM hL (by omega) (by omega) (by omega) (by omega) hU q2 (by omega) q3 kd rfl (fun x hx => (q5 x hx).1) (by omega) q1
    have e2 : gl (gN M ys s sn) = swAL (lv M) (gt ys t) (gt sn t) s (gl sn) := by
      unfold gN swAL; rw [if_neg (by omega), if_pos q1, e]
      split
      · split <;> rfl
      · rfl
    rw [e1, e2, e4]
    exact R
  | _ => omega
theorem gp_done (hG : GI M ns zs N s sn) (hph : s.phase = 0) : gS a M ns ys s sn = s ∧ gN M ys s sn = sn ∧ gC M ys s = ys ∧ gB M ys s sn = false := by
  refine ⟨?_, ?_, ?_, ?_⟩
  · unfold gS; rw [if_neg (by omega), if_neg (by omega), if_neg (by omega), if_neg (by omega), if_neg (by omega), if_neg (by omega)]
  · unfold gN; rw [if_neg (by omega), if_neg (by omega)]
  · unfold gC; rw [if_neg (by omega), if_neg (by omega)]
  · unfold gB; rw [if_neg (by omega), if_neg (by omega)]
theorem gp_emp {lo' : Nat} (hG : GI M ns zs N s sn) (hph : s.phase ≠ 6 ∧ s.phase ≠ 7) (hL : Lists lo w h (gl sn)) : Lists lo' w' h (gl sn) := by
  have e : sn = [] := by cases hG.ph <;> first | rfl | omega
  subst e
  exact ⟨hL.i0.emp0 _ _, hL.i1.emp0 _ _, hL.i2.emp0 _ _, IS.emp0 (show IS .u64 lo w h.A3 h.n3 h.c3 [] from hL.i3) _ _⟩
theorem gp_quiet (hph : s.phase = 1 ∨ s.phase = 6 ∨ s.phase = 7) : gC M ys s = ys := by unfold gC; rw [if_neg (by omega), if_neg (by omega)]
theorem gp_calm (hph : s.phase = 1 ∨ s.phase = 4 ∨ s.phase = 5) : gB M ys s sn = false := by unfold gB; rw [if_neg (by omega), if_neg (by omega)]
theorem gp_phase (hG : GI M ns zs N s sn) : s.phase = 0 ∨ s.phase = 1 ∨ s.phase = 2 ∨ s.phase = 3 ∨ s.phase = 4 ∨ s.phase = 5 ∨ s.phase = 6 ∨ s.phase = 7 := by
  cases hG.ph <;> omega
end
end Go.Proofs.YtghecdccdmeooaaGreat

/-
  What the document's Small, Most, Disturb and Begin of layer 17, and grant.Begin, answer. Conditions: a block that may be.
-/
namespace Go.Proofs.YtghecdccdmeooaaGreat
set_option maxRecDepth 100000
set_option maxRecDepth 100000
open Go.RowKit
set_option linter.unusedVariables false
def RetW (P : Prop) (w : World) (e : Ending) (w' : World) : Prop := ∃ b, e = .returned (.bool b) ∧ (b = true → P) ∧ Below w.heap.size w w'
/-- What is known of a configuration that may be, of a small block. -/
structure Cg (a : Nat) (p : Int) (n : Nat) (zs : List Int) (sh : Int) (M ns : Nat) : Prop where
  much : Much a p M
  few : n ≤ 64
  ris : risB M 0 zs = true
  sml : M ≤ 256
  ns_ : sh = (ns : Int)
  ns1 : 1 ≤ ns
  ns2 : ns ≤ 64
theorem wrap_mul (x k : Nat) : ∃ W : Nat, IntKind.u64.wrap ((x : Int) * (k : Int)) = (W : Int) ∧ W < U64 :=
  ⟨x * k % 18446744073709551616, by rw [IntKind.wrap_u64, ← Int.natCast_mul]; exact (Int.natCast_emod _ _).symm, Nat.mod_lt _ (by decide)⟩
/-- What somebody else does. -/
def DistR (M : Nat) (zs : List Int) (ys ys' : List Nat) : Prop :=
  (∃ o, o < M ∧ hasB zs (o : Int) = false ∧ (gt ys (o / 32)).testBit (o % 32) = true ∧ ys' = ys.set (o / 32) (drp (gt ys (o / 32)) (o % 32))) ∨
  (∃ o, o < M ∧ hasB zs (o : Int) = false ∧ (gt ys (o / 32)).testBit (o % 32) = false ∧ ys' = ys.set (o / 32) (clm (gt ys (o / 32)) (o % 32))) ∨
  (∃ i W, lv M ≤ i ∧ W < U64 ∧ ys' = ys.set i W) ∨ ys' = ys
def RetD (M : Nat) (zs : List Int) (ys : List Nat) (m : Nat) (B0 : Option Addr) (w : World) (e : Ending) (w' : World) : Prop :=
  ∃ B d ys', e = .returned (.slice B m d) ∧ US w' B m d ys' ∧ DistR M zs ys ys' ∧ (∀ k, k < w.heap.size → Apart k B0 → Apart k B) ∧ Below w.heap.size w w'
theorem retD_new {M : Nat} {zs : List Int} {ys ys2 : List Nat} {m : Nat} {B0 : Option Addr} {w w' : World} {g d : Nat} (U : US w' (some ⟨g, 0, none⟩) m d ys2) (hD : DistR M zs ys ys2) (hg : w.heap.size ≤ g) (K : Below w.heap.size w w') : RetD M zs ys m B0 w (.returned (.slice (some ⟨g, 0, none⟩) m d)) w' :=
  ⟨_, _, ys2, rfl, U, hD, fun k hk _ b o e => by injection e with e; injection e with e1; omega, K⟩
section
variable {w w1 : World} {lo a m d D M ns N : Nat} {p sh wo qu tr : Int} {A B : Option Addr} {n c : Nat} {zs : List Int} {sn ys : List Nat} {h : Hd} {s : Sc}
set_option maxHeartbeats 2000000 in
theorem small_may (ha : a < 4294967296) (h0 : IS .i64 lo w A n c zs) (hb : confB a p n zs sh wo qu tr = false) :
    Calls Tryz.prog 8 #[.agg #[.int .u32 (a : Int), .int .i64 p, .slice A n c, .int .i64 sh, .int .i64 wo, .int .i64 qu, .int .i64 tr]] w (RetW (∃ M ns, Cg a p n zs sh M ns) w) := by
  go_enter Tryz.func8, Tryz.ntmps8
  go_upto_region 1 with (fail)
  have L := Loc.start w
  replace L := (L).alloc #[.int .u32 (a : Int), .int .i64 p, .slice A n c, .int .i64 sh, .int .i64 wo, .int .i64 qu, .int .i64 tr] 27
  try simp only [World.size_alloc] at L
  try dsimp only [nput] at L
  generalize (w).alloc (.cells #[.int .u32 (a : Int), .int .i64 p, .slice A n c, .int .i64 sh, .int .i64 wo, .int .i64 qu, .int .i64 tr] 27) = w1 at L ⊢
  generalize w.heap.size = gH at L ⊢
  go_wp2_with (refine wpList_load_row rfl 27 (.tmp 1) rfl gH rfl _ _ (0, 0) _ (L.bk_ 0 rfl) Tryz.underlying27 rfl cf_sz ?_)
  refine (rmay_is ha (h0.below L.K) hb).mono ?_
  rintro e w2 ⟨rfl, K'⟩
  replace L := L.over K'
  go_wp2
  go_ret
  exact ⟨false, rfl, (fun e => by cases e), L.K⟩
set_option maxHeartbeats 2000000 in
theorem small_no (ha : a < 4294967296) (h0 : IS .i64 lo w A n c zs) (hb : confB a p n zs sh wo qu tr = true) (hC : Much a p M) (hm : ¬ M ≤ 256) :
    Calls Tryz.prog 8 #[.agg #[.int .u32 (a : Int), .int .i64 p, .slice A n c, .int .i64 sh, .int .i64 wo, .int .i64 qu, .int .i64 tr]] w (RetW (∃ M ns, Cg a p n zs sh M ns) w) := by
  have hM : Much a p M := hC
  have e2 : decide ((M : Int) ≤ 256) = false := by simp only [decide_eq_false_iff_not]; omega
  replace hC := Lib.hid hC
  go_enter Tryz.func8, Tryz.ntmps8
  go_upto_region 1 with (fail)
  have L := Loc.start w
  replace L := (L).alloc #[.int .u32 (a : Int), .int .i64 p, .slice A n c, .int .i64 sh, .int .i64 wo, .int .i64 qu, .int .i64 tr] 27
  try simp only [World.size_alloc] at L
  try dsimp only [nput] at L
  generalize (w).alloc (.cells #[.int .u32 (a : Int), .int .i64 p, .slice A n c, .int .i64 sh, .int .i64 wo, .int .i64 qu, .int .i64 tr] 27) = w1 at L ⊢
  generalize w.heap.size = gH at L ⊢
  go_wp2_with (refine wpList_load_row rfl 27 (.tmp 1) rfl gH rfl _ _ (0, 0) _ (L.bk_ 0 rfl) Tryz.underlying27 rfl cf_sz ?_)
  refine (rmay_is ha (h0.below L.K) hb).mono ?_
  rintro e w2 ⟨rfl, K'⟩
  replace L := L.over K'
  have H_0 := L.at_ 0 0 rfl (v := .int .u32 (a : Int)) rfl
  have H_1 := L.at_ 0 1 rfl (v := .int .i64 p) rfl
  have H_z := L.lt 0 rfl
  go_wp2_with fail
  refine (rmany_yes hM).mono ?_
  rintro e w3 ⟨rfl, K'⟩
  clear H_0 H_1 H_z
  replace L := L.over K'
  go_wp2
  go_ret
  exact ⟨false, rfl, (fun e => by cases e), L.K⟩
set_option maxHeartbeats 2000000 in
theorem small_yes (ha : a < 4294967296) (h0 : IS .i64 lo w A n c zs) (hb : confB a p n zs sh wo qu tr = true) (hC : Cg a p n zs sh M ns) (hm : M ≤ 256) :
    Calls Tryz.prog 8 #[.agg #[.int .u32 (a : Int), .int .i64 p, .slice A n c, .int .i64 sh, .int .i64 wo, .int .i64 qu, .int .i64 tr]] w (RetW (∃ M ns, Cg a p n zs sh M ns) w) := by
  have hM : Much a p M := hC.much
  have e2 : decide ((M : Int) ≤ 256) = true := by simp; omega
  replace hC := Lib.hid hC
  go_enter Tryz.func8, Tryz.ntmps8
  go_upto_region 1 with (fail)
  have L := Loc.start w
  replace L := (L).alloc #[.int .u32 (a : Int), .int .i64 p, .slice A n c, .int .i64 sh, .int .i64 wo, .int .i64 qu, .int .i64 tr] 27
  try simp only [World.size_alloc] at L
  try dsimp only [nput] at L
  generalize (w).alloc (.cells #[.int .u32 (a : Int), .int .i64 p, .slice A n c, .int .i64 sh, .int .i64 wo, .int .i64 qu, .int .i64 tr] 27) = w1 at L ⊢
  generalize w.heap.size = gH at L ⊢
  go_wp2_with (refine wpList_load_row rfl 27 (.tmp 1) rfl gH rfl _ _ (0, 0) _ (L.bk_ 0 rfl) Tryz.underlying27 rfl cf_sz ?_)
  refine (rmay_is ha (h0.below L.K) hb).mono ?_
  rintro e w2 ⟨rfl, K'⟩
  replace L := L.over K'
  have H_0 := L.at_ 0 0 rfl (v := .int .u32 (a : Int)) rfl
  have H_1 := L.at_ 0 1 rfl (v := .int .i64 p) rfl
  have H_z := L.lt 0 rfl
  go_wp2_with fail
  refine (rmany_yes hM).mono ?_
  rintro e w3 ⟨rfl, K'⟩
  clear H_0 H_1 H_z
  replace L := L.over K'
  go_wp2
  go_ret
  exact ⟨true, rfl, (fun _ => ⟨M, ns, hC.out⟩), L.K⟩
theorem small_any (ha : a < 4294967296) (h0 : IS .i64 lo w A n c zs) :
    Calls Tryz.prog 8 #[.agg #[.int .u32 (a : Int), .int .i64 p, .slice A n c, .int .i64 sh, .int .i64 wo, .int .i64 qu, .int .i64 tr]] w (RetW (∃ M ns, Cg a p n zs sh M ns) w) := by
  cases hb : confB a p n zs sh wo qu tr with
  | false => exact small_may ha h0 hb
  | true =>
    obtain ⟨h1, h2, h3, h4, h5, _⟩ := confB_no hb
    have hM := Much.of h1
    by_cases hm : 2 ^ (32 - p.toNat) ≤ 256
    · exact small_yes ha h0 hb (M := 2 ^ (32 - p.toNat)) (ns := sh.toNat) ⟨hM, h2, by rw [← hM.manyI]; exact h3, hm, by omega, by omega, by omega⟩ hm
    · exact small_no ha h0 hb hM hm
set_option maxHeartbeats 2000000 in
theorem most_any (hM : Much a p M) (h2 : ns ≤ 64) :
    Calls Tryz.prog 18 #[.agg #[.int .u32 (a : Int), .int .i64 p, .slice A n c, .int .i64 (ns : Int), .int .i64 wo, .int .i64 qu, .int .i64 tr]] w (fun e w' => e = .returned (.int .i64 ((ns * (3 + tv M) + 2 * lv M + 6 : Nat) : Int)) ∧ Below w.heap.size w w') := by
  have hm := hM.most
  have hl3 := lv_le hm
  have ht3 := tv_le hm
  have TT := fun w => Lib.hid (rtops_any M hm w)
  have TV := fun w => Lib.hid (rleaves_any M hm w)
  obtain ⟨T, hT⟩ : ∃ T, T = tv M := ⟨_, rfl⟩
  obtain ⟨LV, hLV⟩ : ∃ T, T = lv M := ⟨_, rfl⟩
  rw [← hT] at TT ⊢
  rw [← hLV] at TV ⊢
  obtain ⟨T3, hT3⟩ : ∃ x : Nat, (3 : Int) + (T : Int) = x := ⟨3 + T, by omega⟩
  obtain ⟨P1, hP1⟩ : ∃ x : Nat, x = ns * (3 + T) := ⟨_, rfl⟩
  have eT3 : T3 = 3 + T := by omega
  have eP : (ns : Int) * (T3 : Int) = (P1 : Int) := by rw [hP1, ← eT3]; exact (Int.natCast_mul _ _).symm
  have hPb : P1 ≤ 64 * 4000 := by rw [hP1]; exact Nat.mul_le_mul h2 (by omega)
  obtain ⟨P2, hP2⟩ : ∃ x : Nat, (2 : Int) * (LV : Int) = x := ⟨2 * LV, by omega⟩
  obtain ⟨P3, hP3⟩ : ∃ x : Nat, (P1 : Int) + (P2 : Int) = x := ⟨P1 + P2, by omega⟩
  obtain ⟨P4, hP4⟩ : ∃ x : Nat, (P3 : Int) + 6 = x := ⟨P3 + 6, by omega⟩
  have eR : ns * (3 + T) + 2 * LV + 6 = P4 := by omega
  rw [eR]
  have f1 : IntKind.i64.wrap (T3 : Int) = (T3 : Int) := IntWalk.i64_in _ (by omega)
  have f2 : IntKind.i64.wrap (P1 : Int) = (P1 : Int) := IntWalk.i64_in _ (by omega)
  have f3 : IntKind.i64.wrap (P2 : Int) = (P2 : Int) := IntWalk.i64_in _ (by omega)
  have f4 : IntKind.i64.wrap (P3 : Int) = (P3 : Int) := IntWalk.i64_in _ (by omega)
  have f5 : IntKind.i64.wrap (P4 : Int) = (P4 : Int) := IntWalk.i64_in _ (by omega)
  clear hT hLV hP1 eT3 hPb eR hl3 ht3
  go_enter Tryz.func18, Tryz.ntmps18
  go_upto_region 1 with (fail)
  have L := Loc.start w
  replace L := (L).alloc #[.int .u32 (a : Int), .int .i64 p, .slice A n c, .int .i64 (ns : Int), .int .i64 wo, .int .i64 qu, .int .i64 tr] 27
  try simp only [World.size_alloc] at L
  try dsimp only [nput] at L
  generalize (w).alloc (.cells #[.int .u32 (a : Int), .int .i64 p, .slice A n c, .int .i64 (ns : Int), .int .i64 wo, .int .i64 qu, .int .i64 tr] 27) = w1 at L ⊢
  generalize w.heap.size = gH at L ⊢
  have H_0 := L.at_ 0 0 rfl (v := .int .u32 (a : Int)) rfl
  have H_1 := L.at_ 0 1 rfl (v := .int .i64 p) rfl
  have H_z := L.lt 0 rfl
  go_wp2_with fail
  refine (rmany_yes hM).mono ?_
  rintro e w2 ⟨rfl, K'⟩
  clear H_0 H_1 H_z
  replace L := L.over K'
  go_upto_region 2 with (fail)
  replace L := L.drew
  refine wp_region_held_drew (S := fun w' => Loc w w' [(gH, 27, #[.int .u32 (a : Int), .int .i64 p, .slice A n c, .int .i64 (ns : Int), .int .i64 wo, .int .i64 qu, .int .i64 tr])] []) (by kernel_rfl) L (fun hHeld => ?_)
  generalize w2.drew = v3 at hHeld L ⊢
  refine wpAnyH_take (i := 0) (oi := ⟨some 7, _, _, _, _, _⟩) (v := .pointer (some ⟨gH, 3, none⟩)) rfl (by kernel_rfl) (by kernel_rfl) (by kernel_rfl) (fun _ _ _ h => h) (Or.inl ⟨by rfl, ?_⟩) hHeld ?_
  · (intro ww hS; go_simp; try with_reducible rfl; try omega)
  try simp only [Act.put, sA, sZ, sS]
  refine wpAnyH_take (i := 1) (oi := ⟨some 8, _, _, _, _, _⟩) (v := .int .i64 (ns : Int)) rfl (by kernel_rfl) (by kernel_rfl) (by kernel_rfl) (fun _ _ _ h => h) (Or.inl ⟨by rfl, ?_⟩) hHeld ?_
  · intro ww hS
    try dsimp only at hS
    have H_3 := (hS).at_ 0 3 rfl (v := .int .i64 (ns : Int)) rfl
    have H_z := (hS).lt 0 rfl
    go_simp
    try with_reducible rfl
    try omega
  try simp only [Act.put, sA, sZ, sS]
  refine wpAnyH_take (i := 2) (oi := ⟨some 9, _, _, _, _, _⟩) (v := .int .i64 (M : Int)) rfl (by kernel_rfl) (by kernel_rfl) (by kernel_rfl) (fun _ _ _ h => h) (Or.inl ⟨by rfl, ?_⟩) hHeld ?_
  · (intro ww hS; go_simp; try with_reducible rfl; try omega)
  try simp only [Act.put, sA, sZ, sS]
  refine wpAnyH_take (i := 6) (oi := ⟨some 13, _, _, _, _, _⟩) (v := .int .i64 (M : Int)) rfl (by kernel_rfl) (by kernel_rfl) (by kernel_rfl) (fun _ _ _ h => h) (Or.inl ⟨by rfl, ?_⟩) hHeld ?_
  · (intro ww hS; go_simp; try with_reducible rfl; try omega)
  try simp only [Act.put, sA, sZ, sS]
  refine wpAnyH_ready (rs := [3]) (by kernel_rfl) (by simp) ?_
  refine AllReadyH.cons (o := ⟨some 10, _, _, _, _, _⟩) rfl (fun K0 hK => ?_) AllReadyH.nil
  go_simp
  refine ((TT _).out).mono ?_
  rintro e w' ⟨rfl, rfl⟩
  refine hK.out _ _ L (fun hHeld' => ?_)
  clear hHeld hK K0
  have hHeld := hHeld'
  clear hHeld'
  try simp only [Act.put, sA, sZ, sS]
  refine wpAnyH_take (i := 4) (oi := ⟨some 11, _, _, _, _, _⟩) (v := .int .i64 (T3 : Int)) rfl (by kernel_rfl) (by kernel_rfl) (by kernel_rfl) (fun _ _ _ h => h) (Or.inl ⟨by rfl, ?_⟩) hHeld ?_
  · (intro ww hS; go_simp; try with_reducible rfl; try omega)
  try simp only [Act.put, sA, sZ, sS]
  refine wpAnyH_take (i := 5) (oi := ⟨some 12, _, _, _, _, _⟩) (v := .int .i64 (P1 : Int)) rfl (by kernel_rfl) (by kernel_rfl) (by kernel_rfl) (fun _ _ _ h => h) (Or.inl ⟨by rfl, ?_⟩) hHeld ?_
  · (intro ww hS; go_simp; try with_reducible rfl; try omega)
  try simp only [Act.put, sA, sZ, sS]
  refine wpAnyH_ready (rs := [7]) (by kernel_rfl) (by simp) ?_
  refine AllReadyH.cons (o := ⟨some 14, _, _, _, _, _⟩) rfl (fun K0 hK => ?_) AllReadyH.nil
  go_simp
  refine ((TV _).out).mono ?_
  rintro e w' ⟨rfl, rfl⟩
  refine hK.out _ _ L (fun hHeld' => ?_)
  clear hHeld hK K0
  have hHeld := hHeld'
  clear hHeld'
  try simp only [Act.put, sA, sZ, sS]
  refine wpAnyH_take (i := 8) (oi := ⟨some 15, _, _, _, _, _⟩) (v := .int .i64 (P2 : Int)) rfl (by kernel_rfl) (by kernel_rfl) (by kernel_rfl) (fun _ _ _ h => h) (Or.inl ⟨by rfl, ?_⟩) hHeld ?_
  · (intro ww hS; go_simp; try with_reducible rfl; try omega)
  try simp only [Act.put, sA, sZ, sS]
  refine wpAnyH_take (i := 9) (oi := ⟨some 16, _, _, _, _, _⟩) (v := .int .i64 (P3 : Int)) rfl (by kernel_rfl) (by kernel_rfl) (by kernel_rfl) (fun _ _ _ h => h) (Or.inl ⟨by rfl, ?_⟩) hHeld ?_
  · (intro ww hS; go_simp; try with_reducible rfl; try omega)
  try simp only [Act.put, sA, sZ, sS]
  refine wpAnyH_take (i := 10) (oi := ⟨some 17, _, _, _, _, _⟩) (v := .int .i64 (P4 : Int)) rfl (by kernel_rfl) (by kernel_rfl) (by kernel_rfl) (fun _ _ _ h => h) (Or.inl ⟨by rfl, ?_⟩) hHeld ?_
  · (intro ww hS; go_simp; try with_reducible rfl; try omega)
  try simp only [Act.put, sA, sZ, sS]
  refine wpAnyH_take (i := 11) (oi := ⟨some 2, _, _, _, _, _⟩) (v := .int .i64 (P4 : Int)) rfl (by kernel_rfl) (by kernel_rfl) (by kernel_rfl) (fun _ _ _ h => h) (Or.inl ⟨by rfl, ?_⟩) hHeld ?_
  · (intro ww hS; go_simp; try with_reducible rfl; try omega)
  try simp only [Act.put, sA, sZ, sS]
  refine wpAnyH_done (by kernel_rfl) ?_ _
  clear hHeld
  go_wp2
  go_ret
  exact ⟨rfl, L.K⟩
set_option maxHeartbeats 2000000 in
theorem gbegin_any (hd : Int) :
    Calls Tryz.prog 9 #[.int .i64 hd] w (RetOp hd0 (gS0 hd) w) := by
  go_enter Tryz.func9, Tryz.ntmps9
  go_upto_region 1 with (fail)
  have L := Loc.start w
  replace L := (L).alloc #[.int .i64 0, .int .u32 0, .slice none 0 0, .int .i64 0, .int .u32 0, .bool false, .slice none 0 0, .slice none 0 0, .int .i64 0, .int .i64 0, .int .i64 0, .int .i64 0, .int .i64 0, .int .u64 0, .bool false, .slice none 0 0, .int .i64 0, .int .i64 0, .int .i64 0, .int .i64 0] 40
  try simp only [World.size_alloc] at L
  replace L := L.is 0 (opv hd0 sc0) rfl
  try dsimp only [nput] at L
  generalize (w).alloc (.cells #[.int .i64 0, .int .u32 0, .slice none 0 0, .int .i64 0, .int .u32 0, .bool false, .slice none 0 0, .slice none 0 0, .int .i64 0, .int .i64 0, .int .i64 0, .int .i64 0, .int .i64 0, .int .u64 0, .bool false, .slice none 0 0, .int .i64 0, .int .i64 0, .int .i64 0, .int .i64 0] 40) = w1 at L ⊢
  generalize w.heap.size = gR at L ⊢
  go_wp2_with (refine wpList_store_row rfl 40 (.tmp 2) (.tmp 5) rfl gR _ rfl (show _ = Value.agg (opv ⟨none, 0, 0, none, 0, 0, none, 0, 0, none, 0, 0⟩ ⟨1, 0, 0, 0, false, 1, hd, 0, 0, 0, 0, false, 0, 0, 0, 0⟩) from rfl) _ _ (L.bk_ 0 rfl) op_sz rfl (opv_one _ _) ?_)
  replace L := (L.row 0 rfl (opv ⟨none, 0, 0, none, 0, 0, none, 0, 0, none, 0, 0⟩ ⟨1, 0, 0, 0, false, 1, hd, 0, 0, 0, 0, false, 0, 0, 0, 0⟩))
  try dsimp only [nput] at L
  generalize (w1).setRow gR (opv ⟨none, 0, 0, none, 0, 0, none, 0, 0, none, 0, 0⟩ ⟨1, 0, 0, 0, false, 1, hd, 0, 0, 0, 0, false, 0, 0, 0, 0⟩) = w2 at L ⊢
  refine bodyPost_ret (v := .agg (opv ⟨none, 0, 0, none, 0, 0, none, 0, 0, none, 0, 0⟩ ⟨1, 0, 0, 0, false, 1, hd, 0, 0, 0, 0, false, 0, 0, 0, 0⟩)) ?_ rfl ?_
  · exact results_cell_row (fn := Tryz.f9) Tryz.results9 _ _ gR _ _ (0, 0) _ rfl (L.bk_ 0 rfl) Tryz.underlying40 rfl op_sz
  exact ⟨rfl, L.K⟩
set_option maxHeartbeats 2000000 in
theorem rbegin_any (hd : Int) :
    Calls Tryz.prog 10 #[.int .i64 hd] w (RetOp hd0 (gS0 hd) w) := by
  go_enter Tryz.func10, Tryz.ntmps10
  go_upto_region 1 with (fail)
  have L := Loc.start w
  replace L := (L).alloc #[.int .i64 0, .int .u32 0, .slice none 0 0, .int .i64 0, .int .u32 0, .bool false, .slice none 0 0, .slice none 0 0, .int .i64 0, .int .i64 0, .int .i64 0, .int .i64 0, .int .i64 0, .int .u64 0, .bool false, .slice none 0 0, .int .i64 0, .int .i64 0, .int .i64 0, .int .i64 0] 40
  try simp only [World.size_alloc] at L
  replace L := L.is 0 (opv hd0 sc0) rfl
  try dsimp only [nput] at L
  generalize (w).alloc (.cells #[.int .i64 0, .int .u32 0, .slice none 0 0, .int .i64 0, .int .u32 0, .bool false, .slice none 0 0, .slice none 0 0, .int .i64 0, .int .i64 0, .int .i64 0, .int .i64 0, .int .i64 0, .int .u64 0, .bool false, .slice none 0 0, .int .i64 0, .int .i64 0, .int .i64 0, .int .i64 0] 40) = w1 at L ⊢
  generalize w.heap.size = gR at L ⊢
  go_wp2_with (refine wpList_store_row rfl 40 (.tmp 2) (.tmp 5) rfl gR _ rfl (show _ = Value.agg (opv ⟨none, 0, 0, none, 0, 0, none, 0, 0, none, 0, 0⟩ ⟨1, 0, 0, 0, false, 1, hd, 0, 0, 0, 0, false, 0, 0, 0, 0⟩) from rfl) _ _ (L.bk_ 0 rfl) op_sz rfl (opv_one _ _) ?_)
  replace L := (L.row 0 rfl (opv ⟨none, 0, 0, none, 0, 0, none, 0, 0, none, 0, 0⟩ ⟨1, 0, 0, 0, false, 1, hd, 0, 0, 0, 0, false, 0, 0, 0, 0⟩))
  try dsimp only [nput] at L
  generalize (w1).setRow gR (opv ⟨none, 0, 0, none, 0, 0, none, 0, 0, none, 0, 0⟩ ⟨1, 0, 0, 0, false, 1, hd, 0, 0, 0, 0, false, 0, 0, 0, 0⟩) = w2 at L ⊢
  refine bodyPost_ret (v := .agg (opv ⟨none, 0, 0, none, 0, 0, none, 0, 0, none, 0, 0⟩ ⟨1, 0, 0, 0, false, 1, hd, 0, 0, 0, 0, false, 0, 0, 0, 0⟩)) ?_ rfl ?_
  · exact results_cell_row (fn := Tryz.f10) Tryz.results10 _ _ gR _ _ (0, 0) _ rfl (L.bk_ 0 rfl) Tryz.underlying40 rfl op_sz
  exact ⟨rfl, L.K⟩
set_option maxHeartbeats 2000000 in
theorem dist_drop (hD : D < 4294967296) (hC : Cg a p n zs (ns : Int) M ns) (h0 : IS .i64 lo w A n c zs) (hY : YI M zs ys) (hU : US w B m d ys) (hlt : D % 8 < 4) (hhe : hasB zs ((D / 8 % M : Nat) : Int) = false) (hbt : (gt ys (D / 8 % M / 32)).testBit (D / 8 % M % 32) = true) :
    Calls Tryz.prog 12 #[.agg #[.int .u32 (a : Int), .int .i64 p, .slice A n c, .int .i64 (ns : Int), .int .i64 wo, .int .i64 qu, .int .i64 tr], .slice B m d, .int .u32 (D : Int)] w (RetD M zs ys m B w) := by
  have hM := hC.much
  have hn9 := hC.few
  have hMp := hM.pos
  have hM9 := hC.sml
  have hml := hU.len
  have hyl := hY.len
  have hm := hM.most
  have hl3 := lv_le hm
  have ht3 := tv_le hm
  have hm6 : m ≤ 65536 := by omega
  have hm0 : 0 < m := by omega
  obtain ⟨q, hq⟩ : ∃ x, x = D / 8 := ⟨_, rfl⟩
  obtain ⟨r, hr⟩ : ∃ x, x = D % 8 := ⟨_, rfl⟩
  obtain ⟨o, ho⟩ : ∃ x, x = q % M := ⟨_, rfl⟩
  have hoM : o < M := by rw [ho]; exact Nat.mod_lt _ hMp
  have a1 : (D : Int) / 8 = (q : Int) := by omega
  have a2 : (D : Int).tdiv 8 = (q : Int) := by rw [Int.tdiv_eq_ediv_of_nonneg (by omega)]; omega
  have a3 : (D : Int) % 8 = (r : Int) := by omega
  have a4 : (D : Int).tmod 8 = (r : Int) := by rw [Int.tmod_eq_emod_of_nonneg (by omega)]; omega
  have a5 : (q : Int) % (M : Int) = (o : Int) := by rw [ho]; exact (Int.natCast_emod q M).symm
  have a6 : (q : Int).tmod (M : Int) = (o : Int) := by rw [Int.tmod_eq_emod_of_nonneg (by omega)]; exact a5
  have hM00 : ¬ ((M : Int) = 0) := by omega
  have TMy := fun w => Lib.hid (rmany_yes (w := w) hM)
  have c1 : decide ((r : Int) < 4) = true := by simp; omega
  rw [← hq, ← ho] at hhe hbt
  have THe := fun w (h0 : IS .i64 lo w A n c zs) => Lib.hid (rheld_is (w := w) (a := a) (p := p) (sh := (ns : Int)) (wo := wo) (qu := qu) (tr := tr) h0 (by omega) hhe)
  obtain ⟨i, hi⟩ : ∃ x, x = o / 32 := ⟨_, rfl⟩
  obtain ⟨b, hb⟩ : ∃ x, x = o % 32 := ⟨_, rfl⟩
  have b1 : (o : Int) / 32 = (i : Int) := by omega
  have b2 : (o : Int).tdiv 32 = (i : Int) := by rw [Int.tdiv_eq_ediv_of_nonneg (by omega)]; omega
  have b3 : (o : Int) % 32 = (b : Int) := by omega
  have b4 : (o : Int).tmod 32 = (b : Int) := by rw [Int.tmod_eq_emod_of_nonneg (by omega)]; omega
  have hil : i < lv M := by unfold lv; omega
  have him : i < m := by omega
  have him2 : (i : Int) < (m : Int) := by omega
  have hb32 : b < 32 := by omega
  obtain ⟨bb, oo, hBe, hbb, hcc⟩ := hU.get him
  subst hBe
  obtain ⟨x, hx⟩ : ∃ x, x = gt ys i := ⟨_, rfl⟩
  have hx64 : x < 18446744073709551616 := by rw [hx]; exact gt_lt hY.fit _
  rw [← hi, ← hb, ← hx] at hbt; rw [← hx] at hcc
  have hDR : DistR M zs ys (ys.set i (drp x b)) := .inl ⟨o, hoM, hhe, by rw [← hi, ← hb, ← hx]; exact hbt, by rw [← hi, ← hb, ← hx]⟩
  have THb := fun w => Lib.hid (rhas_any x b hx64 (by omega) w)
  simp only [hbt] at THb
  have TCl := fun w => Lib.hid (rdrop_any x b hx64 (by omega) w)
  have hy64 : (drp x b) < U64 := drp_lt _ _
  generalize (drp x b) = y at TCl hy64 hDR
  have TSe : ∀ w, US w (some ⟨bb, oo, none⟩) m d ys → Hid (Calls Tryz.prog 35 #[.slice (some ⟨bb, oo, none⟩) m d, .int .i64 (i : Nat), .int .u64 (y : Nat)] w (RetSM m (ys.set i y) w)) := fun w U => by have := crset_new U (i : Int) hm6 hy64; rw [stI_nat] at this; exact this
  replace hDR := Lib.hid hDR
  clear hbt hhe hx hi hb ho hq hr hlt hoM hil hY hyl hC
  go_enter Tryz.func12, Tryz.ntmps12
  go_upto_region 1 with (fail)
  have L := Loc.start w
  replace L := (L).alloc #[.int .u32 (a : Int), .int .i64 p, .slice A n c, .int .i64 (ns : Int), .int .i64 wo, .int .i64 qu, .int .i64 tr] 27
  try simp only [World.size_alloc] at L
  try dsimp only [nput] at L
  generalize (w).alloc (.cells #[.int .u32 (a : Int), .int .i64 p, .slice A n c, .int .i64 (ns : Int), .int .i64 wo, .int .i64 qu, .int .i64 tr] 27) = w1 at L ⊢
  generalize w.heap.size = gH at L ⊢
  have H_0 := L.at_ 0 0 rfl (v := .int .u32 (a : Int)) rfl
  have H_1 := L.at_ 0 1 rfl (v := .int .i64 p) rfl
  have H_z := L.lt 0 rfl
  go_wp2_with fail
  refine ((TMy _).out).mono ?_
  rintro e w2 ⟨rfl, K'⟩
  clear H_0 H_1 H_z
  replace L := L.over K'
  go_wp2_with (refine wpList_load_want (by rfl) 27 (.tmp 3) rfl gH rfl _ _ (0, 0) _ (L.bk_ 0 rfl) Tryz.underlying27 rfl cf_sz ?_)
  refine ((THe _ (h0.below L.K)).out).mono ?_
  rintro e w3 ⟨rfl, K'⟩
  replace L := L.over K'
  have X := (L.K.cell (p := ⟨bb, oo + i, none⟩) hbb).trans hcc
  go_wp2_with fail
  refine ((THb _).out).mono ?_
  rintro e w' ⟨rfl, rfl⟩
  clear X
  go_wp2_with fail
  refine ((TCl _).out).mono ?_
  rintro e w' ⟨rfl, rfl⟩
  go_wp2_with fail
  have KS := L.K.size
  refine ((TSe _ (hU.below L.K)).out).mono ?_
  rintro e w4 ⟨gS, dS, rfl, U, hgS, K'⟩
  have Lb := L.lts
  replace L := L.over K'
  replace L := L.us_av (fun i b e b' o e' => by injection e' with e'; injection e' with e1; have := Lb i b e; omega) U
  clear Lb
  try dsimp only [lF, List.cons_append, List.nil_append] at L
  clear U
  go_wp2
  go_ret
  exact retD_new (L.us_ 0 rfl) hDR.out (Nat.le_trans KS hgS) L.K
set_option maxHeartbeats 2000000 in
theorem dist_claim (hD : D < 4294967296) (hC : Cg a p n zs (ns : Int) M ns) (h0 : IS .i64 lo w A n c zs) (hY : YI M zs ys) (hU : US w B m d ys) (hlt : D % 8 < 4) (hhe : hasB zs ((D / 8 % M : Nat) : Int) = false) (hbt : (gt ys (D / 8 % M / 32)).testBit (D / 8 % M % 32) = false) :
    Calls Tryz.prog 12 #[.agg #[.int .u32 (a : Int), .int .i64 p, .slice A n c, .int .i64 (ns : Int), .int .i64 wo, .int .i64 qu, .int .i64 tr], .slice B m d, .int .u32 (D : Int)] w (RetD M zs ys m B w) := by
  have hM := hC.much
  have hn9 := hC.few
  have hMp := hM.pos
  have hM9 := hC.sml
  have hml := hU.len
  have hyl := hY.len
  have hm := hM.most
  have hl3 := lv_le hm
  have ht3 := tv_le hm
  have hm6 : m ≤ 65536 := by omega
  have hm0 : 0 < m := by omega
  obtain ⟨q, hq⟩ : ∃ x, x = D / 8 := ⟨_, rfl⟩
  obtain ⟨r, hr⟩ : ∃ x, x = D % 8 := ⟨_, rfl⟩
  obtain ⟨o, ho⟩ : ∃ x, x = q % M := ⟨_, rfl⟩
  have hoM : o < M := by rw [ho]; exact Nat.mod_lt _ hMp
  have a1 : (D : Int) / 8 = (q : Int) := by omega
  have a2 : (D : Int).tdiv 8 = (q : Int) := by rw [Int.tdiv_eq_ediv_of_nonneg (by omega)]; omega
  have a3 : (D : Int) % 8 = (r : Int) := by omega
  have a4 : (D : Int).tmod 8 = (r : Int) := by rw [Int.tmod_eq_emod_of_nonneg (by omega)]; omega
  have a5 : (q : Int) % (M : Int) = (o : Int) := by rw [ho]; exact (Int.natCast_emod q M).symm
  have a6 : (q : Int).tmod (M : Int) = (o : Int) := by rw [Int.tmod_eq_emod_of_nonneg (by omega)]; exact a5
  have hM00 : ¬ ((M : Int) = 0) := by omega
  have TMy := fun w => Lib.hid (rmany_yes (w := w) hM)
  have c1 : decide ((r : Int) < 4) = true := by simp; omega
  rw [← hq, ← ho] at hhe hbt
  have THe := fun w (h0 : IS .i64 lo w A n c zs) => Lib.hid (rheld_is (w := w) (a := a) (p := p) (sh := (ns : Int)) (wo := wo) (qu := qu) (tr := tr) h0 (by omega) hhe)
  obtain ⟨i, hi⟩ : ∃ x, x = o / 32 := ⟨_, rfl⟩
  obtain ⟨b, hb⟩ : ∃ x, x = o % 32 := ⟨_, rfl⟩
  have b1 : (o : Int) / 32 = (i : Int) := by omega
  have b2 : (o : Int).tdiv 32 = (i : Int) := by rw [Int.tdiv_eq_ediv_of_nonneg (by omega)]; omega
  have b3 : (o : Int) % 32 = (b : Int) := by omega
  have b4 : (o : Int).tmod 32 = (b : Int) := by rw [Int.tmod_eq_emod_of_nonneg (by omega)]; omega
  have hil : i < lv M := by unfold lv; omega
  have him : i < m := by omega
  have him2 : (i : Int) < (m : Int) := by omega
  have hb32 : b < 32 := by omega
  obtain ⟨bb, oo, hBe, hbb, hcc⟩ := hU.get him
  subst hBe
  obtain ⟨x, hx⟩ : ∃ x, x = gt ys i := ⟨_, rfl⟩
  have hx64 : x < 18446744073709551616 := by rw [hx]; exact gt_lt hY.fit _
  rw [← hi, ← hb, ← hx] at hbt; rw [← hx] at hcc
  have hDR : DistR M zs ys (ys.set i (clm x b)) := .inr (.inl ⟨o, hoM, hhe, by rw [← hi, ← hb, ← hx]; exact hbt, by rw [← hi, ← hb, ← hx]⟩)
  have THb := fun w => Lib.hid (rhas_any x b hx64 (by omega) w)
  simp only [hbt] at THb
  have TCl := fun w => Lib.hid (rclaim_any x b hx64 (by omega) w)
  have hy64 : (clm x b) < U64 := clm_lt _ _
  generalize (clm x b) = y at TCl hy64 hDR
  have TSe : ∀ w, US w (some ⟨bb, oo, none⟩) m d ys → Hid (Calls Tryz.prog 35 #[.slice (some ⟨bb, oo, none⟩) m d, .int .i64 (i : Nat), .int .u64 (y : Nat)] w (RetSM m (ys.set i y) w)) := fun w U => by have := crset_new U (i : Int) hm6 hy64; rw [stI_nat] at this; exact this
  replace hDR := Lib.hid hDR
  clear hbt hhe hx hi hb ho hq hr hlt hoM hil hY hyl hC
  go_enter Tryz.func12, Tryz.ntmps12
  go_upto_region 1 with (fail)
  have L := Loc.start w
  replace L := (L).alloc #[.int .u32 (a : Int), .int .i64 p, .slice A n c, .int .i64 (ns : Int), .int .i64 wo, .int .i64 qu, .int .i64 tr] 27
  try simp only [World.size_alloc] at L
  try dsimp only [nput] at L
  generalize (w).alloc (.cells #[.int .u32 (a : Int), .int .i64 p, .slice A n c, .int .i64 (ns : Int), .int .i64 wo, .int .i64 qu, .int .i64 tr] 27) = w1 at L ⊢
  generalize w.heap.size = gH at L ⊢
  have H_0 := L.at_ 0 0 rfl (v := .int .u32 (a : Int)) rfl
  have H_1 := L.at_ 0 1 rfl (v := .int .i64 p) rfl
  have H_z := L.lt 0 rfl
  go_wp2_with fail
  refine ((TMy _).out).mono ?_
  rintro e w2 ⟨rfl, K'⟩
  clear H_0 H_1 H_z
  replace L := L.over K'
  go_wp2_with (refine wpList_load_want (by rfl) 27 (.tmp 3) rfl gH rfl _ _ (0, 0) _ (L.bk_ 0 rfl) Tryz.underlying27 rfl cf_sz ?_)
  refine ((THe _ (h0.below L.K)).out).mono ?_
  rintro e w3 ⟨rfl, K'⟩
  replace L := L.over K'
  have X := (L.K.cell (p := ⟨bb, oo + i, none⟩) hbb).trans hcc
  go_wp2_with fail
  refine ((THb _).out).mono ?_
  rintro e w' ⟨rfl, rfl⟩
  clear X
  go_wp2_with fail
  refine ((TCl _).out).mono ?_
  rintro e w' ⟨rfl, rfl⟩
  go_wp2_with fail
  have KS := L.K.size
  refine ((TSe _ (hU.below L.K)).out).mono ?_
  rintro e w4 ⟨gS, dS, rfl, U, hgS, K'⟩
  have Lb := L.lts
  replace L := L.over K'
  replace L := L.us_av (fun i b e b' o e' => by injection e' with e'; injection e' with e1; have := Lb i b e; omega) U
  clear Lb
  try dsimp only [lF, List.cons_append, List.nil_append] at L
  clear U
  go_wp2
  go_ret
  exact retD_new (L.us_ 0 rfl) hDR.out (Nat.le_trans KS hgS) L.K
set_option maxHeartbeats 2000000 in
theorem dist_held (hD : D < 4294967296) (hC : Cg a p n zs (ns : Int) M ns) (h0 : IS .i64 lo w A n c zs) (hY : YI M zs ys) (hU : US w B m d ys) (hlt : D % 8 < 4) (hhe : hasB zs ((D / 8 % M : Nat) : Int) = true) :
    Calls Tryz.prog 12 #[.agg #[.int .u32 (a : Int), .int .i64 p, .slice A n c, .int .i64 (ns : Int), .int .i64 wo, .int .i64 qu, .int .i64 tr], .slice B m d, .int .u32 (D : Int)] w (RetD M zs ys m B w) := by
  have hM := hC.much
  have hn9 := hC.few
  have hMp := hM.pos
  have hM9 := hC.sml
  have hml := hU.len
  have hyl := hY.len
  have hm := hM.most
  have hl3 := lv_le hm
  have ht3 := tv_le hm
  have hm6 : m ≤ 65536 := by omega
  have hm0 : 0 < m := by omega
  obtain ⟨q, hq⟩ : ∃ x, x = D / 8 := ⟨_, rfl⟩
  obtain ⟨r, hr⟩ : ∃ x, x = D % 8 := ⟨_, rfl⟩
  obtain ⟨o, ho⟩ : ∃ x, x = q % M := ⟨_, rfl⟩
  have hoM : o < M := by rw [ho]; exact Nat.mod_lt _ hMp
  have a1 : (D : Int) / 8 = (q : Int) := by omega
  have a2 : (D : Int).tdiv 8 = (q : Int) := by rw [Int.tdiv_eq_ediv_of_nonneg (by omega)]; omega
  have a3 : (D : Int) % 8 = (r : Int) := by omega
  have a4 : (D : Int).tmod 8 = (r : Int) := by rw [Int.tmod_eq_emod_of_nonneg (by omega)]; omega
  have a5 : (q : Int) % (M : Int) = (o : Int) := by rw [ho]; exact (Int.natCast_emod q M).symm
  have a6 : (q : Int).tmod (M : Int) = (o : Int) := by rw [Int.tmod_eq_emod_of_nonneg (by omega)]; exact a5
  have hM00 : ¬ ((M : Int) = 0) := by omega
  have TMy := fun w => Lib.hid (rmany_yes (w := w) hM)
  have c1 : decide ((r : Int) < 4) = true := by simp; omega
  rw [← hq, ← ho] at hhe
  have THe := fun w (h0 : IS .i64 lo w A n c zs) => Lib.hid (rheld_is (w := w) (a := a) (p := p) (sh := (ns : Int)) (wo := wo) (qu := qu) (tr := tr) h0 (by omega) hhe)
  have c2 : ((r : Int) == 4) = false := by simp; omega
  clear ho hq hr hlt hoM hY hC hyl hhe
  go_enter Tryz.func12, Tryz.ntmps12
  go_upto_region 1 with (fail)
  have L := Loc.start w
  replace L := (L).alloc #[.int .u32 (a : Int), .int .i64 p, .slice A n c, .int .i64 (ns : Int), .int .i64 wo, .int .i64 qu, .int .i64 tr] 27
  try simp only [World.size_alloc] at L
  try dsimp only [nput] at L
  generalize (w).alloc (.cells #[.int .u32 (a : Int), .int .i64 p, .slice A n c, .int .i64 (ns : Int), .int .i64 wo, .int .i64 qu, .int .i64 tr] 27) = w1 at L ⊢
  generalize w.heap.size = gH at L ⊢
  have H_0 := L.at_ 0 0 rfl (v := .int .u32 (a : Int)) rfl
  have H_1 := L.at_ 0 1 rfl (v := .int .i64 p) rfl
  have H_z := L.lt 0 rfl
  go_wp2_with fail
  refine ((TMy _).out).mono ?_
  rintro e w2 ⟨rfl, K'⟩
  clear H_0 H_1 H_z
  replace L := L.over K'
  go_wp2_with (refine wpList_load_want (by rfl) 27 (.tmp 3) rfl gH rfl _ _ (0, 0) _ (L.bk_ 0 rfl) Tryz.underlying27 rfl cf_sz ?_)
  refine ((THe _ (h0.below L.K)).out).mono ?_
  rintro e w3 ⟨rfl, K'⟩
  replace L := L.over K'
  go_wp2
  go_ret
  exact ⟨_, _, ys, rfl, hU.below L.K, .inr (.inr (.inr rfl)), fun k _ h => h, L.K⟩
set_option maxHeartbeats 2000000 in
theorem dist_sum (hD : D < 4294967296) (hC : Cg a p n zs (ns : Int) M ns) (h0 : IS .i64 lo w A n c zs) (hY : YI M zs ys) (hU : US w B m d ys) (hlt : D % 8 = 4) :
    Calls Tryz.prog 12 #[.agg #[.int .u32 (a : Int), .int .i64 p, .slice A n c, .int .i64 (ns : Int), .int .i64 wo, .int .i64 qu, .int .i64 tr], .slice B m d, .int .u32 (D : Int)] w (RetD M zs ys m B w) := by
  have hM := hC.much
  have hn9 := hC.few
  have hMp := hM.pos
  have hM9 := hC.sml
  have hml := hU.len
  have hyl := hY.len
  have hm := hM.most
  have hl3 := lv_le hm
  have ht3 := tv_le hm
  have hm6 : m ≤ 65536 := by omega
  have hm0 : 0 < m := by omega
  obtain ⟨q, hq⟩ : ∃ x, x = D / 8 := ⟨_, rfl⟩
  obtain ⟨r, hr⟩ : ∃ x, x = D % 8 := ⟨_, rfl⟩
  obtain ⟨o, ho⟩ : ∃ x, x = q % M := ⟨_, rfl⟩
  have hoM : o < M := by rw [ho]; exact Nat.mod_lt _ hMp
  have a1 : (D : Int) / 8 = (q : Int) := by omega
  have a2 : (D : Int).tdiv 8 = (q : Int) := by rw [Int.tdiv_eq_ediv_of_nonneg (by omega)]; omega
  have a3 : (D : Int) % 8 = (r : Int) := by omega
  have a4 : (D : Int).tmod 8 = (r : Int) := by rw [Int.tmod_eq_emod_of_nonneg (by omega)]; omega
  have a5 : (q : Int) % (M : Int) = (o : Int) := by rw [ho]; exact (Int.natCast_emod q M).symm
  have a6 : (q : Int).tmod (M : Int) = (o : Int) := by rw [Int.tmod_eq_emod_of_nonneg (by omega)]; exact a5
  have hM00 : ¬ ((M : Int) = 0) := by omega
  have TMy := fun w => Lib.hid (rmany_yes (w := w) hM)
  have c1 : decide ((r : Int) < 4) = false := by simp; omega
  have c2 : ((r : Int) == 4) = true := by simp; omega
  have TLv := fun w => Lib.hid (rleaves_any M hm w)
  obtain ⟨LV, hLV⟩ : ∃ x, x = lv M := ⟨_, rfl⟩
  rw [← hLV] at TLv hyl
  obtain ⟨T1, hT1⟩ : ∃ x, x = tv M + 1 := ⟨_, rfl⟩
  have d1 : (m : Int) - (LV : Int) = (T1 : Int) := by omega
  have hT00 : ¬ ((T1 : Int) = 0) := by omega
  obtain ⟨z, hz⟩ : ∃ x, x = q % T1 := ⟨_, rfl⟩
  have hzT : z < T1 := by rw [hz]; exact Nat.mod_lt _ (by omega)
  have d2 : (q : Int) % (T1 : Int) = (z : Int) := by rw [hz]; exact (Int.natCast_emod q T1).symm
  have d3 : (q : Int).tmod (T1 : Int) = (z : Int) := by rw [Int.tmod_eq_emod_of_nonneg (by omega)]; exact d2
  obtain ⟨j, hj⟩ : ∃ x : Nat, (LV : Int) + (z : Int) = x := ⟨LV + z, by omega⟩
  have hj2 : j = LV + z := by omega
  obtain ⟨W1, hW1⟩ : ∃ x : Nat, (D : Int) * 2654435761 = (x : Int) := ⟨D * 2654435761, by omega⟩
  have f1 : IntKind.u64.wrap (W1 : Int) = (W1 : Int) := IntWalk.u64_in _ (by omega)
  obtain ⟨W, hW, hW64⟩ : ∃ x : Nat, IntKind.u64.wrap ((W1 : Int) * 1099511628211) = (x : Int) ∧ x < U64 := wrap_mul W1 1099511628211
  have e5 : IntKind.i64.wrap (j : Int) = (j : Int) := IntWalk.i64_in _ (by omega)
  have e6 : IntKind.i64.wrap (T1 : Int) = (T1 : Int) := IntWalk.i64_in _ (by omega)
  have hDR : DistR M zs ys (ys.set j W) := .inr (.inr (.inl ⟨j, W, by omega, hW64, rfl⟩))
  have TSe : ∀ w, US w B m d ys → Hid (Calls Tryz.prog 35 #[.slice B m d, .int .i64 (j : Nat), .int .u64 (W : Nat)] w (RetSM m (ys.set j W) w)) := fun w U => by have := crset_new U (j : Int) hm6 hW64; rw [stI_nat] at this; exact this
  replace hDR := Lib.hid hDR
  clear hz hj2 hLV hT1 hzT
  clear ho hq hr hlt hoM hY hC hyl
  go_enter Tryz.func12, Tryz.ntmps12
  go_upto_region 1 with (fail)
  have L := Loc.start w
  replace L := (L).alloc #[.int .u32 (a : Int), .int .i64 p, .slice A n c, .int .i64 (ns : Int), .int .i64 wo, .int .i64 qu, .int .i64 tr] 27
  try simp only [World.size_alloc] at L
  try dsimp only [nput] at L
  generalize (w).alloc (.cells #[.int .u32 (a : Int), .int .i64 p, .slice A n c, .int .i64 (ns : Int), .int .i64 wo, .int .i64 qu, .int .i64 tr] 27) = w1 at L ⊢
  generalize w.heap.size = gH at L ⊢
  have H_0 := L.at_ 0 0 rfl (v := .int .u32 (a : Int)) rfl
  have H_1 := L.at_ 0 1 rfl (v := .int .i64 p) rfl
  have H_z := L.lt 0 rfl
  go_wp2_with fail
  refine ((TMy _).out).mono ?_
  rintro e w2 ⟨rfl, K'⟩
  clear H_0 H_1 H_z
  replace L := L.over K'
  go_wp2_with fail
  refine ((TLv _).out).mono ?_
  rintro e w' ⟨rfl, rfl⟩
  go_wp2_with fail
  have KS := L.K.size
  refine ((TSe _ (hU.below L.K)).out).mono ?_
  rintro e w3 ⟨gS, dS, rfl, U, hgS, K'⟩
  have Lb := L.lts
  replace L := L.over K'
  replace L := L.us_av (fun i b e b' o e' => by injection e' with e'; injection e' with e1; have := Lb i b e; omega) U
  clear Lb
  try dsimp only [lF, List.cons_append, List.nil_append] at L
  clear U
  go_wp2
  go_ret
  exact retD_new (L.us_ 0 rfl) hDR.out (Nat.le_trans KS hgS) L.K
set_option maxHeartbeats 2000000 in
theorem dist_no (hD : D < 4294967296) (hC : Cg a p n zs (ns : Int) M ns) (h0 : IS .i64 lo w A n c zs) (hY : YI M zs ys) (hU : US w B m d ys) (hlt : 4 < D % 8) :
    Calls Tryz.prog 12 #[.agg #[.int .u32 (a : Int), .int .i64 p, .slice A n c, .int .i64 (ns : Int), .int .i64 wo, .int .i64 qu, .int .i64 tr], .slice B m d, .int .u32 (D : Int)] w (RetD M zs ys m B w) := by
  have hM := hC.much
  have hn9 := hC.few
  have hMp := hM.pos
  have hM9 := hC.sml
  have hml := hU.len
  have hyl := hY.len
  have hm := hM.most
  have hl3 := lv_le hm
  have ht3 := tv_le hm
  have hm6 : m ≤ 65536 := by omega
  have hm0 : 0 < m := by omega
  obtain ⟨q, hq⟩ : ∃ x, x = D / 8 := ⟨_, rfl⟩
  obtain ⟨r, hr⟩ : ∃ x, x = D % 8 := ⟨_, rfl⟩
  obtain ⟨o, ho⟩ : ∃ x, x = q % M := ⟨_, rfl⟩
  have hoM : o < M := by rw [ho]; exact Nat.mod_lt _ hMp
  have a1 : (D : Int) / 8 = (q : Int) := by omega
  have a2 : (D : Int).tdiv 8 = (q : Int) := by rw [Int.tdiv_eq_ediv_of_nonneg (by omega)]; omega
  have a3 : (D : Int) % 8 = (r : Int) := by omega
  have a4 : (D : Int).tmod 8 = (r : Int) := by rw [Int.tmod_eq_emod_of_nonneg (by omega)]; omega
  have a5 : (q : Int) % (M : Int) = (o : Int) := by rw [ho]; exact (Int.natCast_emod q M).symm
  have a6 : (q : Int).tmod (M : Int) = (o : Int) := by rw [Int.tmod_eq_emod_of_nonneg (by omega)]; exact a5
  have hM00 : ¬ ((M : Int) = 0) := by omega
  have TMy := fun w => Lib.hid (rmany_yes (w := w) hM)
  have c1 : decide ((r : Int) < 4) = false := by simp; omega
  have c2 : ((r : Int) == 4) = false := by simp; omega
  clear ho hq hr hlt hoM hY hC hyl
  go_enter Tryz.func12, Tryz.ntmps12
  go_upto_region 1 with (fail)
  have L := Loc.start w
  replace L := (L).alloc #[.int .u32 (a : Int), .int .i64 p, .slice A n c, .int .i64 (ns : Int), .int .i64 wo, .int .i64 qu, .int .i64 tr] 27
  try simp only [World.size_alloc] at L
  try dsimp only [nput] at L
  generalize (w).alloc (.cells #[.int .u32 (a : Int), .int .i64 p, .slice A n c, .int .i64 (ns : Int), .int .i64 wo, .int .i64 qu, .int .i64 tr] 27) = w1 at L ⊢
  generalize w.heap.size = gH at L ⊢
  have H_0 := L.at_ 0 0 rfl (v := .int .u32 (a : Int)) rfl
  have H_1 := L.at_ 0 1 rfl (v := .int .i64 p) rfl
  have H_z := L.lt 0 rfl
  go_wp2_with fail
  refine ((TMy _).out).mono ?_
  rintro e w2 ⟨rfl, K'⟩
  clear H_0 H_1 H_z
  replace L := L.over K'
  go_wp2
  go_ret
  exact ⟨_, _, ys, rfl, hU.below L.K, .inr (.inr (.inr rfl)), fun k _ h => h, L.K⟩
theorem dist_any (hD : D < 4294967296) (hC : Cg a p n zs (ns : Int) M ns) (h0 : IS .i64 lo w A n c zs) (hY : YI M zs ys) (hU : US w B m d ys) :
    Calls Tryz.prog 12 #[.agg #[.int .u32 (a : Int), .int .i64 p, .slice A n c, .int .i64 (ns : Int), .int .i64 wo, .int .i64 qu, .int .i64 tr], .slice B m d, .int .u32 (D : Int)] w (RetD M zs ys m B w) := by
  by_cases h4 : D % 8 < 4
  · cases hhe : hasB zs ((D / 8 % M : Nat) : Int) with
    | true => exact dist_held hD hC h0 hY hU h4 hhe
    | false =>
      cases hbt : (gt ys (D / 8 % M / 32)).testBit (D / 8 % M % 32) with
      | true => exact dist_drop hD hC h0 hY hU h4 hhe hbt
      | false => exact dist_claim hD hC h0 hY hU h4 hhe hbt
  · by_cases h5 : D % 8 = 4
    · exact dist_sum hD hC h0 hY hU h5
    · exact dist_no hD hC h0 hY hU (by omega)
end
end Go.Proofs.YtghecdccdmeooaaGreat

/-
  A map of closures made by the call that hold two blocks of its own; what a look-up tells; what grant.phases answers. No condition on the program.
-/
namespace Go.Proofs.YtghecdccdmeooaaGreat
set_option maxRecDepth 100000
set_option maxRecDepth 100000
open Go.RowKit
set_option linter.unusedVariables false
/-- A closure that holds two blocks. -/
def cloV (k x y : Nat) : Value := .func (.func k) #[] #[.pointer (some ⟨x, 0, none⟩), .pointer (some ⟨y, 0, none⟩)]
def twoP : Array Value → Option (Nat × Nat)
  | ⟨[.pointer (some ⟨x, 0, none⟩), .pointer (some ⟨y, 0, none⟩)]⟩ => some (x, y)
  | _ => none
theorem twoP_inv {a : Array Value} {x y : Nat} (h : twoP a = some (x, y)) : a = #[.pointer (some ⟨x, 0, none⟩), .pointer (some ⟨y, 0, none⟩)] := by
  unfold twoP at h
  split at h
  · injection h with h; injection h with h1 h2; subst h1; subst h2; rfl
  · cases h
/-- How a closure's value reads: by its function's number, if it holds what that function's closures hold. -/
def cElem (cap : Nat → Nat × Nat) : Value → Option (DataW Unit × List MemPlace)
  | .func (.func k) a b => if a.size = 0 ∧ twoP b = some (cap k) then some (.lit (.int .u64 (k : Nat)), []) else none
  | .nilFunc => some (.lit (.bool false), [])
  | _ => none
section
variable {cap : Nat → Nat × Nat} {w w0 : World} {gm lo : Nat} {l : List (Int × Nat)} {bs : List Bl} {fs : List Fct} {mt et : TypeId} {k : Int}
theorem cElem_mk (f x y : Nat) (hc : cap f = (x, y)) : cElem cap (cloV f x y) = some (.lit (.int .u64 (f : Nat)), []) := by
  unfold cElem cloV
  dsimp only
  rw [if_pos ⟨rfl, by rw [hc]; rfl⟩]
theorem cElem_inv {v : Value} {f : Nat} {ps : List MemPlace} (h : cElem cap v = some (.lit (.int .u64 (f : Nat)), ps)) : v = cloV f (cap f).1 (cap f).2 := by
  unfold cElem at h
  split at h
  · split at h
    · rename_i g
      simp only [Option.some.injEq, Prod.mk.injEq, DataW.lit.injEq, Lit.int.injEq, true_and] at h
      obtain ⟨h1, _⟩ := h
      have h2 := Array.eq_empty_of_size_eq_zero g.1
      have h4 : _ = f := Int.ofNat.inj h1
      subst h2 h4
      unfold cloV
      rw [twoP_inv g.2]
    · cases h
  · simp at h
  · cases h
theorem cElem_no {v : Value} {ps : List MemPlace} (h : cElem cap v = some (.lit (.bool false), ps)) : v = .nilFunc := by
  unfold cElem at h
  split at h
  · split at h
    · simp at h
    · cases h
  · rfl
  · cases h
def CMap (cap : Nat → Nat × Nat) (w : World) (gm : Nat) (l : List (Int × Nat)) : Prop := w.ownsMap Tryz.prog 3 (cElem cap) gm l.length (fD l)
def cF (cap : Nat → Nat × Nat) (gm : Nat) (l : List (Int × Nat)) : Fct := ⟨fun w => CMap cap w gm l, fun b => b = gm⟩
theorem cF_ok : (cF cap gm l).Ok :=
  ⟨fun w w' h hs hk => by
    have hlt := World.ownsMap.lt h
    obtain ⟨es, clock, hb, F, hs', hD⟩ := h
    exact ⟨es, clock, (hk gm hlt rfl).trans hb, F, hs', hD⟩, fun w b h e => by subst e; exact World.ownsMap.lt h⟩
theorem Loc.cmap (L : Loc w0 w bs fs) (hl : ∀ i b, nth bs i = some b → b.1 < lo) (hg : lo ≤ gm) (h : CMap cap w gm l) : Loc w0 w bs (cF cap gm l :: fs) :=
  L.add _ h cF_ok fun i b e e' => by have := hl i b e; have : b.1 = gm := e'; omega
/-- A block that is known whole, as a fact. -/
def bF (g : Nat) (t : TypeId) (d : Array Value) : Fct := ⟨fun w => Bk w g t d, fun b => b = g⟩
theorem bF_ok {g : Nat} {t : TypeId} {d : Array Value} : (bF g t d).Ok :=
  ⟨fun w w' h hs hk => (hk g h.lt rfl).trans h, fun w b h e => by subst e; exact h.lt⟩
theorem Loc.bkf {g : Nat} {t : TypeId} {d : Array Value} (L : Loc w0 w bs fs) (hl : ∀ i b, nth bs i = some b → b.1 < lo) (hg : lo ≤ g) (h : Bk w g t d) : Loc w0 w bs (bF g t d :: fs) :=
  L.add _ h bF_ok fun i b e e' => by have := hl i b e; have : b.1 = g := e'; omega
theorem fD_atno {k : Int} : ∀ {l : List (Int × Nat)}, fget l k = none → (fD l).atKey (.int .i64 k) (.lit (.bool false)) = .lit (.bool false)
  | [], _ => rfl
  | p :: l, h => by
    unfold fget at h
    by_cases e : p.1 = k
    · rw [if_pos e] at h; cases h
    · rw [if_neg e] at h
      have hne : (Lit.int .i64 k) ≠ (Lit.int .i64 p.1) := fun h => e (by injection h with _ h; exact h.symm)
      unfold fD
      rw [Maps.atKey_put_other hne]
      exact fD_atno h
theorem CMap.look (h : CMap cap w gm l) (ht : Tryz.prog.underlying mt = some (.map 3 et)) (hz : (zeroValue et).run Tryz.prog w = .ok .nilFunc w) {f : Nat} (hk : (Lit.int .i64 k).wf = true) (e : fget l k = some f) :
    (Instr.lookup mt (.map (some gm)) (.int .i64 k) true).run Tryz.prog w = .ok (.tuple #[cloV f (cap f).1 (cap f).2, .bool true]) w := by
  obtain ⟨v, ps, hrun, hv⟩ := World.ownsMap.look_ok h ikey_law ht hz (zd := .lit (.bool false)) (zp := []) rfl (ikey hk)
  rw [(fD_at hk e).1] at hv
  rw [hrun, cElem_inv hv, (fD_at hk e).2]
theorem CMap.none (h : CMap cap w gm l) (ht : Tryz.prog.underlying mt = some (.map 3 et)) (hz : (zeroValue et).run Tryz.prog w = .ok .nilFunc w) (hk : (Lit.int .i64 k).wf = true) (e : fget l k = none) :
    (Instr.lookup mt (.map (some gm)) (.int .i64 k) true).run Tryz.prog w = .ok (.tuple #[.nilFunc, .bool false]) w := by
  obtain ⟨v, ps, hrun, hv⟩ := World.ownsMap.look_ok h ikey_law ht hz (zd := .lit (.bool false)) (zp := []) rfl (ikey hk)
  rw [fD_atno e] at hv
  rw [hrun, cElem_no hv, fD_no e]
theorem CMap.put (h : CMap cap w gm l) (ht : Tryz.prog.underlying mt = some (.map 3 et)) (hn : l.length < 64) (k : Int) (f x y : Nat) (hc : cap f = (x, y)) (hk : (Lit.int .i64 k).wf = true) :
    ∃ w', (Instr.mapUpdate mt (.map (some gm)) (.int .i64 k) (cloV f x y)).run Tryz.prog w = .ok () w' ∧ CMap cap w' gm ((k, f) :: l) ∧ w.grownBy w' (some gm) :=
  World.ownsMap.update h ikey_law ht (by unfold maxLen; omega) (ikey hk) (cElem_mk f x y hc)
end
theorem gph_z (w : World) : (zeroValue 71).run Tryz.prog w = .ok .nilFunc w := by kernel_rfl
abbrev gph_l : List (Int × Nat) := [(5, 72), (4, 72), (7, 70), (6, 70), (3, 68), (2, 68), (1, 66)]
/-- What the closures of a step hold: the cells and the configuration; the configuration and the cells. -/
def gcap (gC gL : Nat) (k : Nat) : Nat × Nat := if k = 66 then (gL, gC) else (gC, gL)
set_option maxHeartbeats 1000000 in
theorem gph_any {a : Nat} {p wo qu tr : Int} {A : Option Addr} {n c ns : Nat} (B : Option Addr) (m d : Nat) (w : World) :
    Calls Tryz.prog 39 #[.agg #[.int .u32 (a : Int), .int .i64 p, .slice A n c, .int .i64 (ns : Int), .int .i64 wo, .int .i64 qu, .int .i64 tr], .slice B m d] w fun e w' => ∃ gm gC gK, e = .returned (.map (some gm)) ∧ CMap (gcap gC gK) w' gm gph_l ∧ Bk w' gC 27 #[.int .u32 (a : Int), .int .i64 p, .slice A n c, .int .i64 (ns : Int), .int .i64 wo, .int .i64 qu, .int .i64 tr] ∧ Bk w' gK 38 #[.slice B m d] ∧ (w.heap.size ≤ gm ∧ w.heap.size ≤ gC ∧ w.heap.size ≤ gK) ∧ Below w.heap.size w w' := by
  go_enter Tryz.func39, Tryz.ntmps39
  go_upto_region 1 with (fail)
  have L := Loc.start w
  replace L := ((L).alloc #[.int .u32 (a : Int), .int .i64 p, .slice A n c, .int .i64 (ns : Int), .int .i64 wo, .int .i64 qu, .int .i64 tr] 27).alloc #[.slice B m d] 38
  try simp only [World.size_alloc] at L
  try dsimp only [nput] at L
  generalize ((w).alloc (.cells #[.int .u32 (a : Int), .int .i64 p, .slice A n c, .int .i64 (ns : Int), .int .i64 wo, .int .i64 qu, .int .i64 tr] 27)).alloc (.cells #[.slice B m d] 38) = w1 at L ⊢
  generalize w.heap.size + 1 = gK at L ⊢
  generalize w.heap.size = gC at L ⊢
  have KB := L.K
  have BC := L.bk_ 1 rfl
  have BK := L.bk_ 0 rfl
  have hCK := L.ges
  have gC0 : w.heap.size ≤ gC := hCK 1 _ rfl
  have gK0 : w.heap.size ≤ gK := hCK 0 _ rfl
  clear hCK
  have hmm := @run_makeMap Tryz.prog
  have O0 : CMap (gcap gC gK) (w1.alloc (.map #[] 0)) w1.heap.size [] := World.ownsMap_made w1 Tryz.prog 3 (cElem (gcap gC gK))
  have K0 := below_alloc w1 (.map #[] 0)
  have c1 : gcap gC gK 66 = (gK, gC) := rfl
  have c2 : gcap gC gK 68 = (gC, gK) := rfl
  have c3 : gcap gC gK 70 = (gC, gK) := rfl
  have c4 : gcap gC gK 72 = (gC, gK) := rfl
  obtain ⟨u1, H1, O1, G1⟩ := O0.put Tryz.underlying73 (by decide) 1 66 gK gC c1 (by decide)
  obtain ⟨u2, H2, O2, G2⟩ := O1.put Tryz.underlying73 (by decide) 2 68 gC gK c2 (by decide)
  obtain ⟨u3, H3, O3, G3⟩ := O2.put Tryz.underlying73 (by decide) 3 68 gC gK c2 (by decide)
  obtain ⟨u4, H4, O4, G4⟩ := O3.put Tryz.underlying73 (by decide) 6 70 gC gK c3 (by decide)
  obtain ⟨u5, H5, O5, G5⟩ := O4.put Tryz.underlying73 (by decide) 7 70 gC gK c3 (by decide)
  obtain ⟨u6, H6, O6, G6⟩ := O5.put Tryz.underlying73 (by decide) 4 72 gC gK c4 (by decide)
  obtain ⟨u7, H7, O7, G7⟩ := O6.put Tryz.underlying73 (by decide) 5 72 gC gK c4 (by decide)
  simp only [cloV] at H1 H2 H3 H4 H5 H6 H7
  go_wp2
  have K1 := K0.grown G1 (Nat.le_trans (Nat.le_refl _) K0.size) (by intro j hj; injection hj with hj; omega)
  have K2 := K1.grown G2 (Nat.le_trans (Nat.le_refl _) K1.size) (by intro j hj; injection hj with hj; omega)
  have K3 := K2.grown G3 (Nat.le_trans (Nat.le_refl _) K2.size) (by intro j hj; injection hj with hj; omega)
  have K4 := K3.grown G4 (Nat.le_trans (Nat.le_refl _) K3.size) (by intro j hj; injection hj with hj; omega)
  have K5 := K4.grown G5 (Nat.le_trans (Nat.le_refl _) K4.size) (by intro j hj; injection hj with hj; omega)
  have K6 := K5.grown G6 (Nat.le_trans (Nat.le_refl _) K5.size) (by intro j hj; injection hj with hj; omega)
  have K7 := K6.grown G7 (Nat.le_trans (Nat.le_refl _) K6.size) (by intro j hj; injection hj with hj; omega)
  go_ret
  exact ⟨_, _, _, rfl, O7, BC.below K7, BK.below K7, ⟨KB.size, gC0, gK0⟩, Below.then_ KB K7⟩
end Go.Proofs.YtghecdccdmeooaaGreat

/-
  What the closures of grant.Step answer of a grant where it may be. Conditions: a block that may be; the two blocks that they hold.
-/
namespace Go.Proofs.YtghecdccdmeooaaGreat
set_option maxRecDepth 100000
set_option maxRecDepth 100000
open Go.RowKit
set_option linter.unusedVariables false
section
variable {w w1 : World} {lo a m d D M ns N kC kK : Nat} {p sh wo qu tr : Int} {A B : Option Addr} {n c : Nat} {zs : List Int} {sn ys : List Nat} {h : Hd} {s : Sc}
set_option maxHeartbeats 2000000 in
theorem gcl_seek (ha : a < 4294967296) (hM : Much a p M) (h1 : 1 ≤ ns) (h2 : ns ≤ 64) (hN : N ≤ 60000) (hG : GI M ns zs N s sn) (hY : YI M zs ys) (hU : US w B m d ys) (hL : Lists lo w h (gl sn)) (hBC : Bk w kC 27 #[.int .u32 (a : Int), .int .i64 p, .slice A n c, .int .i64 (ns : Int), .int .i64 wo, .int .i64 qu, .int .i64 tr]) (hBK : Bk w kK 38 #[.slice B m d]) (hph : s.phase = 1) :
    Calls Tryz.prog 66 #[.agg (opv h s), .pointer (some ⟨kK, 0, none⟩), .pointer (some ⟨kC, 0, none⟩)] w (RetG (gS a M ns ys s sn) (gl (gN M ys s sn)) m (gC M ys s) (gB M ys s sn) B w) := by
  have hm0 : 0 < m := by have := hU.len; have := hY.len; omega
  obtain ⟨s2, hs2⟩ : ∃ s2, s2 = gS a M ns ys s sn := ⟨_, rfl⟩
  obtain ⟨l2, hl2⟩ : ∃ l2, l2 = gl (gN M ys s sn) := ⟨_, rfl⟩
  obtain ⟨y2, hy2⟩ : ∃ y2, y2 = gC M ys s := ⟨_, rfl⟩
  obtain ⟨b2, hb2⟩ : ∃ b2, b2 = gB M ys s sn := ⟨_, rfl⟩
  have TK := fun w lo h (U : US w B m d ys) (L : Lists lo w h (gl sn)) => Lib.hid (gp_seek (w := w) (lo := lo) (h := h) (s := s) (wo := wo) (qu := qu) (tr := tr) (A := A) (n := n) (c := c) ha hM h1 h2 hG hY U L hph)
  simp only [← hs2, ← hl2, ← hy2, ← hb2] at TK ⊢
  clear hG hY hs2 hl2 ha hM
  rw [show y2 = ys from hy2.trans (gp_quiet (.inl hph)), show b2 = false from hb2.trans (gp_calm (.inl hph))]
  clear hy2 hb2
  go_enter Tryz.func66, Tryz.ntmps66
  go_upto_region 1 with (fail)
  have L := Loc.start w
  replace L := ((L).alloc (opv h s) 40).alloc #[.int .i64 0, .int .u32 0, .slice none 0 0, .int .i64 0, .int .u32 0, .bool false, .slice none 0 0, .slice none 0 0, .int .i64 0, .int .i64 0, .int .i64 0, .int .i64 0, .int .i64 0, .int .u64 0, .bool false, .slice none 0 0, .int .i64 0, .int .i64 0, .int .i64 0, .int .i64 0] 40
  try simp only [World.size_alloc] at L
  replace L := L.is 0 (opv hd0 sc0) rfl
  try dsimp only [nput] at L
  generalize ((w).alloc (.cells (opv h s) 40)).alloc (.cells #[.int .i64 0, .int .u32 0, .slice none 0 0, .int .i64 0, .int .u32 0, .bool false, .slice none 0 0, .slice none 0 0, .int .i64 0, .int .i64 0, .int .i64 0, .int .i64 0, .int .i64 0, .int .u64 0, .bool false, .slice none 0 0, .int .i64 0, .int .i64 0, .int .i64 0, .int .i64 0] 40) = w1 at L ⊢
  generalize w.heap.size + 1 = gR at L ⊢
  generalize w.heap.size = gO at L ⊢
  replace L := L.drew
  refine wp_region_held_drew (S := fun w' => ∃ v_R : Array Value, v_R.size = 20 ∧ Loc w w' [(gR, 40, v_R), (gO, 40, opv h s)] []) (by kernel_rfl) (⟨_, rfl, L⟩) (fun hHeld => ?_)
  generalize w1.drew = v2 at hHeld L ⊢
  refine wpAnyH_take (i := 0) (oi := ⟨some 7, _, _, _, _, _⟩) (v := .slice B m d) rfl (by kernel_rfl) (by kernel_rfl) (by kernel_rfl) (fun _ _ _ h => h) (Or.inl ⟨by rfl, ?_⟩) hHeld ?_
  · intro ww hS
    try dsimp only at hS
    have K_0 := (hBK.below (hS.choose_spec.2).K).at_ 0 (v := .slice B m d) rfl
    have K_z := (hBK.below (hS.choose_spec.2).K).lt
    go_simp
    try with_reducible rfl
    try omega
  try simp only [Act.put]
  refine wpAnyH_take (i := 1) (oi := ⟨some 8, _, _, _, _, _⟩) (v := .agg (#[.int .u32 (a : Int), .int .i64 p, .slice A n c, .int .i64 (ns : Int), .int .i64 wo, .int .i64 qu, .int .i64 tr])) rfl (by kernel_rfl) (by kernel_rfl) (by kernel_rfl) (fun _ _ _ h => h) (yieldsIf_load_row (by rfl) 27 (.tmp 2) rfl kC rfl 27 _ (0, 0) _ (fun _ hS => (hBC.below (hS.choose_spec.2).K)) Tryz.underlying27 rfl cf_sz) hHeld ?_
  try simp only [Act.put]
  refine wpAnyH_take (i := 2) (oi := ⟨some 9, _, _, _, _, _⟩) (v := .slice B m d) rfl (by kernel_rfl) (by kernel_rfl) (by kernel_rfl) (fun _ _ _ h => h) (Or.inl ⟨by rfl, ?_⟩) hHeld ?_
  · intro ww hS
    try dsimp only at hS
    have K_0 := (hBK.below (hS.choose_spec.2).K).at_ 0 (v := .slice B m d) rfl
    have K_z := (hBK.below (hS.choose_spec.2).K).lt
    go_simp
    try with_reducible rfl
    try omega
  try simp only [Act.put]
  refine wpAnyH_take (i := 3) (oi := ⟨some 10, _, _, _, _, _⟩) (v := .agg (opv h s)) rfl (by kernel_rfl) (by kernel_rfl) (by kernel_rfl) (fun _ _ _ h => h) (yieldsIf_load_row (by rfl) 40 (.tmp 3) rfl gO rfl 40 _ (0, 0) _ (fun _ hS => ((hS.choose_spec.2).bk_ 1 rfl)) Tryz.underlying40 rfl op_sz) hHeld ?_
  try simp only [Act.put, sA, sZ, sS]
  refine wpAnyH_ready (rs := [4]) (by kernel_rfl) (by simp) ?_
  refine AllReadyH.cons (o := ⟨some 11, _, _, _, _, _⟩) rfl (fun K0 hK => ?_) AllReadyH.nil
  have KS := L.K.size
  go_simp
  refine ((TK _ _ _ (hU.below L.K) (hL.below L.K)).out).mono ?_
  rintro e w3 ⟨h3, rfl, L', K'⟩
  have Lb := L.lts
  replace L := L.over K'
  replace L := L.lists Lb L'
  clear Lb
  try dsimp only [lF, List.cons_append, List.nil_append] at L
  clear L'
  refine hK.out _ _ ⟨_, rfl, (L.less 4)⟩ (fun hHeld' => ?_)
  clear hHeld hK K0
  have hHeld := hHeld'
  clear hHeld'
  clear K'
  try simp only [Act.put, sA, sZ, sS]
  refine wpAnyH_take (i := 5) (oi := ⟨some 4, _, _, _, _, _⟩) (v := .slice B m d) rfl (by kernel_rfl) (by kernel_rfl) (by kernel_rfl) (fun _ _ _ h => h) (Or.inl ⟨by rfl, ?_⟩) hHeld ?_
  · (intro ww hS; go_simp; try with_reducible rfl; try omega)
  try simp only [Act.put, sA, sZ, sS]
  refine wpAnyH_ready (rs := [6]) (by kernel_rfl) (by simp) ?_
  refine AllReadyH.cons (o := ⟨none, _, _, _, _, _⟩) rfl (fun K0 hK => ?_) AllReadyH.nil
  rw [if_pos (by rfl)]
  refine wp_store_row 40 (.tmp 5) (.tmp 11) rfl gR _ rfl rfl _ _ (L.bk_ 0 rfl) op_sz rfl (opv_one _ _) ?_
  replace L := L.row 0 rfl (opv h3 s2)
  try dsimp only [nput] at L
  refine hK.out _ _ ⟨_, rfl, (L.less 4)⟩ (fun hHeld' => ?_)
  clear hHeld hK K0
  have hHeld := hHeld'
  clear hHeld'
  generalize w3.setRow gR (opv h3 s2) = v4 at hHeld L ⊢
  try simp only [Act.put]
  refine wpAnyH_take (i := 7) (oi := ⟨some 6, _, _, _, _, _⟩) (v := .bool false) rfl (by kernel_rfl) (by kernel_rfl) (by kernel_rfl) (fun _ _ _ h => h) (Or.inl ⟨by rfl, ?_⟩) hHeld ?_
  · (intro ww hS; go_simp; try with_reducible rfl; try omega)
  try simp only [Act.put, sA, sZ, sS]
  refine wpAnyH_done (by kernel_rfl) ?_ _
  clear hHeld
  go_wp2
  refine bodyPost_ret (v := .tuple #[.slice B m d, .agg (opv h3 s2), .bool false]) ?_ rfl ?_
  · exact results_tct (fn := Tryz.f66) Tryz.results66 _ _ gR _ _ (0, 0) _ rfl (L.bk_ 0 rfl) Tryz.underlying40 rfl op_sz
  exact ⟨_, _, _, rfl, hU.below L.K, (L.lists_at 0 rfl).lower_ KS, fun k _ h => h, L.K⟩
set_option maxHeartbeats 2000000 in
theorem gcl_claim (ha : a < 4294967296) (hM : Much a p M) (h1 : 1 ≤ ns) (h2 : ns ≤ 64) (hN : N ≤ 60000) (hG : GI M ns zs N s sn) (hY : YI M zs ys) (hU : US w B m d ys) (hL : Lists lo w h (gl sn)) (hBC : Bk w kC 27 #[.int .u32 (a : Int), .int .i64 p, .slice A n c, .int .i64 (ns : Int), .int .i64 wo, .int .i64 qu, .int .i64 tr]) (hBK : Bk w kK 38 #[.slice B m d]) (hph : s.phase = 2 ∨ s.phase = 3) :
    Calls Tryz.prog 68 #[.agg (opv h s), .pointer (some ⟨kC, 0, none⟩), .pointer (some ⟨kK, 0, none⟩)] w (RetG (gS a M ns ys s sn) (gl (gN M ys s sn)) m (gC M ys s) (gB M ys s sn) B w) := by
  have hm0 : 0 < m := by have := hU.len; have := hY.len; omega
  obtain ⟨s2, hs2⟩ : ∃ s2, s2 = gS a M ns ys s sn := ⟨_, rfl⟩
  obtain ⟨l2, hl2⟩ : ∃ l2, l2 = gl (gN M ys s sn) := ⟨_, rfl⟩
  obtain ⟨y2, hy2⟩ : ∃ y2, y2 = gC M ys s := ⟨_, rfl⟩
  obtain ⟨b2, hb2⟩ : ∃ b2, b2 = gB M ys s sn := ⟨_, rfl⟩
  have TK := fun w lo h (U : US w B m d ys) (L : Lists lo w h (gl sn)) => Lib.hid (gp_claim (w := w) (lo := lo) (h := h) (s := s) (wo := wo) (qu := qu) (tr := tr) (A := A) (n := n) (c := c) ha hM h1 h2 hN hG hY U L hph)
  simp only [← hs2, ← hl2, ← hy2, ← hb2] at TK ⊢
  clear hG hY hs2 hl2 ha hM
  clear hy2 hb2
  go_enter Tryz.func68, Tryz.ntmps68
  go_upto_region 1 with (fail)
  have L := Loc.start w
  replace L := ((L).alloc (opv h s) 40).alloc #[.int .i64 0, .int .u32 0, .slice none 0 0, .int .i64 0, .int .u32 0, .bool false, .slice none 0 0, .slice none 0 0, .int .i64 0, .int .i64 0, .int .i64 0, .int .i64 0, .int .i64 0, .int .u64 0, .bool false, .slice none 0 0, .int .i64 0, .int .i64 0, .int .i64 0, .int .i64 0] 40
  try simp only [World.size_alloc] at L
  replace L := L.is 0 (opv hd0 sc0) rfl
  try dsimp only [nput] at L
  generalize ((w).alloc (.cells (opv h s) 40)).alloc (.cells #[.int .i64 0, .int .u32 0, .slice none 0 0, .int .i64 0, .int .u32 0, .bool false, .slice none 0 0, .slice none 0 0, .int .i64 0, .int .i64 0, .int .i64 0, .int .i64 0, .int .i64 0, .int .u64 0, .bool false, .slice none 0 0, .int .i64 0, .int .i64 0, .int .i64 0, .int .i64 0] 40) = w1 at L ⊢
  generalize w.heap.size + 1 = gR at L ⊢
  generalize w.heap.size = gO at L ⊢
  have K_0 := (hBK.below L.K).at_ 0 (v := .slice B m d) rfl
  have K_z := (hBK.below L.K).lt
  go_wp2_with (first | (refine wpList_load_row rfl 27 (.tmp 1) rfl kC rfl _ _ (0, 0) _ (hBC.below L.K) Tryz.underlying27 rfl cf_sz ?_) | (refine wpList_load_row rfl 40 (.tmp 3) rfl gO rfl _ _ (0, 0) _ (L.bk_ 1 rfl) Tryz.underlying40 rfl op_sz ?_))
  have KS := L.K.size
  refine ((TK _ _ _ (hU.below L.K) (hL.below L.K)).out).mono ?_
  rintro e w2 ⟨h3, B2, d2, rfl, U, L', hA, K'⟩
  clear K_0 K_z
  have Lb := L.lts
  replace L := L.over K'
  replace L := L.us_av (fun i b e => hA b.1 (Lb i b e) (hU.apart0 hm0 L i b e)) U
  replace L := L.lists Lb L'
  clear Lb
  try dsimp only [lF, List.cons_append, List.nil_append] at L
  clear L' U
  go_wp2_with (refine wpList_store_row rfl 40 (.tmp 5) (.tmp 12) rfl gR _ rfl rfl _ _ (L.bk_ 0 rfl) op_sz rfl (opv_one _ _) ?_)
  replace L := (L.row 0 rfl (opv h3 s2))
  try dsimp only [nput] at L
  generalize (w2).setRow gR (opv h3 s2) = w3 at L ⊢
  refine bodyPost_ret (v := .tuple #[.slice B2 m d2, .agg (opv h3 s2), .bool b2]) ?_ rfl ?_
  · exact results_tct (fn := Tryz.f68) Tryz.results68 _ _ gR _ _ (0, 0) _ rfl (L.bk_ 0 rfl) Tryz.underlying40 rfl op_sz
  exact ⟨_, _, _, rfl, L.us_ 4 rfl, (L.lists_at 0 rfl).lower_ KS, fun k hk => hA k (Nat.lt_of_lt_of_le hk KS), L.K⟩
set_option maxHeartbeats 2000000 in
theorem gcl_sweep (ha : a < 4294967296) (hM : Much a p M) (h1 : 1 ≤ ns) (h2 : ns ≤ 64) (hN : N ≤ 60000) (hG : GI M ns zs N s sn) (hY : YI M zs ys) (hU : US w B m d ys) (hL : Lists lo w h (gl sn)) (hBC : Bk w kC 27 #[.int .u32 (a : Int), .int .i64 p, .slice A n c, .int .i64 (ns : Int), .int .i64 wo, .int .i64 qu, .int .i64 tr]) (hBK : Bk w kK 38 #[.slice B m d]) (hph : s.phase = 6 ∨ s.phase = 7) :
    Calls Tryz.prog 70 #[.agg (opv h s), .pointer (some ⟨kC, 0, none⟩), .pointer (some ⟨kK, 0, none⟩)] w (RetG (gS a M ns ys s sn) (gl (gN M ys s sn)) m (gC M ys s) (gB M ys s sn) B w) := by
  have hm0 : 0 < m := by have := hU.len; have := hY.len; omega
  obtain ⟨s2, hs2⟩ : ∃ s2, s2 = gS a M ns ys s sn := ⟨_, rfl⟩
  obtain ⟨l2, hl2⟩ : ∃ l2, l2 = gl (gN M ys s sn) := ⟨_, rfl⟩
  obtain ⟨y2, hy2⟩ : ∃ y2, y2 = gC M ys s := ⟨_, rfl⟩
  obtain ⟨b2, hb2⟩ : ∃ b2, b2 = gB M ys s sn := ⟨_, rfl⟩
  have TK := fun w lo h (U : US w B m d ys) (L : Lists lo w h (gl sn)) => Lib.hid (gp_sweep (w := w) (lo := lo) (h := h) (s := s) (wo := wo) (qu := qu) (tr := tr) (A := A) (n := n) (c := c) ha hM hG hY U L hph)
  simp only [← hs2, ← hl2, ← hy2, ← hb2] at TK ⊢
  clear hG hY hs2 hl2 ha hM
  rw [show y2 = ys from hy2.trans (gp_quiet (.inr hph))]
  clear hy2 hb2
  go_enter Tryz.func70, Tryz.ntmps70
  go_upto_region 1 with (fail)
  have L := Loc.start w
  replace L := ((L).alloc (opv h s) 40).alloc #[.int .i64 0, .int .u32 0, .slice none 0 0, .int .i64 0, .int .u32 0, .bool false, .slice none 0 0, .slice none 0 0, .int .i64 0, .int .i64 0, .int .i64 0, .int .i64 0, .int .i64 0, .int .u64 0, .bool false, .slice none 0 0, .int .i64 0, .int .i64 0, .int .i64 0, .int .i64 0] 40
  try simp only [World.size_alloc] at L
  replace L := L.is 0 (opv hd0 sc0) rfl
  try dsimp only [nput] at L
  generalize ((w).alloc (.cells (opv h s) 40)).alloc (.cells #[.int .i64 0, .int .u32 0, .slice none 0 0, .int .i64 0, .int .u32 0, .bool false, .slice none 0 0, .slice none 0 0, .int .i64 0, .int .i64 0, .int .i64 0, .int .i64 0, .int .i64 0, .int .u64 0, .bool false, .slice none 0 0, .int .i64 0, .int .i64 0, .int .i64 0, .int .i64 0] 40) = w1 at L ⊢
  generalize w.heap.size + 1 = gR at L ⊢
  generalize w.heap.size = gO at L ⊢
  have K_0 := (hBK.below L.K).at_ 0 (v := .slice B m d) rfl
  have K_z := (hBK.below L.K).lt
  go_wp2_with (first | (refine wpList_load_row rfl 27 (.tmp 1) rfl kC rfl _ _ (0, 0) _ (hBC.below L.K) Tryz.underlying27 rfl cf_sz ?_) | (refine wpList_load_row rfl 40 (.tmp 3) rfl gO rfl _ _ (0, 0) _ (L.bk_ 1 rfl) Tryz.underlying40 rfl op_sz ?_))
  have KS := L.K.size
  refine ((TK _ _ _ (hU.below L.K) (hL.below L.K)).out).mono ?_
  rintro e w2 ⟨h3, rfl, L', K'⟩
  clear K_0 K_z
  have Lb := L.lts
  replace L := L.over K'
  replace L := L.lists Lb L'
  clear Lb
  try dsimp only [lF, List.cons_append, List.nil_append] at L
  clear L'
  go_upto_region 2 with (refine wpList_store_row rfl 40 (.tmp 3) (.tmp 13) rfl gO _ rfl rfl _ _ (L.bk_ 1 rfl) op_sz rfl (opv_one _ _) ?_)
  replace L := (L.row 1 rfl (opv h3 s2))
  try dsimp only [nput] at L
  generalize (w2).setRow gO (opv h3 s2) = w3 at L ⊢
  replace L := L.drew
  refine wp_region_held_drew (S := fun w' => ∃ v_R : Array Value, v_R.size = 20 ∧ Loc w w' [(gR, 40, v_R), (gO, 40, opv h3 s2)] [iF .u32 w1.heap.size h3.A0 h3.n0 h3.c0 l2.rqs, iF .u32 w1.heap.size h3.A1 h3.n1 h3.c1 l2.ads, iF .i64 w1.heap.size h3.A2 h3.n2 h3.c2 l2.ers, iF .u64 w1.heap.size h3.A3 h3.n3 h3.c3 l2.ses]) (by kernel_rfl) (⟨_, rfl, L⟩) (fun hHeld => ?_)
  generalize w3.drew = v4 at hHeld L ⊢
  refine wpAnyH_take (i := 0) (oi := ⟨some 15, _, _, _, _, _⟩) (v := .slice B m d) rfl (by kernel_rfl) (by kernel_rfl) (by kernel_rfl) (fun _ _ _ h => h) (Or.inl ⟨by rfl, ?_⟩) hHeld ?_
  · intro ww hS
    try dsimp only at hS
    have K_0 := (hBK.below (hS.choose_spec.2).K).at_ 0 (v := .slice B m d) rfl
    have K_z := (hBK.below (hS.choose_spec.2).K).lt
    go_simp
    try with_reducible rfl
    try omega
  try simp only [Act.put, sA, sZ, sS]
  refine wpAnyH_take (i := 1) (oi := ⟨some 16, _, _, _, _, _⟩) (v := .agg (opv h3 s2)) rfl (by kernel_rfl) (by kernel_rfl) (by kernel_rfl) (fun _ _ _ h => h) (yieldsIf_load_row (by rfl) 40 (.tmp 3) rfl gO rfl 40 _ (0, 0) _ (fun _ hS => ((hS.choose_spec.2).bk_ 1 rfl)) Tryz.underlying40 rfl op_sz) hHeld ?_
  try simp only [Act.put, sA, sZ, sS]
  refine wpAnyH_take (i := 2) (oi := ⟨some 17, _, _, _, _, _⟩) (v := .bool b2) rfl (by kernel_rfl) (by kernel_rfl) (by kernel_rfl) (fun _ _ _ h => h) (Or.inl ⟨by rfl, ?_⟩) hHeld ?_
  · (intro ww hS; go_simp; try with_reducible rfl; try omega)
  try simp only [Act.put, sA, sZ, sS]
  refine wpAnyH_take (i := 3) (oi := ⟨some 4, _, _, _, _, _⟩) (v := .slice B m d) rfl (by kernel_rfl) (by kernel_rfl) (by kernel_rfl) (fun _ _ _ h => h) (Or.inl ⟨by rfl, ?_⟩) hHeld ?_
  · (intro ww hS; go_simp; try with_reducible rfl; try omega)
  try simp only [Act.put, sA, sZ, sS]
  refine wpAnyH_ready (rs := [4]) (by kernel_rfl) (by simp) ?_
  refine AllReadyH.cons (o := ⟨none, _, _, _, _, _⟩) rfl (fun K0 hK => ?_) AllReadyH.nil
  rw [if_pos (by rfl)]
  refine wp_store_row 40 (.tmp 5) (.tmp 16) rfl gR _ rfl rfl _ _ (L.bk_ 0 rfl) op_sz rfl (opv_one _ _) ?_
  replace L := L.row 0 rfl (opv h3 s2)
  try dsimp only [nput] at L
  refine hK.out _ _ ⟨_, rfl, L⟩ (fun hHeld' => ?_)
  clear hHeld hK K0
  have hHeld := hHeld'
  clear hHeld'
  generalize v4.setRow gR (opv h3 s2) = v5 at hHeld L ⊢
  try simp only [Act.put]
  refine wpAnyH_take (i := 5) (oi := ⟨some 6, _, _, _, _, _⟩) (v := .bool b2) rfl (by kernel_rfl) (by kernel_rfl) (by kernel_rfl) (fun _ _ _ h => h) (Or.inl ⟨by rfl, ?_⟩) hHeld ?_
  · (intro ww hS; go_simp; try with_reducible rfl; try omega)
  try simp only [Act.put, sA, sZ, sS]
  refine wpAnyH_done (by kernel_rfl) ?_ _
  clear hHeld
  go_wp2
  refine bodyPost_ret (v := .tuple #[.slice B m d, .agg (opv h3 s2), .bool b2]) ?_ rfl ?_
  · exact results_tct (fn := Tryz.f70) Tryz.results70 _ _ gR _ _ (0, 0) _ rfl (L.bk_ 0 rfl) Tryz.underlying40 rfl op_sz
  exact ⟨_, _, _, rfl, hU.below L.K, (L.lists_at 0 rfl).lower_ KS, fun k _ h => h, L.K⟩
set_option maxHeartbeats 2000000 in
theorem gcl_mark (ha : a < 4294967296) (hM : Much a p M) (h1 : 1 ≤ ns) (h2 : ns ≤ 64) (hN : N ≤ 60000) (hG : GI M ns zs N s sn) (hY : YI M zs ys) (hU : US w B m d ys) (hL : Lists lo w h (gl sn)) (hBC : Bk w kC 27 #[.int .u32 (a : Int), .int .i64 p, .slice A n c, .int .i64 (ns : Int), .int .i64 wo, .int .i64 qu, .int .i64 tr]) (hBK : Bk w kK 38 #[.slice B m d]) (hph : s.phase = 4 ∨ s.phase = 5) :
    Calls Tryz.prog 72 #[.agg (opv h s), .pointer (some ⟨kC, 0, none⟩), .pointer (some ⟨kK, 0, none⟩)] w (RetG (gS a M ns ys s sn) (gl (gN M ys s sn)) m (gC M ys s) (gB M ys s sn) B w) := by
  have hm0 : 0 < m := by have := hU.len; have := hY.len; omega
  obtain ⟨s2, hs2⟩ : ∃ s2, s2 = gS a M ns ys s sn := ⟨_, rfl⟩
  obtain ⟨l2, hl2⟩ : ∃ l2, l2 = gl (gN M ys s sn) := ⟨_, rfl⟩
  obtain ⟨y2, hy2⟩ : ∃ y2, y2 = gC M ys s := ⟨_, rfl⟩
  obtain ⟨b2, hb2⟩ : ∃ b2, b2 = gB M ys s sn := ⟨_, rfl⟩
  have TK := fun w lo h (U : US w B m d ys) (L : Lists lo w h (gl sn)) => Lib.hid (gp_mark (w := w) (lo := lo) (h := h) (s := s) (wo := wo) (qu := qu) (tr := tr) (A := A) (n := n) (c := c) ha hM hG hY U L hph)
  simp only [← hs2, ← hl2, ← hy2, ← hb2] at TK ⊢
  clear hG hY hs2 hl2 ha hM
  rw [show b2 = false from hb2.trans (gp_calm (.inr hph))]
  clear hy2 hb2
  go_enter Tryz.func72, Tryz.ntmps72
  go_upto_region 1 with (fail)
  have L := Loc.start w
  replace L := ((L).alloc (opv h s) 40).alloc #[.int .i64 0, .int .u32 0, .slice none 0 0, .int .i64 0, .int .u32 0, .bool false, .slice none 0 0, .slice none 0 0, .int .i64 0, .int .i64 0, .int .i64 0, .int .i64 0, .int .i64 0, .int .u64 0, .bool false, .slice none 0 0, .int .i64 0, .int .i64 0, .int .i64 0, .int .i64 0] 40
  try simp only [World.size_alloc] at L
  replace L := L.is 0 (opv hd0 sc0) rfl
  try dsimp only [nput] at L
  generalize ((w).alloc (.cells (opv h s) 40)).alloc (.cells #[.int .i64 0, .int .u32 0, .slice none 0 0, .int .i64 0, .int .u32 0, .bool false, .slice none 0 0, .slice none 0 0, .int .i64 0, .int .i64 0, .int .i64 0, .int .i64 0, .int .i64 0, .int .u64 0, .bool false, .slice none 0 0, .int .i64 0, .int .i64 0, .int .i64 0, .int .i64 0] 40) = w1 at L ⊢
  generalize w.heap.size + 1 = gR at L ⊢
  generalize w.heap.size = gO at L ⊢
  have K_0 := (hBK.below L.K).at_ 0 (v := .slice B m d) rfl
  have K_z := (hBK.below L.K).lt
  go_wp2_with (first | (refine wpList_load_row rfl 27 (.tmp 1) rfl kC rfl _ _ (0, 0) _ (hBC.below L.K) Tryz.underlying27 rfl cf_sz ?_) | (refine wpList_load_row rfl 40 (.tmp 3) rfl gO rfl _ _ (0, 0) _ (L.bk_ 1 rfl) Tryz.underlying40 rfl op_sz ?_))
  have KS := L.K.size
  refine ((TK _ _ _ (hU.below L.K) (hL.below L.K)).out).mono ?_
  rintro e w2 ⟨h3, B2, d2, rfl, U, L', hA, K'⟩
  clear K_0 K_z
  have Lb := L.lts
  replace L := L.over K'
  replace L := L.us_av (fun i b e => hA b.1 (Lb i b e) (hU.apart0 hm0 L i b e)) U
  replace L := L.lists Lb L'
  clear Lb
  try dsimp only [lF, List.cons_append, List.nil_append] at L
  clear L' U
  go_upto_region 2 with (refine wpList_store_row rfl 40 (.tmp 3) (.tmp 14) rfl gO _ rfl rfl _ _ (L.bk_ 1 rfl) op_sz rfl (opv_one _ _) ?_)
  replace L := (L.row 1 rfl (opv h3 s2))
  try dsimp only [nput] at L
  generalize (w2).setRow gO (opv h3 s2) = w3 at L ⊢
  replace L := L.drew
  refine wp_region_held_drew (S := fun w' => ∃ v_R : Array Value, v_R.size = 20 ∧ Loc w w' [(gR, 40, v_R), (gO, 40, opv h3 s2)] [iF .u32 w1.heap.size h3.A0 h3.n0 h3.c0 l2.rqs, iF .u32 w1.heap.size h3.A1 h3.n1 h3.c1 l2.ads, iF .i64 w1.heap.size h3.A2 h3.n2 h3.c2 l2.ers, iF .u64 w1.heap.size h3.A3 h3.n3 h3.c3 l2.ses, uF B2 m d2 y2]) (by kernel_rfl) (⟨_, rfl, L⟩) (fun hHeld => ?_)
  generalize w3.drew = v4 at hHeld L ⊢
  refine wpAnyH_take (i := 0) (oi := ⟨some 15, _, _, _, _, _⟩) (v := .slice B2 m d2) rfl (by kernel_rfl) (by kernel_rfl) (by kernel_rfl) (fun _ _ _ h => h) (Or.inl ⟨by rfl, ?_⟩) hHeld ?_
  · (intro ww hS; go_simp; try with_reducible rfl; try omega)
  try simp only [Act.put, sA, sZ, sS]
  refine wpAnyH_take (i := 1) (oi := ⟨some 16, _, _, _, _, _⟩) (v := .agg (opv h3 s2)) rfl (by kernel_rfl) (by kernel_rfl) (by kernel_rfl) (fun _ _ _ h => h) (yieldsIf_load_row (by rfl) 40 (.tmp 3) rfl gO rfl 40 _ (0, 0) _ (fun _ hS => ((hS.choose_spec.2).bk_ 1 rfl)) Tryz.underlying40 rfl op_sz) hHeld ?_
  try simp only [Act.put, sA, sZ, sS]
  refine wpAnyH_take (i := 2) (oi := ⟨some 4, _, _, _, _, _⟩) (v := .slice B2 m d2) rfl (by kernel_rfl) (by kernel_rfl) (by kernel_rfl) (fun _ _ _ h => h) (Or.inl ⟨by rfl, ?_⟩) hHeld ?_
  · (intro ww hS; go_simp; try with_reducible rfl; try omega)
  try simp only [Act.put, sA, sZ, sS]
  refine wpAnyH_ready (rs := [3]) (by kernel_rfl) (by simp) ?_
  refine AllReadyH.cons (o := ⟨none, _, _, _, _, _⟩) rfl (fun K0 hK => ?_) AllReadyH.nil
  rw [if_pos (by rfl)]
  refine wp_store_row 40 (.tmp 5) (.tmp 16) rfl gR _ rfl rfl _ _ (L.bk_ 0 rfl) op_sz rfl (opv_one _ _) ?_
  replace L := L.row 0 rfl (opv h3 s2)
  try dsimp only [nput] at L
  refine hK.out _ _ ⟨_, rfl, L⟩ (fun hHeld' => ?_)
  clear hHeld hK K0
  have hHeld := hHeld'
  clear hHeld'
  generalize v4.setRow gR (opv h3 s2) = v5 at hHeld L ⊢
  try simp only [Act.put]
  refine wpAnyH_take (i := 4) (oi := ⟨some 6, _, _, _, _, _⟩) (v := .bool false) rfl (by kernel_rfl) (by kernel_rfl) (by kernel_rfl) (fun _ _ _ h => h) (Or.inl ⟨by rfl, ?_⟩) hHeld ?_
  · (intro ww hS; go_simp; try with_reducible rfl; try omega)
  try simp only [Act.put, sA, sZ, sS]
  refine wpAnyH_done (by kernel_rfl) ?_ _
  clear hHeld
  go_wp2
  refine bodyPost_ret (v := .tuple #[.slice B2 m d2, .agg (opv h3 s2), .bool false]) ?_ rfl ?_
  · exact results_tct (fn := Tryz.f72) Tryz.results72 _ _ gR _ _ (0, 0) _ rfl (L.bk_ 0 rfl) Tryz.underlying40 rfl op_sz
  exact ⟨_, _, _, rfl, L.us_ 4 rfl, (L.lists_at 0 rfl).lower_ KS, fun k hk => hA k (Nat.lt_of_lt_of_le hk KS), L.K⟩
end
end Go.Proofs.YtghecdccdmeooaaGreat

/-
  What grant.Step answers of a grant where it may be. Conditions: a block that may be, as many cells as there are.
-/
namespace Go.Proofs.YtghecdccdmeooaaGreat
set_option maxRecDepth 100000
set_option maxRecDepth 100000
open Go.RowKit
set_option linter.unusedVariables false
section
variable {w w1 : World} {lo a m d D M ns N f : Nat} {ph p sh wo qu tr : Int} {A B : Option Addr} {n c : Nat} {zs : List Int} {sn ys : List Nat} {h : Hd} {s : Sc}
set_option maxHeartbeats 2000000 in
theorem gstep_to (hff : f = 66 ∨ f = 68 ∨ f = 70 ∨ f = 72) (hY : YI M zs ys) (hU : US w B m d ys) (hL : Lists lo w h (gl sn)) (hph : ph = s.phase) (hwf : (Lit.int .i64 ph).wf = true) (hget : fget gph_l ph = some f)
    (TK : ∀ w lo h kC kK, US w B m d ys → Lists lo w h (gl sn) → Bk w kC 27 #[.int .u32 (a : Int), .int .i64 p, .slice A n c, .int .i64 (ns : Int), .int .i64 wo, .int .i64 qu, .int .i64 tr] → Bk w kK 38 #[.slice B m d] → Hid (Calls Tryz.prog f #[.agg (opv h s), .pointer (some ⟨(gcap kC kK f).1, 0, none⟩), .pointer (some ⟨(gcap kC kK f).2, 0, none⟩)] w (RetG (gS a M ns ys s sn) (gl (gN M ys s sn)) m (gC M ys s) (gB M ys s sn) B w))) :
    Calls Tryz.prog 13 #[.agg #[.int .u32 (a : Int), .int .i64 p, .slice A n c, .int .i64 (ns : Int), .int .i64 wo, .int .i64 qu, .int .i64 tr], .slice B m d, .agg (opv h s)] w (RetG (gS a M ns ys s sn) (gl (gN M ys s sn)) m (gC M ys s) (gB M ys s sn) B w) := by
  have hm0 : 0 < m := by have := hU.len; have := hY.len; omega
  obtain ⟨s2, hs2⟩ : ∃ s2, s2 = gS a M ns ys s sn := ⟨_, rfl⟩
  obtain ⟨l2, hl2⟩ : ∃ l2, l2 = gl (gN M ys s sn) := ⟨_, rfl⟩
  obtain ⟨y2, hy2⟩ : ∃ y2, y2 = gC M ys s := ⟨_, rfl⟩
  obtain ⟨b2, hb2⟩ : ∃ b2, b2 = gB M ys s sn := ⟨_, rfl⟩
  simp only [← hs2, ← hl2, ← hy2, ← hb2] at TK ⊢
  clear hY hs2 hl2 hy2 hb2
  rcases s with ⟨kind, addr, err, aad, used, phase, shard, sought, leaf, bit, word, full, at_, tries, item, stamp⟩
  rcases h with ⟨A0, n0, c0, A1, n1, c1, A2, n2, c2, A3, n3, c3⟩
  try dsimp only at *
  subst hph
  go_enter Tryz.func13, Tryz.ntmps13
  go_upto_region 1 with (fail)
  have L := Loc.start w
  replace L := (((L).alloc #[.int .u32 (a : Int), .int .i64 p, .slice A n c, .int .i64 (ns : Int), .int .i64 wo, .int .i64 qu, .int .i64 tr] 27).alloc (opv ⟨A0, n0, c0, A1, n1, c1, A2, n2, c2, A3, n3, c3⟩ ⟨kind, addr, err, aad, used, ph, shard, sought, leaf, bit, word, full, at_, tries, item, stamp⟩) 40).alloc #[.int .i64 0, .int .u32 0, .slice none 0 0, .int .i64 0, .int .u32 0, .bool false, .slice none 0 0, .slice none 0 0, .int .i64 0, .int .i64 0, .int .i64 0, .int .i64 0, .int .i64 0, .int .u64 0, .bool false, .slice none 0 0, .int .i64 0, .int .i64 0, .int .i64 0, .int .i64 0] 40
  try simp only [World.size_alloc] at L
  replace L := L.is 0 (opv hd0 sc0) rfl
  try dsimp only [nput] at L
  generalize (((w).alloc (.cells #[.int .u32 (a : Int), .int .i64 p, .slice A n c, .int .i64 (ns : Int), .int .i64 wo, .int .i64 qu, .int .i64 tr] 27)).alloc (.cells (opv ⟨A0, n0, c0, A1, n1, c1, A2, n2, c2, A3, n3, c3⟩ ⟨kind, addr, err, aad, used, ph, shard, sought, leaf, bit, word, full, at_, tries, item, stamp⟩) 40)).alloc (.cells #[.int .i64 0, .int .u32 0, .slice none 0 0, .int .i64 0, .int .u32 0, .bool false, .slice none 0 0, .slice none 0 0, .int .i64 0, .int .i64 0, .int .i64 0, .int .i64 0, .int .i64 0, .int .u64 0, .bool false, .slice none 0 0, .int .i64 0, .int .i64 0, .int .i64 0, .int .i64 0] 40) = w1 at L ⊢
  generalize w.heap.size + 1 + 1 = gR at L ⊢
  generalize w.heap.size + 1 = gO at L ⊢
  generalize w.heap.size = gH at L ⊢
  replace L := L.drew
  refine wp_region_held_drew (S := fun w' => Loc w w' [(gR, 40, opv hd0 sc0), (gO, 40, opv ⟨A0, n0, c0, A1, n1, c1, A2, n2, c2, A3, n3, c3⟩ ⟨kind, addr, err, aad, used, ph, shard, sought, leaf, bit, word, full, at_, tries, item, stamp⟩), (gH, 27, #[.int .u32 (a : Int), .int .i64 p, .slice A n c, .int .i64 (ns : Int), .int .i64 wo, .int .i64 qu, .int .i64 tr])] []) (by kernel_rfl) L (fun hHeld => ?_)
  generalize w1.drew = v2 at hHeld L ⊢
  refine wpAnyH_take (i := 0) (oi := ⟨some 12, _, _, _, _, _⟩) (v := .agg (#[.int .u32 (a : Int), .int .i64 p, .slice A n c, .int .i64 (ns : Int), .int .i64 wo, .int .i64 qu, .int .i64 tr])) rfl (by kernel_rfl) (by kernel_rfl) (by kernel_rfl) (fun _ _ _ h => h) (yieldsIf_load_row (by rfl) 27 (.tmp 3) rfl gH rfl 27 _ (0, 0) _ (fun _ hS => ((hS).bk_ 2 rfl)) Tryz.underlying27 rfl cf_sz) hHeld ?_
  try simp only [Act.put, sA, sZ, sS]
  refine wpAnyH_take (i := 1) (oi := ⟨some 13, _, _, _, _, _⟩) (v := .slice B m d) rfl (by kernel_rfl) (by kernel_rfl) (by kernel_rfl) (fun _ _ _ h => h) (Or.inl ⟨by rfl, ?_⟩) hHeld ?_
  · (intro ww hS; go_simp; try with_reducible rfl; try omega)
  try simp only [Act.put, sA, sZ, sS]
  refine wpAnyH_take (i := 3) (oi := ⟨some 15, _, _, _, _, _⟩) (v := .pointer (some ⟨gO, 8, none⟩)) rfl (by kernel_rfl) (by kernel_rfl) (by kernel_rfl) (fun _ _ _ h => h) (Or.inl ⟨by rfl, ?_⟩) hHeld ?_
  · (intro ww hS; go_simp; try with_reducible rfl; try omega)
  try simp only [Act.put, sA, sZ, sS]
  refine wpAnyH_take (i := 4) (oi := ⟨some 16, _, _, _, _, _⟩) (v := .int .i64 ph) rfl (by kernel_rfl) (by kernel_rfl) (by kernel_rfl) (fun _ _ _ h => h) (Or.inl ⟨by rfl, ?_⟩) hHeld ?_
  · intro ww hS
    try dsimp only at hS
    have O_8 := (hS).at_ 1 8 rfl (v := .int .i64 ph) rfl
    have O_z := (hS).lt 1 rfl
    go_simp
    try with_reducible rfl
    try omega
  try simp only [Act.put, sA, sZ, sS]
  refine wpAnyH_ready (rs := [2]) (by kernel_rfl) (by simp) ?_
  refine AllReadyH.cons (o := ⟨some 14, _, _, _, _, _⟩) rfl (fun K0 hK => ?_) AllReadyH.nil
  go_simp
  refine (gph_any B m d _).mono ?_
  rintro e w3 ⟨gm, kC, kK, rfl, hF, hBC, hBK, ⟨hg1, hg2, hg3⟩, K'⟩
  have Lb := L.lts
  replace L := L.over K'
  replace L := L.cmap Lb hg1 hF
  replace L := L.bkf Lb hg2 hBC
  replace L := L.bkf Lb hg3 hBK
  clear Lb
  try dsimp only [lF, List.cons_append, List.nil_append] at L
  clear hF hBC hBK hg1 hg2 hg3
  obtain ⟨kx, hkx⟩ : ∃ kx, kx = (gcap kC kK f).1 := ⟨_, rfl⟩
  obtain ⟨ky, hky⟩ : ∃ ky, ky = (gcap kC kK f).2 := ⟨_, rfl⟩
  have TK2 := fun w lo h U L hC hK => TK w lo h kC kK U L hC hK
  simp only [← hkx, ← hky] at TK2
  clear TK
  refine hK.out _ _ (L.less 3) (fun hHeld' => ?_)
  clear hHeld hK K0
  have hHeld := hHeld'
  clear hHeld'
  clear K'
  try simp only [Act.put, sA, sZ, sS]
  refine wpAnyH_ready (rs := [5]) (by kernel_rfl) (by simp) ?_
  refine AllReadyH.cons (o := ⟨some 17, _, _, _, _, _⟩) rfl (fun K0 hK => ?_) AllReadyH.nil
  have hrun := CMap.look (L.get 2 rfl : CMap (gcap kC kK) _ gm gph_l) Tryz.underlying73 (gph_z _) hwf hget
  simp only [cloV, ← hkx, ← hky] at hrun
  clear hkx hky
  go_simp
  refine hK.out _ _ hHeld (fun hHeld' => ?_)
  clear hHeld hK K0
  have hHeld := hHeld'
  clear hHeld'
  try simp only [Act.put, sA, sZ, sS]
  clear hrun
  refine wpAnyH_take (i := 6) (oi := ⟨some 11, _, _, _, _, _⟩) (v := ?_) rfl (by kernel_rfl) (by kernel_rfl) (by kernel_rfl) (fun _ _ _ h => h) (Or.inl ⟨by rfl, ?_⟩) hHeld ?_
  rotate_left
  · (intro ww hS; go_simp; try with_reducible rfl; try omega)
  try simp only [Act.put, sA, sZ, sS]
  refine wpAnyH_take (i := 7) (oi := ⟨some 18, _, _, _, _, _⟩) (v := .func (.func f) #[] #[.pointer (some ⟨kx, 0, none⟩), .pointer (some ⟨ky, 0, none⟩)]) rfl (by kernel_rfl) (by kernel_rfl) (by kernel_rfl) (fun _ _ _ h => h) (Or.inl ⟨by rfl, ?_⟩) hHeld ?_
  · (intro ww hS; go_simp; try with_reducible rfl; try omega)
  try simp only [Act.put, sA, sZ, sS]
  refine wpAnyH_take (i := 8) (oi := ⟨some 19, _, _, _, _, _⟩) (v := .bool true) rfl (by kernel_rfl) (by kernel_rfl) (by kernel_rfl) (fun _ _ _ h => h) (Or.inl ⟨by rfl, ?_⟩) hHeld ?_
  · (intro ww hS; go_simp; try with_reducible rfl; try omega)
  try simp only [Act.put, sA, sZ, sS]
  refine wpAnyH_take (i := 9) (oi := ⟨some 9, _, _, _, _, _⟩) (v := .func (.func f) #[] #[.pointer (some ⟨kx, 0, none⟩), .pointer (some ⟨ky, 0, none⟩)]) rfl (by kernel_rfl) (by kernel_rfl) (by kernel_rfl) (fun _ _ _ h => h) (Or.inl ⟨by rfl, ?_⟩) hHeld ?_
  · (intro ww hS; go_simp; try with_reducible rfl; try omega)
  try simp only [Act.put, sA, sZ, sS]
  refine wpAnyH_take (i := 10) (oi := ⟨some 10, _, _, _, _, _⟩) (v := .bool true) rfl (by kernel_rfl) (by kernel_rfl) (by kernel_rfl) (fun _ _ _ h => h) (Or.inl ⟨by rfl, ?_⟩) hHeld ?_
  · (intro ww hS; go_simp; try with_reducible rfl; try omega)
  try simp only [Act.put, sA, sZ, sS]
  refine wpAnyH_done (by kernel_rfl) ?_ _
  clear hHeld
  go_upto_region 4 with (fail)
  rcases hff with rfl | rfl | rfl | rfl
  all_goals (
    go_wp2_with (refine wpList_load_row rfl 40 (.tmp 5) rfl gO rfl _ _ (0, 0) _ (L.bk_ 1 rfl) Tryz.underlying40 rfl op_sz ?_)
    have KS := L.K.size
    refine ((TK2 _ _ _ (hU.below L.K) (hL.below L.K) (L.get 1 rfl) (L.get 0 rfl)).out).mono ?_
    rintro e w4 ⟨h3, B2, d2, rfl, U, L', hA, K'⟩
    have Lb := L.lts
    replace L := L.over K'
    replace L := L.us_av (fun i b e => hA b.1 (Lb i b e) (hU.apart0 hm0 L i b e)) U
    replace L := L.lists Lb L'
    clear Lb
    try dsimp only [lF, List.cons_append, List.nil_append] at L
    clear U L'
    go_wp2_with (refine wpList_store_row rfl 40 (.tmp 7) (.tmp 29) rfl gR _ rfl rfl _ _ (L.bk_ 0 rfl) op_sz rfl (opv_one _ _) ?_)
    replace L := (L.row 0 rfl (opv h3 s2))
    try dsimp only [nput] at L
    generalize (w4).setRow gR (opv h3 s2) = w5 at L ⊢
    refine bodyPost_ret (v := .tuple #[.slice B2 m d2, .agg (opv h3 s2), .bool b2]) ?_ rfl ?_
    · exact results_tct (fn := Tryz.f13) Tryz.results13 _ _ gR _ _ (0, 0) _ rfl (L.bk_ 0 rfl) Tryz.underlying40 rfl op_sz
    exact ⟨_, _, _, rfl, L.us_ 4 rfl, (L.lists_at 0 rfl).lower_ KS, fun k hk => hA k (Nat.lt_of_lt_of_le hk KS), L.K⟩)
set_option maxHeartbeats 2000000 in
theorem gstep0 (ha : a < 4294967296) (hM : Much a p M) (h1 : 1 ≤ ns) (h2 : ns ≤ 64) (hN : N ≤ 60000) (hG : GI M ns zs N s sn) (hY : YI M zs ys) (hU : US w B m d ys) (hL : Lists lo w h (gl sn)) (hph : s.phase = 0) :
    Calls Tryz.prog 13 #[.agg #[.int .u32 (a : Int), .int .i64 p, .slice A n c, .int .i64 (ns : Int), .int .i64 wo, .int .i64 qu, .int .i64 tr], .slice B m d, .agg (opv h s)] w (RetG (gS a M ns ys s sn) (gl (gN M ys s sn)) m (gC M ys s) (gB M ys s sn) B w) := by
  obtain ⟨e1, e2, e3, e4⟩ := gp_done (a := a) (ys := ys) hG hph
  rw [e1, e2, e3, e4]
  have hE := fun lo2 w2 => gp_emp (lo' := lo2) (w' := w2) hG (by omega) hL
  obtain ⟨z0, z1, z2, z3⟩ := gl_len hL
  have z9 := gp_few hM.most hG
  clear e1 e2 e3 e4 hG hY ha hM
  have TOwn := fun w (L : Lists lo w h (gl sn)) => Lib.hid (own_any (s := s) L (by omega) (by omega) (by omega) (by omega))
  clear z0 z1 z2 z3 z9
  rcases s with ⟨kind, addr, err, aad, used, phase, shard, sought, leaf, bit, word, full, at_, tries, item, stamp⟩
  rcases h with ⟨A0, n0, c0, A1, n1, c1, A2, n2, c2, A3, n3, c3⟩
  try dsimp only at *
  subst hph
  go_enter Tryz.func13, Tryz.ntmps13
  go_upto_region 1 with (fail)
  have L := Loc.start w
  replace L := (((L).alloc #[.int .u32 (a : Int), .int .i64 p, .slice A n c, .int .i64 (ns : Int), .int .i64 wo, .int .i64 qu, .int .i64 tr] 27).alloc (opv ⟨A0, n0, c0, A1, n1, c1, A2, n2, c2, A3, n3, c3⟩ ⟨kind, addr, err, aad, used, 0, shard, sought, leaf, bit, word, full, at_, tries, item, stamp⟩) 40).alloc #[.int .i64 0, .int .u32 0, .slice none 0 0, .int .i64 0, .int .u32 0, .bool false, .slice none 0 0, .slice none 0 0, .int .i64 0, .int .i64 0, .int .i64 0, .int .i64 0, .int .i64 0, .int .u64 0, .bool false, .slice none 0 0, .int .i64 0, .int .i64 0, .int .i64 0, .int .i64 0] 40
  try simp only [World.size_alloc] at L
  replace L := L.is 0 (opv hd0 sc0) rfl
  try dsimp only [nput] at L
  generalize (((w).alloc (.cells #[.int .u32 (a : Int), .int .i64 p, .slice A n c, .int .i64 (ns : Int), .int .i64 wo, .int .i64 qu, .int .i64 tr] 27)).alloc (.cells (opv ⟨A0, n0, c0, A1, n1, c1, A2, n2, c2, A3, n3, c3⟩ ⟨kind, addr, err, aad, used, 0, shard, sought, leaf, bit, word, full, at_, tries, item, stamp⟩) 40)).alloc (.cells #[.int .i64 0, .int .u32 0, .slice none 0 0, .int .i64 0, .int .u32 0, .bool false, .slice none 0 0, .slice none 0 0, .int .i64 0, .int .i64 0, .int .i64 0, .int .i64 0, .int .i64 0, .int .u64 0, .bool false, .slice none 0 0, .int .i64 0, .int .i64 0, .int .i64 0, .int .i64 0] 40) = w1 at L ⊢
  generalize w.heap.size + 1 + 1 = gR at L ⊢
  generalize w.heap.size + 1 = gO at L ⊢
  generalize w.heap.size = gH at L ⊢
  replace L := L.drew
  refine wp_region_held_drew (S := fun w' => Loc w w' [(gR, 40, opv hd0 sc0), (gO, 40, opv ⟨A0, n0, c0, A1, n1, c1, A2, n2, c2, A3, n3, c3⟩ ⟨kind, addr, err, aad, used, 0, shard, sought, leaf, bit, word, full, at_, tries, item, stamp⟩), (gH, 27, #[.int .u32 (a : Int), .int .i64 p, .slice A n c, .int .i64 (ns : Int), .int .i64 wo, .int .i64 qu, .int .i64 tr])] []) (by kernel_rfl) L (fun hHeld => ?_)
  generalize w1.drew = v2 at hHeld L ⊢
  refine wpAnyH_take (i := 0) (oi := ⟨some 12, _, _, _, _, _⟩) (v := .agg (#[.int .u32 (a : Int), .int .i64 p, .slice A n c, .int .i64 (ns : Int), .int .i64 wo, .int .i64 qu, .int .i64 tr])) rfl (by kernel_rfl) (by kernel_rfl) (by kernel_rfl) (fun _ _ _ h => h) (yieldsIf_load_row (by rfl) 27 (.tmp 3) rfl gH rfl 27 _ (0, 0) _ (fun _ hS => ((hS).bk_ 2 rfl)) Tryz.underlying27 rfl cf_sz) hHeld ?_
  try simp only [Act.put, sA, sZ, sS]
  refine wpAnyH_take (i := 1) (oi := ⟨some 13, _, _, _, _, _⟩) (v := .slice B m d) rfl (by kernel_rfl) (by kernel_rfl) (by kernel_rfl) (fun _ _ _ h => h) (Or.inl ⟨by rfl, ?_⟩) hHeld ?_
  · (intro ww hS; go_simp; try with_reducible rfl; try omega)
  try simp only [Act.put, sA, sZ, sS]
  refine wpAnyH_take (i := 3) (oi := ⟨some 15, _, _, _, _, _⟩) (v := .pointer (some ⟨gO, 8, none⟩)) rfl (by kernel_rfl) (by kernel_rfl) (by kernel_rfl) (fun _ _ _ h => h) (Or.inl ⟨by rfl, ?_⟩) hHeld ?_
  · (intro ww hS; go_simp; try with_reducible rfl; try omega)
  try simp only [Act.put, sA, sZ, sS]
  refine wpAnyH_take (i := 4) (oi := ⟨some 16, _, _, _, _, _⟩) (v := .int .i64 0) rfl (by kernel_rfl) (by kernel_rfl) (by kernel_rfl) (fun _ _ _ h => h) (Or.inl ⟨by rfl, ?_⟩) hHeld ?_
  · intro ww hS
    try dsimp only at hS
    have O_8 := (hS).at_ 1 8 rfl (v := .int .i64 0) rfl
    have O_z := (hS).lt 1 rfl
    go_simp
    try with_reducible rfl
    try omega
  try simp only [Act.put, sA, sZ, sS]
  refine wpAnyH_ready (rs := [2]) (by kernel_rfl) (by simp) ?_
  refine AllReadyH.cons (o := ⟨some 14, _, _, _, _, _⟩) rfl (fun K0 hK => ?_) AllReadyH.nil
  go_simp
  refine (gph_any B m d _).mono ?_
  rintro e w3 ⟨gm, kC, kK, rfl, hF, hBC, hBK, ⟨hg1, hg2, hg3⟩, K'⟩
  have Lb := L.lts
  replace L := L.over K'
  replace L := L.cmap Lb hg1 hF
  replace L := L.bkf Lb hg2 hBC
  replace L := L.bkf Lb hg3 hBK
  clear Lb
  try dsimp only [lF, List.cons_append, List.nil_append] at L
  clear hF hBC hBK hg1 hg2 hg3
  refine hK.out _ _ (L.less 3) (fun hHeld' => ?_)
  clear hHeld hK K0
  have hHeld := hHeld'
  clear hHeld'
  clear K'
  try simp only [Act.put, sA, sZ, sS]
  refine wpAnyH_ready (rs := [5]) (by kernel_rfl) (by simp) ?_
  refine AllReadyH.cons (o := ⟨some 17, _, _, _, _, _⟩) rfl (fun K0 hK => ?_) AllReadyH.nil
  have hrun := CMap.none (L.get 2 rfl : CMap (gcap kC kK) _ gm gph_l) Tryz.underlying73 (gph_z _) (k := 0) (by decide) rfl
  go_simp
  refine hK.out _ _ hHeld (fun hHeld' => ?_)
  clear hHeld hK K0
  have hHeld := hHeld'
  clear hHeld'
  try simp only [Act.put, sA, sZ, sS]
  clear hrun
  refine wpAnyH_take (i := 6) (oi := ⟨some 11, _, _, _, _, _⟩) (v := ?_) rfl (by kernel_rfl) (by kernel_rfl) (by kernel_rfl) (fun _ _ _ h => h) (Or.inl ⟨by rfl, ?_⟩) hHeld ?_
  rotate_left
  · (intro ww hS; go_simp; try with_reducible rfl; try omega)
  try simp only [Act.put, sA, sZ, sS]
  refine wpAnyH_take (i := 7) (oi := ⟨some 18, _, _, _, _, _⟩) (v := .nilFunc) rfl (by kernel_rfl) (by kernel_rfl) (by kernel_rfl) (fun _ _ _ h => h) (Or.inl ⟨by rfl, ?_⟩) hHeld ?_
  · (intro ww hS; go_simp; try with_reducible rfl; try omega)
  try simp only [Act.put, sA, sZ, sS]
  refine wpAnyH_take (i := 8) (oi := ⟨some 19, _, _, _, _, _⟩) (v := .bool false) rfl (by kernel_rfl) (by kernel_rfl) (by kernel_rfl) (fun _ _ _ h => h) (Or.inl ⟨by rfl, ?_⟩) hHeld ?_
  · (intro ww hS; go_simp; try with_reducible rfl; try omega)
  try simp only [Act.put, sA, sZ, sS]
  refine wpAnyH_take (i := 9) (oi := ⟨some 9, _, _, _, _, _⟩) (v := .nilFunc) rfl (by kernel_rfl) (by kernel_rfl) (by kernel_rfl) (fun _ _ _ h => h) (Or.inl ⟨by rfl, ?_⟩) hHeld ?_
  · (intro ww hS; go_simp; try with_reducible rfl; try omega)
  try simp only [Act.put, sA, sZ, sS]
  refine wpAnyH_take (i := 10) (oi := ⟨some 10, _, _, _, _, _⟩) (v := .bool false) rfl (by kernel_rfl) (by kernel_rfl) (by kernel_rfl) (fun _ _ _ h => h) (Or.inl ⟨by rfl, ?_⟩) hHeld ?_
  · (intro ww hS; go_simp; try with_reducible rfl; try omega)
  try simp only [Act.put, sA, sZ, sS]
  refine wpAnyH_done (by kernel_rfl) ?_ _
  clear hHeld
  go_wp2_with (refine wpList_load_row rfl 40 (.tmp 5) rfl gO rfl _ _ (0, 0) _ (L.bk_ 1 rfl) Tryz.underlying40 rfl op_sz ?_)
  have KS := L.K.size
  refine ((TOwn _ (hL.below L.K)).out).mono ?_
  rintro e w4 ⟨A0', c0', A1', c1', A2', c2', A3', c3', rfl, L', K'⟩
  have Lb := L.lts
  replace L := L.over K'
  replace L := L.lists Lb L'
  clear Lb
  try dsimp only [lF, List.cons_append, List.nil_append] at L
  clear L'
  go_wp2_with (refine wpList_store_row rfl 40 (.tmp 7) (.tmp 24) rfl gR _ rfl rfl _ _ (L.bk_ 0 rfl) op_sz rfl (opv_one _ _) ?_)
  replace L := (L.row 0 rfl (opv ⟨A0', n0, c0', A1', n1, c1', A2', n2, c2', A3', n3, c3'⟩ ⟨kind, addr, err, aad, used, 0, shard, sought, leaf, bit, word, full, at_, tries, item, stamp⟩))
  try dsimp only [nput] at L
  generalize (w4).setRow gR (opv ⟨A0', n0, c0', A1', n1, c1', A2', n2, c2', A3', n3, c3'⟩ ⟨kind, addr, err, aad, used, 0, shard, sought, leaf, bit, word, full, at_, tries, item, stamp⟩) = w5 at L ⊢
  refine bodyPost_ret (v := .tuple #[.slice B m d, .agg (opv ⟨A0', n0, c0', A1', n1, c1', A2', n2, c2', A3', n3, c3'⟩ ⟨kind, addr, err, aad, used, 0, shard, sought, leaf, bit, word, full, at_, tries, item, stamp⟩), .bool false]) ?_ rfl ?_
  · exact results_tct (fn := Tryz.f13) Tryz.results13 _ _ gR _ _ (0, 0) _ rfl (L.bk_ 0 rfl) Tryz.underlying40 rfl op_sz
  exact ⟨_, _, _, rfl, hU.below L.K, (L.lists_at 0 rfl).lower_ KS, fun k _ h => h, L.K⟩
theorem gstep_any (ha : a < 4294967296) (hM : Much a p M) (h1 : 1 ≤ ns) (h2 : ns ≤ 64) (hN : N ≤ 60000) (hG : GI M ns zs N s sn) (hY : YI M zs ys) (hU : US w B m d ys) (hL : Lists lo w h (gl sn)) :
    Calls Tryz.prog 13 #[.agg #[.int .u32 (a : Int), .int .i64 p, .slice A n c, .int .i64 (ns : Int), .int .i64 wo, .int .i64 qu, .int .i64 tr], .slice B m d, .agg (opv h s)] w (RetG (gS a M ns ys s sn) (gl (gN M ys s sn)) m (gC M ys s) (gB M ys s sn) B w) := by
  rcases gp_phase hG with h0 | h0 | h0 | h0 | h0 | h0 | h0 | h0
  · exact gstep0 ha hM h1 h2 hN hG hY hU hL h0
  · exact gstep_to (by decide) hY hU hL h0.symm (by decide) (f := 66) rfl (fun w lo h kC kK U L hC hK => by
      have R := gcl_seek (w := w) (lo := lo) (h := h) (s := s) (wo := wo) (qu := qu) (tr := tr) (A := A) (n := n) (c := c) (kC := kC) (kK := kK) ha hM h1 h2 hN hG hY U L hC hK h0
      rw [show gcap kC kK 66 = (kK, kC) from rfl]
      exact Lib.hid R)
  · exact gstep_to (by decide) hY hU hL h0.symm (by decide) (f := 68) rfl (fun w lo h kC kK U L hC hK => by
      have R := gcl_claim (w := w) (lo := lo) (h := h) (s := s) (wo := wo) (qu := qu) (tr := tr) (A := A) (n := n) (c := c) (kC := kC) (kK := kK) ha hM h1 h2 hN hG hY U L hC hK (.inl h0)
      rw [show gcap kC kK 68 = (kC, kK) from rfl]
      exact Lib.hid R)
  · exact gstep_to (by decide) hY hU hL h0.symm (by decide) (f := 68) rfl (fun w lo h kC kK U L hC hK => by
      have R := gcl_claim (w := w) (lo := lo) (h := h) (s := s) (wo := wo) (qu := qu) (tr := tr) (A := A) (n := n) (c := c) (kC := kC) (kK := kK) ha hM h1 h2 hN hG hY U L hC hK (.inr h0)
      rw [show gcap kC kK 68 = (kC, kK) from rfl]
      exact Lib.hid R)
  · exact gstep_to (by decide) hY hU hL h0.symm (by decide) (f := 72) rfl (fun w lo h kC kK U L hC hK => by
      have R := gcl_mark (w := w) (lo := lo) (h := h) (s := s) (wo := wo) (qu := qu) (tr := tr) (A := A) (n := n) (c := c) (kC := kC) (kK := kK) ha hM h1 h2 hN hG hY U L hC hK (.inl h0)
      rw [show gcap kC kK 72 = (kC, kK) from rfl]
      exact Lib.hid R)
  · exact gstep_to (by decide) hY hU hL h0.symm (by decide) (f := 72) rfl (fun w lo h kC kK U L hC hK => by
      have R := gcl_mark (w := w) (lo := lo) (h := h) (s := s) (wo := wo) (qu := qu) (tr := tr) (A := A) (n := n) (c := c) (kC := kC) (kK := kK) ha hM h1 h2 hN hG hY U L hC hK (.inr h0)
      rw [show gcap kC kK 72 = (kC, kK) from rfl]
      exact Lib.hid R)
  · exact gstep_to (by decide) hY hU hL h0.symm (by decide) (f := 70) rfl (fun w lo h kC kK U L hC hK => by
      have R := gcl_sweep (w := w) (lo := lo) (h := h) (s := s) (wo := wo) (qu := qu) (tr := tr) (A := A) (n := n) (c := c) (kC := kC) (kK := kK) ha hM h1 h2 hN hG hY U L hC hK (.inl h0)
      rw [show gcap kC kK 70 = (kC, kK) from rfl]
      exact Lib.hid R)
  · exact gstep_to (by decide) hY hU hL h0.symm (by decide) (f := 70) rfl (fun w lo h kC kK U L hC hK => by
      have R := gcl_sweep (w := w) (lo := lo) (h := h) (s := s) (wo := wo) (qu := qu) (tr := tr) (A := A) (n := n) (c := c) (kC := kC) (kK := kK) ha hM h1 h2 hN hG hY U L hC hK (.inr h0)
      rw [show gcap kC kK 70 = (kC, kK) from rfl]
      exact Lib.hid R)
end
end Go.Proofs.YtghecdccdmeooaaGreat

/-
  The first cells, in new memory. Conditions: a block that may be.
-/
namespace Go.Proofs.YtghecdccdmeooaaGreat
set_option maxRecDepth 100000
open Go.RowKit
set_option maxHeartbeats 1000000 in
theorem wcells_new {w : World} {lo a M : Nat} {p sh wo qu tr : Int} {A : Option Addr} {n c : Nat} {xs : List Int} (ha : a < 4294967296) (hM : Much a p M) (h : IS .i64 lo w A n c xs) (hn : n ≤ 65536) (hr : risB M 0 xs = true) :
    Calls Tryz.prog 11 #[.agg #[.int .u32 a, .int .i64 p, .slice A n c, .int .i64 sh, .int .i64 wo, .int .i64 qu, .int .i64 tr]] w (RetSM (lv M + tv M + 1) (cl (nw M xs) (lv M) (tv M) (lv M)) w) := by
  have hm := hM.most
  have h1 := lv_le hm
  have h2 := tv_le hm
  have h3 : lv M ≤ 64 * tv M := by unfold tv tq; omega
  have h4 : M ≤ 32 * lv M ∧ 32 * lv M < M + 32 := by unfold lv; omega
  have F := fun w g j ys (B : Blk w g 37 ys) e1 e2 e3 => Lib.hid (wfree_any (M := M) (j := j) B e1 e2 hm e3)
  have T1 := fun w => Lib.hid (cells_any M hm w)
  have T2 := fun w => Lib.hid (leaves_any M hm w)
  have T3 : ∀ w, Hid (Calls Tryz.prog 29 #[.int .i64 64] w fun e w' => e = .returned (.int .u64 (msk 64)) ∧ w = w') := fun w => mask_any 64 (by decide) w
  have hv := nw_lt M xs
  obtain ⟨N, hN⟩ : ∃ N, N = lv M + tv M + 1 := ⟨_, rfl⟩
  rw [← hN] at T1 F ⊢
  obtain ⟨i0, hi, hz0, hz1, hz2⟩ := info_parts u64_info
  have hb8 : i0.bytes * N ≤ 281474976710656 := by rw [hz2]; omega
  have hN2 : N ≤ 3000 := by omega
  generalize lv M = L at *
  generalize tv M = T at *
  have HN := Lib.hid hN
  clear hN
  have K := below_alloc w (.cells #[.int .u32 a, .int .i64 p, .slice A n c, .int .i64 sh, .int .i64 wo, .int .i64 qu, .int .i64 tr] 27)
  have H := Bk.new w #[.int .u32 a, .int .i64 p, .slice A n c, .int .i64 sh, .int .i64 wo, .int .i64 qu, .int .i64 tr] 27
  replace h := h.below K
  go_enter Tryz.func11, Tryz.ntmps11
  go_wp2_with fail
  generalize w.alloc (.cells #[.int .u32 a, .int .i64 p, .slice A n c, .int .i64 sh, .int .i64 wo, .int .i64 qu, .int .i64 tr] 27) = w1 at H K h ⊢
  generalize w.heap.size = g at H ⊢
  refine (many_yes ha hM).mono ?_
  rintro e w2 ⟨rfl, K'⟩
  replace H := H.below K'
  replace h := h.below K'
  replace K := Below.then_ K K'
  clear K'
  go_wp2_with (first
    | ((with_reducible refine ((T1 _).out).mono ?_); rintro e w' ⟨rfl, rfl⟩)
    | ((with_reducible refine ((T2 _).out).mono ?_); rintro e w' ⟨rfl, rfl⟩)
    | (at_make; refine wpList_make_full _ rfl (.tmp 11) (.tmp 11) _ rfl w2.heap.size 37 i0 _ 1 Tryz.underlying38 hi hz0 hz1 .i64 .i64 _ _ N rfl rfl rfl rfl hb8 (by unfold maxLen; omega) (Nat.le_refl _) ?_; intro w3 hown1 hg1; have B := Blk.of_made hown1; clear hown1; have K1 : Below w2.heap.size w2 w3 := (Below.refl _ _).grown hg1 (Nat.le_refl _) (by simp); clear hg1))
  clear hb8 hi hz0 hz1 hz2 T1
  rw [prc_start L] at B
  obtain ⟨g2, hg2⟩ : ∃ x, x = w2.heap.size := ⟨_, rfl⟩
  rw [← hg2] at B ⊢
  have hge : w2.heap.size ≤ g2 := by omega
  clear hg2
  have hg0 : w.heap.size ≤ g2 := Nat.le_trans K.size hge
  go_loopw [5] (fun i wr => ∃ k : Nat, L ≤ k ∧ k ≤ N ∧ i = .int .i64 k ∧ Hid (Blk wr g2 37 (prc L k N)) ∧ Below w2.heap.size w2 wr) (fun i _ => N - (intOf i).toNat)
  case atStart => exact ⟨L, Nat.le_refl _, by have := HN.out; omega, rfl, Lib.hid B, K1⟩
  case round =>
    clear B K1
    obtain ⟨k, hLk, hk, rfl, HB, Kr⟩ := hrel
    by_cases hlt : k < N
    · have c1 := HB.out.cell (i := k) (by rw [prc_len]; omega)
      have f1 := HB.out.frozen k
      have HB2 : Hid (Blk (wr.setCell ⟨g2, k, none⟩ (.int .u64 (msk 64 : Nat))) g2 37 (prc L (k + 1) N)) := by have := HB.out.set_ k (msk 64); rw [prc_step hLk hlt] at this; exact this
      go_wp2_with ((with_reducible refine ((T3 _).out).mono ?_); rintro e w' ⟨rfl, rfl⟩)
      go_roundw
      case rel => exact ⟨k + 1, by omega, by omega, by go_num, HB2, Kr.setCell hge _⟩
      case measure => simp [intOf]; omega
    · obtain rfl : k = N := by omega
      have HB2 : Hid (Blk wr g2 37 (cl (nw M xs) L T 0)) := by have := HB.out; rw [HN.out, prc_end (nw M xs)] at this; exact this
      clear HB
      go_wp2_with ((with_reducible refine ((T2 _).out).mono ?_); rintro e w' ⟨rfl, rfl⟩)
      clear T3 T2 hlt hLk hk
      go_loopw [27] (fun i ws => ∃ j : Nat, j ≤ L ∧ i = .int .i64 j ∧ Hid (Blk ws g2 37 (cl (nw M xs) L T j)) ∧ Below w2.heap.size w2 ws) (fun i _ => L - (intOf i).toNat)
      case atStart => exact ⟨0, Nat.zero_le _, rfl, HB2, Kr⟩
      case round =>
        clear HB2 Kr
        obtain ⟨j, hj, rfl, HB, Kr⟩ := hrel
        replace H := H.below Kr
        replace h := h.below Kr
        have K2 := Below.then_ K Kr
        clear K
        have K := K2
        clear K2
        by_cases hlt : j < L
        · have hjM : 32 * j < M := by omega
          have gH := H.lt
          have H_0 := H.at_ (v := .int .u32 a) 0 rfl
          have H_1 := H.at_ (v := .int .i64 p) 1 rfl
          have H_2 := H.at_ (v := .slice A n c) 2 rfl
          have H_3 := H.at_ (v := .int .i64 sh) 3 rfl
          have H_4 := H.at_ (v := .int .i64 wo) 4 rfl
          have H_5 := H.at_ (v := .int .i64 qu) 5 rfl
          have H_6 := H.at_ (v := .int .i64 tr) 6 rfl
          have H_z := H.lt
          go_wp2_with fail
          refine (wnew_any ha hM h hn hr hjM).mono ?_
          rintro e w6 ⟨rfl, K6⟩
          clear H_0 H_1 H_2 H_3 H_4 H_5 H_6 H_z
          have K' := K6
          replace H := H.below K'
          replace h := h.below K'
          replace Kr := Below.then_ Kr K'
          replace K := Below.then_ K K'
          clear K'
          have B := HB.out.below K6
          clear HB K6
          have B2 := B.set_ j (nw M xs j)
          have c1 := B.cell (i := j) (by rw [cl_len]; omega)
          have f1 := B.frozen j
          have c2 := B2.cell (i := j) (by rw [List.length_set, cl_len]; omega)
          rw [gt_set (by rw [cl_len]; omega), if_pos rfl] at c2
          have V := fun w => Lib.hid (full_any (nw M xs j) (hv j) w)
          have hjT : j / 64 < T := by omega
          have HE : L + T + 1 = k := HN.out.symm
          have hjk : j < k := by omega
          cases hfu : fl (nw M xs j) with
          | true =>
            rw [cl_full hlt hfu] at B2
            rw [hfu] at V
            have HB := Lib.hid B2
            clear B B2 hfu F HE
            have Kx := Kr.setCell (p := ⟨g2, j, none⟩) hge (.int .u64 (nw M xs j : Nat))
            generalize nw M xs j = x at *
            go_wp2_with ((with_reducible refine ((V _).out).mono ?_); rintro e w' ⟨rfl, rfl⟩)
            go_roundw
            case rel => exact ⟨j + 1, by omega, by go_num, HB, Kx⟩
            case measure => simp [intOf]; omega
          | false =>
            have FF := F _ _ j _ B2 (by rw [List.length_set, cl_len]; exact HE) (fit_set (cl_fit hv L T j) j (hv j)) hlt
            rw [gt_set (by rw [cl_len]; omega), gt_set (by rw [cl_len]; omega), if_neg (by omega), if_neg (by omega), gt_cl_top hjT, gt_cl_root, cl_free hlt hjT (by omega) hfu] at FF
            rw [hfu] at V
            clear B B2 hfu F HE
            have Kx := Kr.setCell (p := ⟨g2, j, none⟩) hge (.int .u64 (nw M xs j : Nat))
            generalize nw M xs j = x at *
            go_wp2_with ((with_reducible refine ((V _).out).mono ?_); rintro e w' ⟨rfl, rfl⟩)
            refine ((FF).out).mono ?_
            rintro e w7 ⟨rfl, B7, K7⟩
            go_wp2
            go_roundw
            case rel => exact ⟨j + 1, by omega, by go_num, Lib.hid B7, Kx.trans (K7.mono hge)⟩
            case measure => simp [intOf]; omega
        · obtain rfl : j = L := by omega
          go_wp2
          go_ret
          exact ⟨_, _, rfl, HB.out.us (cl_fit hv _ _ _) (by rw [cl_len]; exact HN.out.symm) (by omega), hg0, K⟩
end Go.Proofs.YtghecdccdmeooaaGreat
