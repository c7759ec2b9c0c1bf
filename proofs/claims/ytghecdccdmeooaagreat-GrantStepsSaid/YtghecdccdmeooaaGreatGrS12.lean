/-
  What the functions that these laws call answer, and what follows of it; conditions: those that each theorem names. In this file: ClaimStep.
-/
import Derived.Test.YtghecdccdmeooaaGreatGrS11
/-
  What claim.Step answers of an operation that looks, or claims. Conditions: a block that may be, an operation whose leaf and bit there are.
-/
namespace Go.Proofs.YtghecdccdmeooaaGreat
set_option maxRecDepth 100000
open Go.RowKit
set_option linter.unusedVariables false
theorem cph_z (w : World) : (zeroValue 110).run Tryz.prog w = .ok .nilFunc w := by kernel_rfl
abbrev cph_l : List (Int × Nat) := [(3, 119), (2, 118)]
theorem cph_any (w : World) :
    Calls Tryz.prog 98 #[] w fun e w' => ∃ gm, e = .returned (.map (some gm)) ∧ FMap w' gm cph_l ∧ w.heap.size ≤ gm ∧ Below w.heap.size w w' := by
  have hmm := @run_makeMap Tryz.prog
  have O0 : FMap (w.alloc (.map #[] 0)) w.heap.size [] := World.ownsMap_made w Tryz.prog 3 fnElem
  have K0 := below_alloc w (.map #[] 0)
  go_enter Tryz.func98, Tryz.ntmps98
  obtain ⟨w1, H1, O1, G1⟩ := O0.put Tryz.underlying112 (by decide) 2 118 (by decide)
  obtain ⟨w2, H2, O2, G2⟩ := O1.put Tryz.underlying112 (by decide) 3 119 (by decide)
  go_wp2
  have K1 := K0.grown G1 (Nat.le_trans (Nat.le_refl _) K0.size) (by intro j hj; injection hj with hj; omega)
  have K2 := K1.grown G2 (Nat.le_trans (Nat.le_refl _) K1.size) (by intro j hj; injection hj with hj; omega)
  go_ret
  exact ⟨_, rfl, O2, Nat.le_refl _, K2⟩
section
variable {w : World} {lo lo2 a M m d lf bt : Nat} {p sh wo qu tr : Int} {A B : Option Addr} {n c : Nat} {xs : List Int} {ys : List Nat} {h : Hd} {s : Sc} {l : Ls}
set_option maxHeartbeats 2000000 in
theorem cstep_look (hL : Lists lo w h l) (hn : h.n0 ≤ 65536) (h1 : h.n1 ≤ 65536) (h2 : h.n2 ≤ 65536) (h3 : h.n3 ≤ 65536) (hU : US w B m d ys) (hlf : s.leaf = (lf : Int)) (hlm : lf < m) (hs0 : 0 ≤ s.sought) (hs1 : s.sought ≤ 65536) (hph : s.phase = 2) :
    Calls Tryz.prog 69 #[.agg #[.int .u32 (a : Int), .int .i64 p, .slice A n c, .int .i64 sh, .int .i64 wo, .int .i64 qu, .int .i64 tr], .slice B m d, .agg (opv h s)] w (RetStp w.heap.size h.n0 (lookS sh (gt ys lf) s) (lookL sh (gt ys lf) s l) m ys false B w) := by
  have TOwn := fun w (L : Lists lo w h l) => Lib.hid (own_any (s := s) L hn h1 h2 h3)
  have hm0 : 0 < m := by omega
  have TK := fun w lo A0 c0 A1 c1 A2 c2 A3 c3 (l : Ls) (hL : Lists lo w ⟨A0, h.n0, c0, A1, h.n1, c1, A2, h.n2, c2, A3, h.n3, c3⟩ l) (hU : US w B m d ys) => Lib.hid (clook_any (w := w) (a := a) (p := p) (sh := sh) (wo := wo) (qu := qu) (tr := tr) (A := A) (n := n) (c := c) (s := s) hL hU hlf hlm hs0 hs1)
  clear hlf hs0 hs1
  rcases s with ⟨kind, addr, err, aad, used, phase, shard, sought, leaf, bit, word, full, at_, tries, item, stamp⟩
  rcases h with ⟨A0, n0, c0, A1, n1, c1, A2, n2, c2, A3, n3, c3⟩
  dsimp only at *
  subst hph
  go_enter Tryz.func69, Tryz.ntmps69
  go_upto_region 1 with (fail)
  have L := Loc.start w
  replace L := (((L).alloc #[.int .u32 (a : Int), .int .i64 p, .slice A n c, .int .i64 sh, .int .i64 wo, .int .i64 qu, .int .i64 tr] 27).alloc (opv ⟨A0, n0, c0, A1, n1, c1, A2, n2, c2, A3, n3, c3⟩ ⟨kind, addr, err, aad, used, 2, shard, sought, leaf, bit, word, full, at_, tries, item, stamp⟩) 40).alloc #[.int .i64 0, .int .u32 0, .slice none 0 0, .int .i64 0, .int .u32 0, .bool false, .slice none 0 0, .slice none 0 0, .int .i64 0, .int .i64 0, .int .i64 0, .int .i64 0, .int .i64 0, .int .u64 0, .bool false, .slice none 0 0, .int .i64 0, .int .i64 0, .int .i64 0, .int .i64 0] 40
  try simp only [World.size_alloc] at L
  replace L := L.is 0 (opv hd0 sc0) rfl
  try dsimp only [nput] at L
  generalize (((w).alloc (.cells #[.int .u32 (a : Int), .int .i64 p, .slice A n c, .int .i64 sh, .int .i64 wo, .int .i64 qu, .int .i64 tr] 27)).alloc (.cells (opv ⟨A0, n0, c0, A1, n1, c1, A2, n2, c2, A3, n3, c3⟩ ⟨kind, addr, err, aad, used, 2, shard, sought, leaf, bit, word, full, at_, tries, item, stamp⟩) 40)).alloc (.cells #[.int .i64 0, .int .u32 0, .slice none 0 0, .int .i64 0, .int .u32 0, .bool false, .slice none 0 0, .slice none 0 0, .int .i64 0, .int .i64 0, .int .i64 0, .int .i64 0, .int .i64 0, .int .u64 0, .bool false, .slice none 0 0, .int .i64 0, .int .i64 0, .int .i64 0, .int .i64 0] 40) = w1 at L ⊢
  generalize w.heap.size + 1 + 1 = gR at L ⊢
  generalize w.heap.size + 1 = gO at L ⊢
  generalize w.heap.size = gH at L ⊢
  go_wp2_with (refine wpList_load_row rfl 40 (.tmp 5) rfl gO rfl _ _ (0, 0) _ (L.bk_ 1 rfl) Tryz.underlying40 rfl op_sz ?_)
  have KS := L.K.size
  have LbO := L.gs
  refine ((TOwn _ (hL.below L.K)).out).mono ?_
  rintro e w2 ⟨A0', c0', A1', c1', A2', c2', A3', c3', rfl, L', K'⟩
  have Lb := L.lts
  replace L := L.over K'
  replace L := L.lists Lb L'
  replace L := L.sz K'.size
  clear Lb
  try dsimp only [lF, List.cons_append, List.nil_append] at L
  clear L'
  go_upto_region 2 with (refine wpList_store_row rfl 40 (.tmp 5) (.tmp 12) rfl gO _ rfl rfl _ _ (L.bk_ 1 rfl) op_sz rfl (opv_one _ _) ?_)
  replace L := (L.row 1 rfl (opv ⟨A0', n0, c0', A1', n1, c1', A2', n2, c2', A3', n3, c3'⟩ ⟨kind, addr, err, aad, used, 2, shard, sought, leaf, bit, word, full, at_, tries, item, stamp⟩))
  try dsimp only [nput] at L
  generalize (w2).setRow gO (opv ⟨A0', n0, c0', A1', n1, c1', A2', n2, c2', A3', n3, c3'⟩ ⟨kind, addr, err, aad, used, 2, shard, sought, leaf, bit, word, full, at_, tries, item, stamp⟩) = w3 at L ⊢
  replace L := L.drew
  refine wp_region_held_drew (S := fun w' => Loc w w' [(gR, 40, opv hd0 sc0), (gO, 40, opv ⟨A0', n0, c0', A1', n1, c1', A2', n2, c2', A3', n3, c3'⟩ ⟨kind, addr, err, aad, used, 2, shard, sought, leaf, bit, word, full, at_, tries, item, stamp⟩), (gH, 27, #[.int .u32 (a : Int), .int .i64 p, .slice A n c, .int .i64 sh, .int .i64 wo, .int .i64 qu, .int .i64 tr])] [zF w1.heap.size, iF .u32 w1.heap.size A0' n0 c0' l.rqs, iF .u32 w1.heap.size A1' n1 c1' l.ads, iF .i64 w1.heap.size A2' n2 c2' l.ers, iF .u64 w1.heap.size A3' n3 c3' l.ses]) (by kernel_rfl) L (fun hHeld => ?_)
  generalize w3.drew = v4 at hHeld L ⊢
  refine wpAnyH_take (i := 1) (oi := ⟨some 15, _, _, _, _, _⟩) (v := .pointer (some ⟨gO, 8, none⟩)) rfl (by kernel_rfl) (by kernel_rfl) (by kernel_rfl) (fun _ _ _ h => h) (Or.inl ⟨by rfl, ?_⟩) hHeld ?_
  · (intro ww hS; go_simp; try with_reducible rfl; try omega)
  try simp only [Act.put, sA, sZ, sS]
  refine wpAnyH_take (i := 2) (oi := ⟨some 16, _, _, _, _, _⟩) (v := .int .i64 2) rfl (by kernel_rfl) (by kernel_rfl) (by kernel_rfl) (fun _ _ _ h => h) (Or.inl ⟨by rfl, ?_⟩) hHeld ?_
  · intro ww hS
    try dsimp only at hS
    have O_8 := (hS).at_ 1 8 rfl (v := .int .i64 2) rfl
    have O_z := (hS).lt 1 rfl
    go_simp
    try with_reducible rfl
    try omega
  try simp only [Act.put, sA, sZ, sS]
  refine wpAnyH_ready (rs := [0]) (by kernel_rfl) (by simp) ?_
  refine AllReadyH.cons (o := ⟨some 14, _, _, _, _, _⟩) rfl (fun K0 hK => ?_) AllReadyH.nil
  go_simp
  refine (cph_any _).mono ?_
  rintro e w5 ⟨gm, rfl, hF, hgm, K'⟩
  have Lb := L.lts
  replace L := L.over K'
  replace L := L.map_new Lb hgm hF
  clear Lb
  try dsimp only [lF, List.cons_append, List.nil_append] at L
  clear hF hgm
  refine hK.out _ _ (L.less 1) (fun hHeld' => ?_)
  clear hHeld hK K0
  have hHeld := hHeld'
  clear hHeld'
  clear K'
  try simp only [Act.put, sA, sZ, sS]
  refine wpAnyH_ready (rs := [3]) (by kernel_rfl) (by simp) ?_
  refine AllReadyH.cons (o := ⟨some 17, _, _, _, _, _⟩) rfl (fun K0 hK => ?_) AllReadyH.nil
  have hrun := FMap.look (L.get 0 rfl : FMap _ gm cph_l) Tryz.underlying112 (cph_z _) (k := 2) (by decide) (f := 118) rfl
  go_simp
  refine hK.out _ _ hHeld (fun hHeld' => ?_)
  clear hHeld hK K0
  have hHeld := hHeld'
  clear hHeld'
  try simp only [Act.put, sA, sZ, sS]
  clear hrun
  refine wpAnyH_take (i := 4) (oi := ⟨some 13, _, _, _, _, _⟩) (v := ?_) rfl (by kernel_rfl) (by kernel_rfl) (by kernel_rfl) (fun _ _ _ h => h) (Or.inl ⟨by rfl, ?_⟩) hHeld ?_
  rotate_left
  · (intro ww hS; go_simp; try with_reducible rfl; try omega)
  try simp only [Act.put, sA, sZ, sS]
  refine wpAnyH_take (i := 5) (oi := ⟨some 18, _, _, _, _, _⟩) (v := .func (.func 118) #[] #[]) rfl (by kernel_rfl) (by kernel_rfl) (by kernel_rfl) (fun _ _ _ h => h) (Or.inl ⟨by rfl, ?_⟩) hHeld ?_
  · (intro ww hS; go_simp; try with_reducible rfl; try omega)
  try simp only [Act.put, sA, sZ, sS]
  refine wpAnyH_take (i := 6) (oi := ⟨some 19, _, _, _, _, _⟩) (v := .bool true) rfl (by kernel_rfl) (by kernel_rfl) (by kernel_rfl) (fun _ _ _ h => h) (Or.inl ⟨by rfl, ?_⟩) hHeld ?_
  · (intro ww hS; go_simp; try with_reducible rfl; try omega)
  try simp only [Act.put, sA, sZ, sS]
  refine wpAnyH_take (i := 7) (oi := ⟨some 9, _, _, _, _, _⟩) (v := .func (.func 118) #[] #[]) rfl (by kernel_rfl) (by kernel_rfl) (by kernel_rfl) (fun _ _ _ h => h) (Or.inl ⟨by rfl, ?_⟩) hHeld ?_
  · (intro ww hS; go_simp; try with_reducible rfl; try omega)
  try simp only [Act.put, sA, sZ, sS]
  refine wpAnyH_take (i := 8) (oi := ⟨some 10, _, _, _, _, _⟩) (v := .bool true) rfl (by kernel_rfl) (by kernel_rfl) (by kernel_rfl) (fun _ _ _ h => h) (Or.inl ⟨by rfl, ?_⟩) hHeld ?_
  · (intro ww hS; go_simp; try with_reducible rfl; try omega)
  try simp only [Act.put, sA, sZ, sS]
  refine wpAnyH_done (by kernel_rfl) ?_ _
  clear hHeld
  go_wp2_with (first | (refine wpList_load_row rfl 27 (.tmp 3) rfl gH rfl _ _ (0, 0) _ (L.bk_ 2 rfl) Tryz.underlying27 rfl cf_sz ?_) | (refine wpList_load_row rfl 40 (.tmp 5) rfl gO rfl _ _ (0, 0) _ (L.bk_ 1 rfl) Tryz.underlying40 rfl op_sz ?_))
  have KS2 := L.K.size
  refine ((TK _ _ _ _ _ _ _ _ _ _ _ (L.lists_at 2 rfl) (hU.below L.K)).out).mono ?_
  rintro e w6 ⟨A0'', c0'', A1'', n1'', c1'', A2'', n2'', c2'', A3'', n3'', c3'', B'', d'', rfl, U, L', hA, K'⟩
  have Lb := L.lts
  replace L := L.over K'
  replace L := L.us_av (fun i b e => hA b.1 (Lb i b e) (hU.apart0 hm0 L i b e)) U
  replace L := L.lists' LbO L'
  clear Lb
  try dsimp only [lF, List.cons_append, List.nil_append] at L
  clear L' U
  go_wp2_with (refine wpList_store_row rfl 40 (.tmp 7) (.tmp 30) rfl gR _ rfl rfl _ _ (L.bk_ 0 rfl) op_sz rfl (opv_one _ _) ?_)
  replace L := (L.row 0 rfl (opv ⟨A0'', n0, c0'', A1'', n1'', c1'', A2'', n2'', c2'', A3'', n3'', c3''⟩ (lookS sh (gt ys lf) ⟨kind, addr, err, aad, used, 2, shard, sought, leaf, bit, word, full, at_, tries, item, stamp⟩)))
  try dsimp only [nput] at L
  generalize (w6).setRow gR (opv ⟨A0'', n0, c0'', A1'', n1'', c1'', A2'', n2'', c2'', A3'', n3'', c3''⟩ (lookS sh (gt ys lf) ⟨kind, addr, err, aad, used, 2, shard, sought, leaf, bit, word, full, at_, tries, item, stamp⟩)) = w7 at L ⊢
  refine bodyPost_ret (v := .tuple #[.slice B'' m d'', .agg (opv ⟨A0'', n0, c0'', A1'', n1'', c1'', A2'', n2'', c2'', A3'', n3'', c3''⟩ (lookS sh (gt ys lf) ⟨kind, addr, err, aad, used, 2, shard, sought, leaf, bit, word, full, at_, tries, item, stamp⟩)), .bool false]) ?_ rfl ?_
  · exact results_tct (fn := Tryz.f69) Tryz.results69 _ _ gR _ _ (0, 0) _ rfl (L.bk_ 0 rfl) Tryz.underlying40 rfl op_sz
  exact ⟨_, _, _, _, _, _, _, _, _, _, _, _, _, rfl, L.us_ 4 rfl, (L.lists_at 0 rfl).lower_ KS, fun k hk => hA k (Nat.lt_of_lt_of_le hk KS2), L.K⟩
set_option maxHeartbeats 2000000 in
theorem cstep_claim (ha : a < 4294967296) (hM : Much a p M) (hI : IS .u32 lo2 w h.A0 h.n0 h.c0 xs) (hn : h.n0 ≤ 65536) (hin : InB a M h.n0 xs) (hL : Lists lo w h l) (h1 : h.n1 ≤ 65536) (h2 : h.n2 ≤ 65536) (h3 : h.n3 ≤ 65536) (hU : US w B m d ys) (hm : m ≤ 65536) (hlf : s.leaf = (lf : Int)) (hlm : lf < m) (hbt : s.bit = (bt : Int)) (hb : bt < 32) (hof : 32 * lf + bt < M) (hw : s.word < 18446744073709551616) (hph : s.phase = 3) :
    Calls Tryz.prog 69 #[.agg #[.int .u32 (a : Int), .int .i64 p, .slice A n c, .int .i64 sh, .int .i64 wo, .int .i64 qu, .int .i64 tr], .slice B m d, .agg (opv h s)] w (RetStp w.heap.size h.n0 (claimS a h.n0 xs (gt ys lf) s) l m (claimC ys s) (decide (gt ys lf = s.word)) B w) := by
  have TOwn := fun w (L : Lists lo w h l) => Lib.hid (own_any (s := s) L hn h1 h2 h3)
  have hm0 : 0 < m := by omega
  have hrq := Lib.hid (hL.i0.uniq hI)
  have TK := fun w lo lo2 A0 c0 A1 c1 A2 c2 A3 c3 (l : Ls) (hI : IS .u32 lo2 w A0 h.n0 c0 xs) (hlo : lo ≤ w.heap.size) (hL : Lists lo w ⟨A0, h.n0, c0, A1, h.n1, c1, A2, h.n2, c2, A3, h.n3, c3⟩ l) (hU : US w B m d ys) => Lib.hid (claim_stp (w := w) (a := a) (p := p) (sh := sh) (wo := wo) (qu := qu) (tr := tr) (A := A) (n := n) (c := c) (s := s) (h := ⟨A0, h.n0, c0, A1, h.n1, c1, A2, h.n2, c2, A3, h.n3, c3⟩) ha hM hI hn hin hlo hL h1 h2 h3 hU hm hlf hlm hbt hb hof hw)
  clear hlf hbt hin hof hb hw
  rcases s with ⟨kind, addr, err, aad, used, phase, shard, sought, leaf, bit, word, full, at_, tries, item, stamp⟩
  rcases h with ⟨A0, n0, c0, A1, n1, c1, A2, n2, c2, A3, n3, c3⟩
  dsimp only at *
  subst hph
  go_enter Tryz.func69, Tryz.ntmps69
  go_upto_region 1 with (fail)
  have L := Loc.start w
  replace L := (((L).alloc #[.int .u32 (a : Int), .int .i64 p, .slice A n c, .int .i64 sh, .int .i64 wo, .int .i64 qu, .int .i64 tr] 27).alloc (opv ⟨A0, n0, c0, A1, n1, c1, A2, n2, c2, A3, n3, c3⟩ ⟨kind, addr, err, aad, used, 3, shard, sought, leaf, bit, word, full, at_, tries, item, stamp⟩) 40).alloc #[.int .i64 0, .int .u32 0, .slice none 0 0, .int .i64 0, .int .u32 0, .bool false, .slice none 0 0, .slice none 0 0, .int .i64 0, .int .i64 0, .int .i64 0, .int .i64 0, .int .i64 0, .int .u64 0, .bool false, .slice none 0 0, .int .i64 0, .int .i64 0, .int .i64 0, .int .i64 0] 40
  try simp only [World.size_alloc] at L
  replace L := L.is 0 (opv hd0 sc0) rfl
  try dsimp only [nput] at L
  generalize (((w).alloc (.cells #[.int .u32 (a : Int), .int .i64 p, .slice A n c, .int .i64 sh, .int .i64 wo, .int .i64 qu, .int .i64 tr] 27)).alloc (.cells (opv ⟨A0, n0, c0, A1, n1, c1, A2, n2, c2, A3, n3, c3⟩ ⟨kind, addr, err, aad, used, 3, shard, sought, leaf, bit, word, full, at_, tries, item, stamp⟩) 40)).alloc (.cells #[.int .i64 0, .int .u32 0, .slice none 0 0, .int .i64 0, .int .u32 0, .bool false, .slice none 0 0, .slice none 0 0, .int .i64 0, .int .i64 0, .int .i64 0, .int .i64 0, .int .i64 0, .int .u64 0, .bool false, .slice none 0 0, .int .i64 0, .int .i64 0, .int .i64 0, .int .i64 0] 40) = w1 at L ⊢
  generalize w.heap.size + 1 + 1 = gR at L ⊢
  generalize w.heap.size + 1 = gO at L ⊢
  generalize w.heap.size = gH at L ⊢
  go_wp2_with (refine wpList_load_row rfl 40 (.tmp 5) rfl gO rfl _ _ (0, 0) _ (L.bk_ 1 rfl) Tryz.underlying40 rfl op_sz ?_)
  have KS := L.K.size
  have LbO := L.gs
  refine ((TOwn _ (hL.below L.K)).out).mono ?_
  rintro e w2 ⟨A0', c0', A1', c1', A2', c2', A3', c3', rfl, L', K'⟩
  have Lb := L.lts
  replace L := L.over K'
  replace L := L.lists Lb L'
  replace L := L.sz K'.size
  clear Lb
  try dsimp only [lF, List.cons_append, List.nil_append] at L
  clear L'
  go_upto_region 2 with (refine wpList_store_row rfl 40 (.tmp 5) (.tmp 12) rfl gO _ rfl rfl _ _ (L.bk_ 1 rfl) op_sz rfl (opv_one _ _) ?_)
  replace L := (L.row 1 rfl (opv ⟨A0', n0, c0', A1', n1, c1', A2', n2, c2', A3', n3, c3'⟩ ⟨kind, addr, err, aad, used, 3, shard, sought, leaf, bit, word, full, at_, tries, item, stamp⟩))
  try dsimp only [nput] at L
  generalize (w2).setRow gO (opv ⟨A0', n0, c0', A1', n1, c1', A2', n2, c2', A3', n3, c3'⟩ ⟨kind, addr, err, aad, used, 3, shard, sought, leaf, bit, word, full, at_, tries, item, stamp⟩) = w3 at L ⊢
  replace L := L.drew
  refine wp_region_held_drew (S := fun w' => Loc w w' [(gR, 40, opv hd0 sc0), (gO, 40, opv ⟨A0', n0, c0', A1', n1, c1', A2', n2, c2', A3', n3, c3'⟩ ⟨kind, addr, err, aad, used, 3, shard, sought, leaf, bit, word, full, at_, tries, item, stamp⟩), (gH, 27, #[.int .u32 (a : Int), .int .i64 p, .slice A n c, .int .i64 sh, .int .i64 wo, .int .i64 qu, .int .i64 tr])] [zF w1.heap.size, iF .u32 w1.heap.size A0' n0 c0' l.rqs, iF .u32 w1.heap.size A1' n1 c1' l.ads, iF .i64 w1.heap.size A2' n2 c2' l.ers, iF .u64 w1.heap.size A3' n3 c3' l.ses]) (by kernel_rfl) L (fun hHeld => ?_)
  generalize w3.drew = v4 at hHeld L ⊢
  refine wpAnyH_take (i := 1) (oi := ⟨some 15, _, _, _, _, _⟩) (v := .pointer (some ⟨gO, 8, none⟩)) rfl (by kernel_rfl) (by kernel_rfl) (by kernel_rfl) (fun _ _ _ h => h) (Or.inl ⟨by rfl, ?_⟩) hHeld ?_
  · (intro ww hS; go_simp; try with_reducible rfl; try omega)
  try simp only [Act.put, sA, sZ, sS]
  refine wpAnyH_take (i := 2) (oi := ⟨some 16, _, _, _, _, _⟩) (v := .int .i64 3) rfl (by kernel_rfl) (by kernel_rfl) (by kernel_rfl) (fun _ _ _ h => h) (Or.inl ⟨by rfl, ?_⟩) hHeld ?_
  · intro ww hS
    try dsimp only at hS
    have O_8 := (hS).at_ 1 8 rfl (v := .int .i64 3) rfl
    have O_z := (hS).lt 1 rfl
    go_simp
    try with_reducible rfl
    try omega
  try simp only [Act.put, sA, sZ, sS]
  refine wpAnyH_ready (rs := [0]) (by kernel_rfl) (by simp) ?_
  refine AllReadyH.cons (o := ⟨some 14, _, _, _, _, _⟩) rfl (fun K0 hK => ?_) AllReadyH.nil
  go_simp
  refine (cph_any _).mono ?_
  rintro e w5 ⟨gm, rfl, hF, hgm, K'⟩
  have Lb := L.lts
  replace L := L.over K'
  replace L := L.map_new Lb hgm hF
  clear Lb
  try dsimp only [lF, List.cons_append, List.nil_append] at L
  clear hF hgm
  refine hK.out _ _ (L.less 1) (fun hHeld' => ?_)
  clear hHeld hK K0
  have hHeld := hHeld'
  clear hHeld'
  clear K'
  try simp only [Act.put, sA, sZ, sS]
  refine wpAnyH_ready (rs := [3]) (by kernel_rfl) (by simp) ?_
  refine AllReadyH.cons (o := ⟨some 17, _, _, _, _, _⟩) rfl (fun K0 hK => ?_) AllReadyH.nil
  have hrun := FMap.look (L.get 0 rfl : FMap _ gm cph_l) Tryz.underlying112 (cph_z _) (k := 3) (by decide) (f := 119) rfl
  go_simp
  refine hK.out _ _ hHeld (fun hHeld' => ?_)
  clear hHeld hK K0
  have hHeld := hHeld'
  clear hHeld'
  try simp only [Act.put, sA, sZ, sS]
  clear hrun
  refine wpAnyH_take (i := 4) (oi := ⟨some 13, _, _, _, _, _⟩) (v := ?_) rfl (by kernel_rfl) (by kernel_rfl) (by kernel_rfl) (fun _ _ _ h => h) (Or.inl ⟨by rfl, ?_⟩) hHeld ?_
  rotate_left
  · (intro ww hS; go_simp; try with_reducible rfl; try omega)
  try simp only [Act.put, sA, sZ, sS]
  refine wpAnyH_take (i := 5) (oi := ⟨some 18, _, _, _, _, _⟩) (v := .func (.func 119) #[] #[]) rfl (by kernel_rfl) (by kernel_rfl) (by kernel_rfl) (fun _ _ _ h => h) (Or.inl ⟨by rfl, ?_⟩) hHeld ?_
  · (intro ww hS; go_simp; try with_reducible rfl; try omega)
  try simp only [Act.put, sA, sZ, sS]
  refine wpAnyH_take (i := 6) (oi := ⟨some 19, _, _, _, _, _⟩) (v := .bool true) rfl (by kernel_rfl) (by kernel_rfl) (by kernel_rfl) (fun _ _ _ h => h) (Or.inl ⟨by rfl, ?_⟩) hHeld ?_
  · (intro ww hS; go_simp; try with_reducible rfl; try omega)
  try simp only [Act.put, sA, sZ, sS]
  refine wpAnyH_take (i := 7) (oi := ⟨some 9, _, _, _, _, _⟩) (v := .func (.func 119) #[] #[]) rfl (by kernel_rfl) (by kernel_rfl) (by kernel_rfl) (fun _ _ _ h => h) (Or.inl ⟨by rfl, ?_⟩) hHeld ?_
  · (intro ww hS; go_simp; try with_reducible rfl; try omega)
  try simp only [Act.put, sA, sZ, sS]
  refine wpAnyH_take (i := 8) (oi := ⟨some 10, _, _, _, _, _⟩) (v := .bool true) rfl (by kernel_rfl) (by kernel_rfl) (by kernel_rfl) (fun _ _ _ h => h) (Or.inl ⟨by rfl, ?_⟩) hHeld ?_
  · (intro ww hS; go_simp; try with_reducible rfl; try omega)
  try simp only [Act.put, sA, sZ, sS]
  refine wpAnyH_done (by kernel_rfl) ?_ _
  clear hHeld
  go_wp2_with (first | (refine wpList_load_row rfl 27 (.tmp 3) rfl gH rfl _ _ (0, 0) _ (L.bk_ 2 rfl) Tryz.underlying27 rfl cf_sz ?_) | (refine wpList_load_row rfl 40 (.tmp 5) rfl gO rfl _ _ (0, 0) _ (L.bk_ 1 rfl) Tryz.underlying40 rfl op_sz ?_))
  have KS2 := L.K.size
  refine ((TK _ _ _ _ _ _ _ _ _ _ _ _ ((L.lists_at 2 rfl).asked hrq.out) (L.sz_ 1 rfl) (L.lists_at 2 rfl) (hU.below L.K)).out).mono ?_
  rintro e w6 ⟨A0'', c0'', A1'', n1'', c1'', A2'', n2'', c2'', A3'', n3'', c3'', B'', d'', rfl, U, L', hA, K'⟩
  have Lb := L.lts
  replace L := L.over K'
  replace L := L.us_av (fun i b e => hA b.1 (Lb i b e) (hU.apart0 hm0 L i b e)) U
  replace L := L.lists' LbO L'
  clear Lb
  try dsimp only [lF, List.cons_append, List.nil_append] at L
  clear L' U
  go_wp2_with (refine wpList_store_row rfl 40 (.tmp 7) (.tmp 30) rfl gR _ rfl rfl _ _ (L.bk_ 0 rfl) op_sz rfl (opv_one _ _) ?_)
  replace L := (L.row 0 rfl (opv ⟨A0'', n0, c0'', A1'', n1'', c1'', A2'', n2'', c2'', A3'', n3'', c3''⟩ (claimS a n0 xs (gt ys lf) ⟨kind, addr, err, aad, used, 3, shard, sought, leaf, bit, word, full, at_, tries, item, stamp⟩)))
  try dsimp only [nput] at L
  generalize (w6).setRow gR (opv ⟨A0'', n0, c0'', A1'', n1'', c1'', A2'', n2'', c2'', A3'', n3'', c3''⟩ (claimS a n0 xs (gt ys lf) ⟨kind, addr, err, aad, used, 3, shard, sought, leaf, bit, word, full, at_, tries, item, stamp⟩)) = w7 at L ⊢
  refine bodyPost_ret (v := .tuple #[.slice B'' m d'', .agg (opv ⟨A0'', n0, c0'', A1'', n1'', c1'', A2'', n2'', c2'', A3'', n3'', c3''⟩ (claimS a n0 xs (gt ys lf) ⟨kind, addr, err, aad, used, 3, shard, sought, leaf, bit, word, full, at_, tries, item, stamp⟩)), .bool (decide (gt ys lf = word))]) ?_ rfl ?_
  · exact results_tct (fn := Tryz.f69) Tryz.results69 _ _ gR _ _ (0, 0) _ rfl (L.bk_ 0 rfl) Tryz.underlying40 rfl op_sz
  exact ⟨_, _, _, _, _, _, _, _, _, _, _, _, _, rfl, L.us_ 4 rfl, (L.lists_at 0 rfl).lower_ KS, fun k hk => hA k (Nat.lt_of_lt_of_le hk KS2), L.K⟩
end
end Go.Proofs.YtghecdccdmeooaaGreat
