/-
  What drop.read answers, while its caller's blocks stand. Conditions: a block that may be; a leaf and bit there are.
-/
import Derived.Test.YtafdlofmgefdoaaDropTold
namespace Go.Proofs.Ytafdlofmgefdoaa
open Go.RowKit
set_option linter.unusedVariables false
section
variable {w w1 : World} {lo lo2 gPR gPO gPH a M m d lf bt : Nat} {p sh wo qu tr : Int} {A B : Option Addr} {n c : Nat} {xs : List Int} {ys : List Nat} {h : Hd} {s : Sc} {l : Ls}
set_option maxRecDepth 100000 in
set_option maxHeartbeats 2000000 in
theorem read_used (L : Loc w w1 [(gPR, 42, opv hd0 sc0), (gPO, 42, opv h s), (gPH, 27, #[.int .u32 (a : Int), .int .i64 p, .slice A n c, .int .i64 sh, .int .i64 wo, .int .i64 qu, .int .i64 tr])] [rF .i64 36 lo h.A2 h.n2 h.c2 l.ers, iF .u32 lo h.A0 h.n0 h.c0 l.rqs, iF .u32 lo h.A1 h.n1 h.c1 l.ads, iF .u64 lo h.A3 h.n3 h.c3 l.ses, zF lo]) (hs0 : SepF (.slice h.A2 h.n2 h.c2) (iF .u32 lo h.A0 h.n0 h.c0 l.rqs)) (hs1 : SepF (.slice h.A2 h.n2 h.c2) (iF .u32 lo h.A1 h.n1 h.c1 l.ads)) (hs3 : SepF (.slice h.A2 h.n2 h.c2) (iF .u64 lo h.A3 h.n3 h.c3 l.ses)) (hlo : w.heap.size ≤ lo) (ha : a < 4294967296) (hM : Much a p M) (hx : l.rqs = xs) (hn : h.n0 ≤ 65536) (hin : InB a M h.n0 xs) (h1 : h.n1 ≤ 65536) (h2 : h.n2 ≤ 65000) (h3 : h.n3 ≤ 65536) (hU : US w B m d ys) (hlf : s.leaf = (lf : Int)) (hlm : lf < m) (hbt : s.bit = (bt : Int)) (hb5 : bt < 32) (hb : (gt ys lf).testBit bt = true) :
    Calls Try.prog 27 #[.agg #[.int .u32 (a : Int), .int .i64 p, .slice A n c, .int .i64 sh, .int .i64 wo, .int .i64 qu, .int .i64 tr], .slice B m d, .agg (opv h s), .func (.func 26) #[] #[.pointer (some ⟨gPO, 0, none⟩)]] w1 (RetLoc lo h.n0 (useS s (gt ys lf)) l m ys false B gPR gPO gPH #[.int .u32 (a : Int), .int .i64 p, .slice A n c, .int .i64 sh, .int .i64 wo, .int .i64 qu, .int .i64 tr] w w1) := by
  have TL := fun w (U : US w B m d ys) => Lib.hid (load_nat U lf hlm)
  have TU := fun w => Lib.hid (used_any (gt ys lf) bt (gt_lt hU.fit lf) (by omega) w)
  simp only [hb] at TU
  clear hb
  generalize gt ys lf = x at TL TU ⊢
  clear ha hM hn hx hin h1 h3 hlo
  rcases s with ⟨kind, addr, err, aad, used, phase, shard, sought, leaf, bit, word, full, at_, tries, item, stamp⟩
  rcases h with ⟨A0, n0, c0, A1, n1, c1, A2, n2, c2, A3, n3, c3⟩
  try dsimp only at *
  subst hlf hbt
  go_enter Try.func27, Try.ntmps27
  go_upto_region 1 with (fail)
  replace L := (((L).alloc #[.int .u32 (a : Int), .int .i64 p, .slice A n c, .int .i64 sh, .int .i64 wo, .int .i64 qu, .int .i64 tr] 27).alloc (opv ⟨A0, n0, c0, A1, n1, c1, A2, n2, c2, A3, n3, c3⟩ ⟨kind, addr, err, aad, used, phase, shard, sought, (lf : Int), (bt : Int), word, full, at_, tries, item, stamp⟩) 42).alloc #[.int .i64 0, .int .u32 0, .slice none 0 0, .int .i64 0, .int .u32 0, .bool false, .slice none 0 0, .slice none 0 0, .int .i64 0, .int .i64 0, .int .i64 0, .int .i64 0, .int .i64 0, .int .u64 0, .bool false, .slice none 0 0, .int .i64 0, .int .i64 0, .int .i64 0, .int .i64 0] 42
  try simp only [World.size_alloc] at L
  replace L := L.is 0 (opv hd0 sc0) rfl
  try dsimp only [nput] at L
  generalize (((w1).alloc (.cells #[.int .u32 (a : Int), .int .i64 p, .slice A n c, .int .i64 sh, .int .i64 wo, .int .i64 qu, .int .i64 tr] 27)).alloc (.cells (opv ⟨A0, n0, c0, A1, n1, c1, A2, n2, c2, A3, n3, c3⟩ ⟨kind, addr, err, aad, used, phase, shard, sought, (lf : Int), (bt : Int), word, full, at_, tries, item, stamp⟩) 42)).alloc (.cells #[.int .i64 0, .int .u32 0, .slice none 0 0, .int .i64 0, .int .u32 0, .bool false, .slice none 0 0, .slice none 0 0, .int .i64 0, .int .i64 0, .int .i64 0, .int .i64 0, .int .i64 0, .int .u64 0, .bool false, .slice none 0 0, .int .i64 0, .int .i64 0, .int .i64 0, .int .i64 0] 42) = w6 at L ⊢
  generalize w1.heap.size + 1 + 1 = gR at L ⊢
  generalize w1.heap.size + 1 = gO at L ⊢
  generalize w1.heap.size = gH at L ⊢
  have O_11 := L.at_ 1 11 rfl (v := .int .i64 (lf : Int)) rfl
  have O_z := L.lt 1 rfl
  go_wp2_with fail
  refine ((TL _ (hU.below L.K)).out).mono ?_
  rintro e w' ⟨rfl, rfl⟩
  clear O_11 O_z
  have O_12 := L.at_ 1 12 rfl (v := .int .i64 (bt : Int)) rfl
  have O_z := L.lt 1 rfl
  go_wp2_with fail
  refine ((TU _).out).mono ?_
  rintro e w' ⟨rfl, rfl⟩
  clear O_12 O_z
  have O_8 := L.at_ 1 8 rfl (v := .int .i64 phase) rfl
  have O_13 := L.at_ 1 13 rfl (v := .int .u64 ((word : Nat) : Int)) rfl
  have O_z := L.lt 1 rfl
  have O_f8 := L.fz 1 8 rfl
  have O_f13 := L.fz 1 13 rfl
  go_upto_region 5 with fail
  clear O_8 O_13 O_z O_f8 O_f13
  replace L := (((L.set 1 8 rfl (.int .i64 9)).set 1 13 rfl (.int .u64 ((x : Nat) : Int))).is 1 (opv ⟨A0, n0, c0, A1, n1, c1, A2, n2, c2, A3, n3, c3⟩ ⟨kind, addr, err, aad, used, 9, shard, sought, (lf : Int), (bt : Int), x, full, at_, tries, item, stamp⟩) rfl)
  try dsimp only [nput] at L
  generalize ((w6).setCell ⟨gO, 8, none⟩ (.int .i64 9)).setCell ⟨gO, 13, none⟩ (.int .u64 ((x : Nat) : Int)) = w7 at L ⊢
  replace L := L.drew
  refine wp_region_held_drew (S := fun w' => ∃ v_R : Array Value, v_R.size = 20 ∧ Loc w w' [(gR, 42, v_R), (gO, 42, opv ⟨A0, n0, c0, A1, n1, c1, A2, n2, c2, A3, n3, c3⟩ ⟨kind, addr, err, aad, used, 9, shard, sought, (lf : Int), (bt : Int), x, full, at_, tries, item, stamp⟩), (gH, 27, #[.int .u32 (a : Int), .int .i64 p, .slice A n c, .int .i64 sh, .int .i64 wo, .int .i64 qu, .int .i64 tr]), (gPR, 42, opv hd0 sc0), (gPO, 42, opv ⟨A0, n0, c0, A1, n1, c1, A2, n2, c2, A3, n3, c3⟩ ⟨kind, addr, err, aad, used, phase, shard, sought, (lf : Int), (bt : Int), word, full, at_, tries, item, stamp⟩), (gPH, 27, #[.int .u32 (a : Int), .int .i64 p, .slice A n c, .int .i64 sh, .int .i64 wo, .int .i64 qu, .int .i64 tr])] [rF .i64 36 lo A2 n2 c2 l.ers, iF .u32 lo A0 n0 c0 l.rqs, iF .u32 lo A1 n1 c1 l.ads, iF .u64 lo A3 n3 c3 l.ses, zF lo]) (by kernel_rfl) (⟨_, rfl, L⟩) (fun hHeld => ?_)
  generalize w7.drew = v8 at hHeld L ⊢
  refine wpAnyH_take (i := 0) (oi := ⟨some 29, _, _, _, _, _⟩) (v := .slice B m d) rfl (by kernel_rfl) (by kernel_rfl) (by kernel_rfl) (fun _ _ _ h => h) (Or.inl ⟨by rfl, ?_⟩) hHeld ?_
  · intro ww hS
    try dsimp only at hS
    go_simp
    try with_reducible rfl
    try omega
  try simp only [Act.put, List.setIfInBounds_toArray, List.set_cons_zero, List.set_cons_succ]
  refine wpAnyH_take (i := 1) (oi := ⟨some 30, _, _, _, _, _⟩) (v := .agg (opv ⟨A0, n0, c0, A1, n1, c1, A2, n2, c2, A3, n3, c3⟩ ⟨kind, addr, err, aad, used, 9, shard, sought, (lf : Int), (bt : Int), x, full, at_, tries, item, stamp⟩)) rfl (by kernel_rfl) (by kernel_rfl) (by kernel_rfl) (fun _ _ _ h => h) (yieldsIf_load_row (by rfl) 42 (.tmp 6) rfl gO rfl 42 _ (0, 0) _ (fun _ hS => (hS.choose_spec.2).bk_ 1 rfl) Try.underlying42 rfl op_sz) hHeld ?_
  try simp only [Act.put, List.setIfInBounds_toArray, List.set_cons_zero, List.set_cons_succ]
  refine wpAnyH_take (i := 2) (oi := ⟨some 8, _, _, _, _, _⟩) (v := .slice B m d) rfl (by kernel_rfl) (by kernel_rfl) (by kernel_rfl) (fun _ _ _ h => h) (Or.inl ⟨by rfl, ?_⟩) hHeld ?_
  · intro ww hS
    try dsimp only at hS
    go_simp
    try with_reducible rfl
    try omega
  try simp only [Act.put, List.setIfInBounds_toArray, List.set_cons_zero, List.set_cons_succ]
  refine wpAnyH_ready (rs := [3]) (by kernel_rfl) (by simp) ?_
  refine AllReadyH.cons (o := ⟨none, _, _, _, _, _⟩) rfl (fun K0 hK => ?_) AllReadyH.nil
  rw [if_pos (by rfl)]
  refine wp_store_row 42 (.tmp 9) (.tmp 30) rfl gR _ rfl rfl _ _ (L.bk_ 0 rfl) op_sz rfl (opv_one _ _) ?_
  replace L := L.row 0 rfl (opv ⟨A0, n0, c0, A1, n1, c1, A2, n2, c2, A3, n3, c3⟩ ⟨kind, addr, err, aad, used, 9, shard, sought, (lf : Int), (bt : Int), x, full, at_, tries, item, stamp⟩)
  try dsimp only [nput] at L
  refine hK.out _ _ ⟨_, rfl, L⟩ (fun hHeld' => ?_)
  clear hHeld hK K0
  have hHeld := hHeld'
  clear hHeld'
  generalize v8.setRow gR (opv ⟨A0, n0, c0, A1, n1, c1, A2, n2, c2, A3, n3, c3⟩ ⟨kind, addr, err, aad, used, 9, shard, sought, (lf : Int), (bt : Int), x, full, at_, tries, item, stamp⟩) = v9 at hHeld L ⊢
  try simp only [Act.put]
  refine wpAnyH_take (i := 4) (oi := ⟨some 10, _, _, _, _, _⟩) (v := .bool false) rfl (by kernel_rfl) (by kernel_rfl) (by kernel_rfl) (fun _ _ _ h => h) (Or.inl ⟨by rfl, ?_⟩) hHeld ?_
  · intro ww hS
    try dsimp only at hS
    go_simp
    try with_reducible rfl
    try omega
  try simp only [Act.put, List.setIfInBounds_toArray, List.set_cons_zero, List.set_cons_succ]
  refine wpAnyH_done (by kernel_rfl) ?_ _
  clear hHeld
  go_wp2
  refine bodyPost_ret (v := .tuple #[.slice B m d, .agg (opv ⟨A0, n0, c0, A1, n1, c1, A2, n2, c2, A3, n3, c3⟩ ⟨kind, addr, err, aad, used, 9, shard, sought, (lf : Int), (bt : Int), x, full, at_, tries, item, stamp⟩), .bool false]) ?_ rfl ?_
  · exact results_tct (fn := Try.f27) Try.results27 _ _ gR _ _ (0, 0) _ rfl (L.bk_ 0 rfl) Try.underlying42 rfl op_sz
  exact ⟨_, _, _, _, _, _, _, _, _, _, _, _, _, _, rfl, hU.below L.K, lists_row (L.is_ 1 rfl) (L.is_ 2 rfl) (L.ri_ 0 rfl) (L.is_ 3 rfl), fun k _ h => h, ((((L.del 0).del 0).del 0).only (fun f h => by cases h))⟩
set_option maxRecDepth 100000 in
set_option maxHeartbeats 2000000 in
theorem read_free (L : Loc w w1 [(gPR, 42, opv hd0 sc0), (gPO, 42, opv h s), (gPH, 27, #[.int .u32 (a : Int), .int .i64 p, .slice A n c, .int .i64 sh, .int .i64 wo, .int .i64 qu, .int .i64 tr])] [rF .i64 36 lo h.A2 h.n2 h.c2 l.ers, iF .u32 lo h.A0 h.n0 h.c0 l.rqs, iF .u32 lo h.A1 h.n1 h.c1 l.ads, iF .u64 lo h.A3 h.n3 h.c3 l.ses, zF lo]) (hs0 : SepF (.slice h.A2 h.n2 h.c2) (iF .u32 lo h.A0 h.n0 h.c0 l.rqs)) (hs1 : SepF (.slice h.A2 h.n2 h.c2) (iF .u32 lo h.A1 h.n1 h.c1 l.ads)) (hs3 : SepF (.slice h.A2 h.n2 h.c2) (iF .u64 lo h.A3 h.n3 h.c3 l.ses)) (hlo : w.heap.size ≤ lo) (ha : a < 4294967296) (hM : Much a p M) (hx : l.rqs = xs) (hn : h.n0 ≤ 65536) (hin : InB a M h.n0 xs) (h1 : h.n1 ≤ 65536) (h2 : h.n2 ≤ 65000) (h3 : h.n3 ≤ 65536) (hU : US w B m d ys) (hlf : s.leaf = (lf : Int)) (hlm : lf < m) (hbt : s.bit = (bt : Int)) (hb5 : bt < 32) (hb : (gt ys lf).testBit bt = false) :
    Calls Try.prog 27 #[.agg #[.int .u32 (a : Int), .int .i64 p, .slice A n c, .int .i64 sh, .int .i64 wo, .int .i64 qu, .int .i64 tr], .slice B m d, .agg (opv h s), .func (.func 26) #[] #[.pointer (some ⟨gPO, 0, none⟩)]] w1 (RetLoc lo h.n0 (freeS a h.n0 xs s) (erL s l 6) m ys true B gPR gPO gPH #[.int .u32 (a : Int), .int .i64 p, .slice A n c, .int .i64 sh, .int .i64 wo, .int .i64 qu, .int .i64 tr] w w1) := by
  have TG := fun w A2 n2 c2 (hn2 : n2 ≤ 65001) (hL : Lists lo w ⟨h.A0, h.n0, h.c0, h.A1, h.n1, h.c1, A2, n2, c2, h.A3, h.n3, h.c3⟩ (erL s l 6)) => Lib.hid (goes_any (w := w) (sh := sh) (wo := wo) (qu := qu) (tr := tr) (A := A) (n := n) (c := c) (h := ⟨h.A0, h.n0, h.c0, h.A1, h.n1, h.c1, A2, n2, c2, h.A3, h.n3, h.c3⟩) (s := erS s 6) ha hM hn (hL.asked hx) hin hL h1 (by show n2 ≤ 65536; omega) h3)
  have TL := fun w (U : US w B m d ys) => Lib.hid (load_nat U lf hlm)
  have TU := fun w => Lib.hid (used_any (gt ys lf) bt (gt_lt hU.fit lf) (by omega) w)
  simp only [hb] at TU
  clear hb
  generalize gt ys lf = x at TL TU ⊢
  clear ha hM hn hx hin h1 h3
  rcases s with ⟨kind, addr, err, aad, used, phase, shard, sought, leaf, bit, word, full, at_, tries, item, stamp⟩
  rcases h with ⟨A0, n0, c0, A1, n1, c1, A2, n2, c2, A3, n3, c3⟩
  try dsimp only at *
  subst hlf hbt
  go_enter Try.func27, Try.ntmps27
  go_upto_region 1 with (fail)
  replace L := (((L).alloc #[.int .u32 (a : Int), .int .i64 p, .slice A n c, .int .i64 sh, .int .i64 wo, .int .i64 qu, .int .i64 tr] 27).alloc (opv ⟨A0, n0, c0, A1, n1, c1, A2, n2, c2, A3, n3, c3⟩ ⟨kind, addr, err, aad, used, phase, shard, sought, (lf : Int), (bt : Int), word, full, at_, tries, item, stamp⟩) 42).alloc #[.int .i64 0, .int .u32 0, .slice none 0 0, .int .i64 0, .int .u32 0, .bool false, .slice none 0 0, .slice none 0 0, .int .i64 0, .int .i64 0, .int .i64 0, .int .i64 0, .int .i64 0, .int .u64 0, .bool false, .slice none 0 0, .int .i64 0, .int .i64 0, .int .i64 0, .int .i64 0] 42
  try simp only [World.size_alloc] at L
  replace L := L.is 0 (opv hd0 sc0) rfl
  try dsimp only [nput] at L
  generalize (((w1).alloc (.cells #[.int .u32 (a : Int), .int .i64 p, .slice A n c, .int .i64 sh, .int .i64 wo, .int .i64 qu, .int .i64 tr] 27)).alloc (.cells (opv ⟨A0, n0, c0, A1, n1, c1, A2, n2, c2, A3, n3, c3⟩ ⟨kind, addr, err, aad, used, phase, shard, sought, (lf : Int), (bt : Int), word, full, at_, tries, item, stamp⟩) 42)).alloc (.cells #[.int .i64 0, .int .u32 0, .slice none 0 0, .int .i64 0, .int .u32 0, .bool false, .slice none 0 0, .slice none 0 0, .int .i64 0, .int .i64 0, .int .i64 0, .int .i64 0, .int .i64 0, .int .u64 0, .bool false, .slice none 0 0, .int .i64 0, .int .i64 0, .int .i64 0, .int .i64 0] 42) = w6 at L ⊢
  generalize w1.heap.size + 1 + 1 = gR at L ⊢
  generalize w1.heap.size + 1 = gO at L ⊢
  generalize w1.heap.size = gH at L ⊢
  have O_11 := L.at_ 1 11 rfl (v := .int .i64 (lf : Int)) rfl
  have O_z := L.lt 1 rfl
  go_wp2_with fail
  refine ((TL _ (hU.below L.K)).out).mono ?_
  rintro e w' ⟨rfl, rfl⟩
  clear O_11 O_z
  have O_12 := L.at_ 1 12 rfl (v := .int .i64 (bt : Int)) rfl
  have O_z := L.lt 1 rfl
  go_wp2_with fail
  refine ((TU _).out).mono ?_
  rintro e w' ⟨rfl, rfl⟩
  clear O_12 O_z
  go_upto_region 3 with (fail)
  replace L := L.drew
  refine wp_region_held_drew (S := fun w' => ∃ v_PO : Array Value, v_PO.size = 20 ∧ ∃ v_R : Array Value, v_R.size = 20 ∧ Loc w w' [(gR, 42, v_R), (gO, 42, opv ⟨A0, n0, c0, A1, n1, c1, A2, n2, c2, A3, n3, c3⟩ ⟨kind, addr, err, aad, used, phase, shard, sought, (lf : Int), (bt : Int), word, full, at_, tries, item, stamp⟩), (gH, 27, #[.int .u32 (a : Int), .int .i64 p, .slice A n c, .int .i64 sh, .int .i64 wo, .int .i64 qu, .int .i64 tr]), (gPR, 42, opv hd0 sc0), (gPO, 42, v_PO), (gPH, 27, #[.int .u32 (a : Int), .int .i64 p, .slice A n c, .int .i64 sh, .int .i64 wo, .int .i64 qu, .int .i64 tr])] [iF .u32 lo A0 n0 c0 l.rqs, iF .u32 lo A1 n1 c1 l.ads, iF .u64 lo A3 n3 c3 l.ses, zF lo]) (by kernel_rfl) (⟨_, rfl, ⟨_, rfl, (L.less 1)⟩⟩) (fun hHeld => ?_)
  generalize w6.drew = v7 at hHeld L ⊢
  refine wpAnyH_take (i := 0) (oi := ⟨some 21, _, _, _, _, _⟩) (v := .slice B m d) rfl (by kernel_rfl) (by kernel_rfl) (by kernel_rfl) (fun _ _ _ h => h) (Or.inl ⟨by rfl, ?_⟩) hHeld ?_
  · intro ww hS
    try dsimp only at hS
    go_simp
    try with_reducible rfl
    try omega
  try simp only [Act.put, List.setIfInBounds_toArray, List.set_cons_zero, List.set_cons_succ]
  refine wpAnyH_take (i := 1) (oi := ⟨some 22, _, _, _, _, _⟩) (v := .agg (#[.int .u32 (a : Int), .int .i64 p, .slice A n c, .int .i64 sh, .int .i64 wo, .int .i64 qu, .int .i64 tr])) rfl (by kernel_rfl) (by kernel_rfl) (by kernel_rfl) (fun _ _ _ h => h) (yieldsIf_load_row (by rfl) 27 (.tmp 4) rfl gH rfl 27 _ (0, 0) _ (fun _ hS => (hS.choose_spec.2.choose_spec.2).bk_ 2 rfl) Try.underlying27 rfl cf_sz) hHeld ?_
  try simp only [Act.put, List.setIfInBounds_toArray, List.set_cons_zero, List.set_cons_succ]
  refine wpAnyH_take (i := 2) (oi := ⟨some 23, _, _, _, _, _⟩) (v := .func (.func 26) #[] #[.pointer (some ⟨gPO, 0, none⟩)]) rfl (by kernel_rfl) (by kernel_rfl) (by kernel_rfl) (fun _ _ _ h => h) (Or.inl ⟨by rfl, ?_⟩) hHeld ?_
  · intro ww hS
    try dsimp only at hS
    go_simp
    try with_reducible rfl
    try omega
  try simp only [Act.put, List.setIfInBounds_toArray, List.set_cons_zero, List.set_cons_succ]
  refine wpAnyH_ready (rs := [3]) (by kernel_rfl) (by simp) ?_
  refine AllReadyH.cons (o := ⟨some 24, _, _, _, _, _⟩) rfl (fun K0 hK => ?_) AllReadyH.nil
  go_simp
  refine (told_any (x := 6) L (SepL.cons hs0 (SepL.cons hs1 (SepL.cons hs3 (SepL.cons SepF.z SepL.nil)))) hlo (L.sz_ 4 rfl) (by show n2 ≤ 65000; omega)).mono ?_
  rintro e w8 ⟨A2', n2', c2', rfl, hn2', LN⟩
  replace L := LN
  replace hn2' : n2' ≤ n2 + 1 := hn2'
  try dsimp only at L
  refine hK.out _ _ ⟨_, rfl, ⟨_, rfl, (L.less 1)⟩⟩ (fun hHeld' => ?_)
  clear hHeld hK K0
  have hHeld := hHeld'
  clear hHeld'
  try dsimp only
  refine wpAnyH_ready (rs := [4]) (by kernel_rfl) (by simp) ?_
  refine AllReadyH.cons (o := ⟨some 25, _, _, _, _, _⟩) rfl (fun K0 hK => ?_) AllReadyH.nil
  have KZ := L.sz_ 4 rfl
  go_simp
  refine ((TG _ _ _ _ (by omega) (lists_row (L.is_ 1 rfl) (L.is_ 2 rfl) (L.ri_ 0 rfl) (L.is_ 3 rfl))).out).mono ?_
  rintro e w9 ⟨A0', c0', A1', c1', A2'', c2'', A3', c3', rfl, L', K'⟩
  have Lb := L.lts
  replace L := L.over K'
  replace L := L.lists Lb L'
  clear Lb
  try dsimp only [lF, List.cons_append, List.nil_append] at L
  clear L'
  refine hK.out _ _ ⟨_, rfl, ⟨_, rfl, (L.less 5)⟩⟩ (fun hHeld' => ?_)
  clear hHeld hK K0
  have hHeld := hHeld'
  clear hHeld'
  clear K'
  try dsimp only
  refine wpAnyH_take (i := 5) (oi := ⟨some 8, _, _, _, _, _⟩) (v := .slice B m d) rfl (by kernel_rfl) (by kernel_rfl) (by kernel_rfl) (fun _ _ _ h => h) (Or.inl ⟨by rfl, ?_⟩) hHeld ?_
  · intro ww hS
    try dsimp only at hS
    go_simp
    try with_reducible rfl
    try omega
  try simp only [Act.put, List.setIfInBounds_toArray, List.set_cons_zero, List.set_cons_succ]
  refine wpAnyH_ready (rs := [6]) (by kernel_rfl) (by simp) ?_
  refine AllReadyH.cons (o := ⟨none, _, _, _, _, _⟩) rfl (fun K0 hK => ?_) AllReadyH.nil
  rw [if_pos (by rfl)]
  refine wp_store_row 42 (.tmp 9) (.tmp 25) rfl gR _ rfl rfl _ _ (L.bk_ 0 rfl) op_sz rfl (opv_one _ _) ?_
  replace L := L.row 0 rfl (opv ⟨A0', n0, c0', A1', n1, c1', A2'', n2', c2'', A3', n3, c3'⟩ (gon a n0 xs (erS ⟨kind, addr, err, aad, used, phase, shard, sought, (lf : Int), (bt : Int), word, full, at_, tries, item, stamp⟩ 6)))
  try dsimp only [nput] at L
  refine hK.out _ _ ⟨_, rfl, ⟨_, rfl, (L.less 5)⟩⟩ (fun hHeld' => ?_)
  clear hHeld hK K0
  have hHeld := hHeld'
  clear hHeld'
  generalize w9.setRow gR (opv ⟨A0', n0, c0', A1', n1, c1', A2'', n2', c2'', A3', n3, c3'⟩ (gon a n0 xs (erS ⟨kind, addr, err, aad, used, phase, shard, sought, (lf : Int), (bt : Int), word, full, at_, tries, item, stamp⟩ 6))) = v10 at hHeld L ⊢
  try simp only [Act.put]
  refine wpAnyH_take (i := 7) (oi := ⟨some 10, _, _, _, _, _⟩) (v := .bool true) rfl (by kernel_rfl) (by kernel_rfl) (by kernel_rfl) (fun _ _ _ h => h) (Or.inl ⟨by rfl, ?_⟩) hHeld ?_
  · intro ww hS
    try dsimp only at hS
    go_simp
    try with_reducible rfl
    try omega
  try simp only [Act.put, List.setIfInBounds_toArray, List.set_cons_zero, List.set_cons_succ]
  refine wpAnyH_done (by kernel_rfl) ?_ _
  clear hHeld
  go_wp2
  refine bodyPost_ret (v := .tuple #[.slice B m d, .agg (opv ⟨A0', n0, c0', A1', n1, c1', A2'', n2', c2'', A3', n3, c3'⟩ (gon a n0 xs (erS ⟨kind, addr, err, aad, used, phase, shard, sought, (lf : Int), (bt : Int), word, full, at_, tries, item, stamp⟩ 6))), .bool true]) ?_ rfl ?_
  · exact results_tct (fn := Try.f27) Try.results27 _ _ gR _ _ (0, 0) _ rfl (L.bk_ 0 rfl) Try.underlying42 rfl op_sz
  exact ⟨_, _, _, _, _, _, _, _, _, _, _, _, _, _, rfl, hU.below L.K, (L.lists_at 0 rfl).lower_ KZ, fun k _ h => h, ((((L.del 0).del 0).del 0).only (fun f h => by cases h))⟩
end
end Go.Proofs.Ytafdlofmgefdoaa
