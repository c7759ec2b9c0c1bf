/-
  What drop.Step answers of an operation that reads, or drops. Conditions: a block that may be, an operation whose leaf and bit there are.
-/
import Derived.Test.YtafdlofmgefdoaaDropDrop
namespace Go.Proofs.Ytafdlofmgefdoaa
open Go.RowKit
set_option linter.unusedVariables false
theorem gives_yes {k : Int} (hk : k = 3 ∨ k = 4) (w : World) :
    Calls Try.prog 25 #[.int .i64 k] w fun e w' => e = .returned (.bool true) ∧ w = w' := by
  rcases hk with rfl | rfl
  · go_enter Try.func25, Try.ntmps25
    go_wp2
    go_ret
    exact ⟨rfl, rfl⟩
  · go_enter Try.func25, Try.ntmps25
    go_wp2
    go_ret
    exact ⟨rfl, rfl⟩
section
variable {w w1 : World} {lo lo2 a M m d lf bt : Nat} {p sh wo qu tr : Int} {A B : Option Addr} {n c : Nat} {xs : List Int} {ys : List Nat} {h : Hd} {s : Sc} {l : Ls}
set_option maxRecDepth 100000 in
set_option maxHeartbeats 2000000 in
theorem dstep_used (hL : Lists lo w h l) (ha : a < 4294967296) (hM : Much a p M) (hI : IS .u32 lo2 w h.A0 h.n0 h.c0 xs) (hn : h.n0 ≤ 65536) (hin : InB a M h.n0 xs) (h1 : h.n1 ≤ 65536) (h2 : h.n2 ≤ 65000) (h3 : h.n3 ≤ 65536) (hU : US w B m d ys) (hlf : s.leaf = (lf : Int)) (hlm : lf < m) (hbt : s.bit = (bt : Int)) (hb5 : bt < 32) (hk : s.kind = 3 ∨ s.kind = 4) (hph : s.phase = 8) (hb : (gt ys lf).testBit bt = true) :
    Calls Try.prog 10 #[.agg #[.int .u32 (a : Int), .int .i64 p, .slice A n c, .int .i64 sh, .int .i64 wo, .int .i64 qu, .int .i64 tr], .slice B m d, .agg (opv h s)] w (RetStp w.heap.size h.n0 (useS s (gt ys lf)) l m ys false B w) := by
  have TOwn := fun w (L : Lists lo w h l) => Lib.hid (own_row (s := s) L hn h1 (by omega) h3)
  have hm0 : 0 < m := by omega
  have hx := hL.i0.uniq hI
  have TK := fun w1 gPR gPO gPH lo A0 c0 A1 c1 A2 c2 A3 c3 (L : Loc w w1 [(gPR, 42, opv hd0 sc0), (gPO, 42, opv ⟨A0, h.n0, c0, A1, h.n1, c1, A2, h.n2, c2, A3, h.n3, c3⟩ s), (gPH, 27, #[.int .u32 (a : Int), .int .i64 p, .slice A n c, .int .i64 sh, .int .i64 wo, .int .i64 qu, .int .i64 tr])] [rF .i64 36 lo A2 h.n2 c2 l.ers, iF .u32 lo A0 h.n0 c0 l.rqs, iF .u32 lo A1 h.n1 c1 l.ads, iF .u64 lo A3 h.n3 c3 l.ses, zF lo]) (hs0 : SepF (.slice A2 h.n2 c2) (iF .u32 lo A0 h.n0 c0 l.rqs)) (hs1 : SepF (.slice A2 h.n2 c2) (iF .u32 lo A1 h.n1 c1 l.ads)) (hs3 : SepF (.slice A2 h.n2 c2) (iF .u64 lo A3 h.n3 c3 l.ses)) (hlo : w.heap.size ≤ lo) => Lib.hid (read_used (h := ⟨A0, h.n0, c0, A1, h.n1, c1, A2, h.n2, c2, A3, h.n3, c3⟩) (s := s) L hs0 hs1 hs3 hlo ha hM hx hn hin h1 h2 h3 hU hlf hlm hbt hb5 hb)
  clear hx
  rcases s with ⟨kind, addr, err, aad, used, phase, shard, sought, leaf, bit, word, full, at_, tries, item, stamp⟩
  rcases h with ⟨A0, n0, c0, A1, n1, c1, A2, n2, c2, A3, n3, c3⟩
  try dsimp only at *
  subst hph hlf hbt
  go_enter Try.func10, Try.ntmps10
  go_upto_region 1 with (fail)
  have L := Loc.start w
  replace L := (((L).alloc #[.int .u32 (a : Int), .int .i64 p, .slice A n c, .int .i64 sh, .int .i64 wo, .int .i64 qu, .int .i64 tr] 27).alloc (opv ⟨A0, n0, c0, A1, n1, c1, A2, n2, c2, A3, n3, c3⟩ ⟨kind, addr, err, aad, used, 8, shard, sought, (lf : Int), (bt : Int), word, full, at_, tries, item, stamp⟩) 42).alloc #[.int .i64 0, .int .u32 0, .slice none 0 0, .int .i64 0, .int .u32 0, .bool false, .slice none 0 0, .slice none 0 0, .int .i64 0, .int .i64 0, .int .i64 0, .int .i64 0, .int .i64 0, .int .u64 0, .bool false, .slice none 0 0, .int .i64 0, .int .i64 0, .int .i64 0, .int .i64 0] 42
  try simp only [World.size_alloc] at L
  replace L := L.is 0 (opv hd0 sc0) rfl
  try dsimp only [nput] at L
  generalize (((w).alloc (.cells #[.int .u32 (a : Int), .int .i64 p, .slice A n c, .int .i64 sh, .int .i64 wo, .int .i64 qu, .int .i64 tr] 27)).alloc (.cells (opv ⟨A0, n0, c0, A1, n1, c1, A2, n2, c2, A3, n3, c3⟩ ⟨kind, addr, err, aad, used, 8, shard, sought, (lf : Int), (bt : Int), word, full, at_, tries, item, stamp⟩) 42)).alloc (.cells #[.int .i64 0, .int .u32 0, .slice none 0 0, .int .i64 0, .int .u32 0, .bool false, .slice none 0 0, .slice none 0 0, .int .i64 0, .int .i64 0, .int .i64 0, .int .i64 0, .int .i64 0, .int .u64 0, .bool false, .slice none 0 0, .int .i64 0, .int .i64 0, .int .i64 0, .int .i64 0] 42) = w1 at L ⊢
  generalize w.heap.size + 1 + 1 = gR at L ⊢
  generalize w.heap.size + 1 = gO at L ⊢
  generalize w.heap.size = gH at L ⊢
  go_wp2_with (refine wpList_load_row rfl 42 (.tmp 5) rfl gO rfl _ _ (0, 0) _ (L.bk_ 1 rfl) Try.underlying42 rfl op_sz ?_)
  have KS := L.K.size
  have LbO := L.gs
  refine ((TOwn _ (hL.below L.K)).out).mono ?_
  rintro e w2 ⟨A0', c0', A1', c1', A2', c2', A3', c3', rfl, I0, I1, R2, I3, hs0, hs1, hs3, K'⟩
  have Lb := L.lts
  replace L := L.over K'
  replace L := L.sz K'.size
  replace L := L.is_new Lb I3
  replace L := L.is_new Lb I1
  replace L := L.is_new Lb I0
  replace L := L.ri_new Lb R2
  clear Lb
  try dsimp only [lF, List.cons_append, List.nil_append] at L
  clear I0 I1 R2 I3
  go_upto_region 2 with (refine wpList_store_row rfl 42 (.tmp 5) (.tmp 11) rfl gO _ rfl rfl _ _ (L.bk_ 1 rfl) op_sz rfl (opv_one _ _) ?_)
  replace L := (L.row 1 rfl (opv ⟨A0', n0, c0', A1', n1, c1', A2', n2, c2', A3', n3, c3'⟩ ⟨kind, addr, err, aad, used, 8, shard, sought, (lf : Int), (bt : Int), word, full, at_, tries, item, stamp⟩))
  try dsimp only [nput] at L
  generalize (w2).setRow gO (opv ⟨A0', n0, c0', A1', n1, c1', A2', n2, c2', A3', n3, c3'⟩ ⟨kind, addr, err, aad, used, 8, shard, sought, (lf : Int), (bt : Int), word, full, at_, tries, item, stamp⟩) = w3 at L ⊢
  have O_0 := L.at_ 1 0 rfl (v := .int .i64 kind) rfl
  have O_z := L.lt 1 rfl
  go_wp2_with fail
  refine (gives_yes hk _).mono ?_
  rintro e w' ⟨rfl, rfl⟩
  clear O_0 O_z
  have O_8 := L.at_ 1 8 rfl (v := .int .i64 8) rfl
  have O_z := L.lt 1 rfl
  go_wp2_with (first | (refine wpList_load_row rfl 27 (.tmp 3) rfl gH rfl _ _ (0, 0) _ (L.bk_ 2 rfl) Try.underlying27 rfl cf_sz ?_) | (refine wpList_load_row rfl 42 (.tmp 5) rfl gO rfl _ _ (0, 0) _ (L.bk_ 1 rfl) Try.underlying42 rfl op_sz ?_))
  have KS2 := L.K.size
  have LbC := L.gs
  refine ((TK _ _ _ _ _ _ _ _ _ _ _ _ _ L hs0 hs1 hs3 KS).out).mono ?_
  rintro e w4 ⟨A0'', c0'', A1'', n1'', c1'', A2'', n2'', c2'', A3'', n3'', c3'', B'', d'', zO, rfl, U, L', hA, LN⟩
  clear O_8 O_z
  replace L := LN.us_new LbC hA hU hm0 U
  replace L := L.lists' LbO L'
  try dsimp only [lF, List.cons_append, List.nil_append] at L
  clear LN U L' LbC
  go_wp2_with (refine wpList_store_row rfl 42 (.tmp 7) (.tmp 30) rfl gR _ rfl rfl _ _ (L.bk_ 0 rfl) op_sz rfl (opv_one _ _) ?_)
  replace L := (L.row 0 rfl (opv ⟨A0'', n0, c0'', A1'', n1'', c1'', A2'', n2'', c2'', A3'', n3'', c3''⟩ ((useS ⟨kind, addr, err, aad, used, 8, shard, sought, (lf : Int), (bt : Int), word, full, at_, tries, item, stamp⟩ (gt ys lf)))))
  try dsimp only [nput] at L
  generalize (w4).setRow gR (opv ⟨A0'', n0, c0'', A1'', n1'', c1'', A2'', n2'', c2'', A3'', n3'', c3''⟩ ((useS ⟨kind, addr, err, aad, used, 8, shard, sought, (lf : Int), (bt : Int), word, full, at_, tries, item, stamp⟩ (gt ys lf)))) = w5 at L ⊢
  refine bodyPost_ret (v := .tuple #[.slice B'' m d'', .agg (opv ⟨A0'', n0, c0'', A1'', n1'', c1'', A2'', n2'', c2'', A3'', n3'', c3''⟩ ((useS ⟨kind, addr, err, aad, used, 8, shard, sought, (lf : Int), (bt : Int), word, full, at_, tries, item, stamp⟩ (gt ys lf)))), .bool false]) ?_ rfl ?_
  · exact results_tct (fn := Try.f10) Try.results10 _ _ gR _ _ (0, 0) _ rfl (L.bk_ 0 rfl) Try.underlying42 rfl op_sz
  exact ⟨_, _, _, _, _, _, _, _, _, _, _, _, _, rfl, L.us_ 4 rfl, (L.lists_at 0 rfl).lower_ KS, fun k hk => hA k (Nat.lt_of_lt_of_le hk KS2), L.K⟩
set_option maxRecDepth 100000 in
set_option maxHeartbeats 2000000 in
theorem dstep_free (hL : Lists lo w h l) (ha : a < 4294967296) (hM : Much a p M) (hI : IS .u32 lo2 w h.A0 h.n0 h.c0 xs) (hn : h.n0 ≤ 65536) (hin : InB a M h.n0 xs) (h1 : h.n1 ≤ 65536) (h2 : h.n2 ≤ 65000) (h3 : h.n3 ≤ 65536) (hU : US w B m d ys) (hlf : s.leaf = (lf : Int)) (hlm : lf < m) (hbt : s.bit = (bt : Int)) (hb5 : bt < 32) (hk : s.kind = 3 ∨ s.kind = 4) (hph : s.phase = 8) (hb : (gt ys lf).testBit bt = false) :
    Calls Try.prog 10 #[.agg #[.int .u32 (a : Int), .int .i64 p, .slice A n c, .int .i64 sh, .int .i64 wo, .int .i64 qu, .int .i64 tr], .slice B m d, .agg (opv h s)] w (RetStp w.heap.size h.n0 (freeS a h.n0 xs s) (erL s l 6) m ys true B w) := by
  have TOwn := fun w (L : Lists lo w h l) => Lib.hid (own_row (s := s) L hn h1 (by omega) h3)
  have hm0 : 0 < m := by omega
  have hx := hL.i0.uniq hI
  have TK := fun w1 gPR gPO gPH lo A0 c0 A1 c1 A2 c2 A3 c3 (L : Loc w w1 [(gPR, 42, opv hd0 sc0), (gPO, 42, opv ⟨A0, h.n0, c0, A1, h.n1, c1, A2, h.n2, c2, A3, h.n3, c3⟩ s), (gPH, 27, #[.int .u32 (a : Int), .int .i64 p, .slice A n c, .int .i64 sh, .int .i64 wo, .int .i64 qu, .int .i64 tr])] [rF .i64 36 lo A2 h.n2 c2 l.ers, iF .u32 lo A0 h.n0 c0 l.rqs, iF .u32 lo A1 h.n1 c1 l.ads, iF .u64 lo A3 h.n3 c3 l.ses, zF lo]) (hs0 : SepF (.slice A2 h.n2 c2) (iF .u32 lo A0 h.n0 c0 l.rqs)) (hs1 : SepF (.slice A2 h.n2 c2) (iF .u32 lo A1 h.n1 c1 l.ads)) (hs3 : SepF (.slice A2 h.n2 c2) (iF .u64 lo A3 h.n3 c3 l.ses)) (hlo : w.heap.size ≤ lo) => Lib.hid (read_free (h := ⟨A0, h.n0, c0, A1, h.n1, c1, A2, h.n2, c2, A3, h.n3, c3⟩) (s := s) L hs0 hs1 hs3 hlo ha hM hx hn hin h1 h2 h3 hU hlf hlm hbt hb5 hb)
  clear hx
  rcases s with ⟨kind, addr, err, aad, used, phase, shard, sought, leaf, bit, word, full, at_, tries, item, stamp⟩
  rcases h with ⟨A0, n0, c0, A1, n1, c1, A2, n2, c2, A3, n3, c3⟩
  try dsimp only at *
  subst hph hlf hbt
  go_enter Try.func10, Try.ntmps10
  go_upto_region 1 with (fail)
  have L := Loc.start w
  replace L := (((L).alloc #[.int .u32 (a : Int), .int .i64 p, .slice A n c, .int .i64 sh, .int .i64 wo, .int .i64 qu, .int .i64 tr] 27).alloc (opv ⟨A0, n0, c0, A1, n1, c1, A2, n2, c2, A3, n3, c3⟩ ⟨kind, addr, err, aad, used, 8, shard, sought, (lf : Int), (bt : Int), word, full, at_, tries, item, stamp⟩) 42).alloc #[.int .i64 0, .int .u32 0, .slice none 0 0, .int .i64 0, .int .u32 0, .bool false, .slice none 0 0, .slice none 0 0, .int .i64 0, .int .i64 0, .int .i64 0, .int .i64 0, .int .i64 0, .int .u64 0, .bool false, .slice none 0 0, .int .i64 0, .int .i64 0, .int .i64 0, .int .i64 0] 42
  try simp only [World.size_alloc] at L
  replace L := L.is 0 (opv hd0 sc0) rfl
  try dsimp only [nput] at L
  generalize (((w).alloc (.cells #[.int .u32 (a : Int), .int .i64 p, .slice A n c, .int .i64 sh, .int .i64 wo, .int .i64 qu, .int .i64 tr] 27)).alloc (.cells (opv ⟨A0, n0, c0, A1, n1, c1, A2, n2, c2, A3, n3, c3⟩ ⟨kind, addr, err, aad, used, 8, shard, sought, (lf : Int), (bt : Int), word, full, at_, tries, item, stamp⟩) 42)).alloc (.cells #[.int .i64 0, .int .u32 0, .slice none 0 0, .int .i64 0, .int .u32 0, .bool false, .slice none 0 0, .slice none 0 0, .int .i64 0, .int .i64 0, .int .i64 0, .int .i64 0, .int .i64 0, .int .u64 0, .bool false, .slice none 0 0, .int .i64 0, .int .i64 0, .int .i64 0, .int .i64 0] 42) = w1 at L ⊢
  generalize w.heap.size + 1 + 1 = gR at L ⊢
  generalize w.heap.size + 1 = gO at L ⊢
  generalize w.heap.size = gH at L ⊢
  go_wp2_with (refine wpList_load_row rfl 42 (.tmp 5) rfl gO rfl _ _ (0, 0) _ (L.bk_ 1 rfl) Try.underlying42 rfl op_sz ?_)
  have KS := L.K.size
  have LbO := L.gs
  refine ((TOwn _ (hL.below L.K)).out).mono ?_
  rintro e w2 ⟨A0', c0', A1', c1', A2', c2', A3', c3', rfl, I0, I1, R2, I3, hs0, hs1, hs3, K'⟩
  have Lb := L.lts
  replace L := L.over K'
  replace L := L.sz K'.size
  replace L := L.is_new Lb I3
  replace L := L.is_new Lb I1
  replace L := L.is_new Lb I0
  replace L := L.ri_new Lb R2
  clear Lb
  try dsimp only [lF, List.cons_append, List.nil_append] at L
  clear I0 I1 R2 I3
  go_upto_region 2 with (refine wpList_store_row rfl 42 (.tmp 5) (.tmp 11) rfl gO _ rfl rfl _ _ (L.bk_ 1 rfl) op_sz rfl (opv_one _ _) ?_)
  replace L := (L.row 1 rfl (opv ⟨A0', n0, c0', A1', n1, c1', A2', n2, c2', A3', n3, c3'⟩ ⟨kind, addr, err, aad, used, 8, shard, sought, (lf : Int), (bt : Int), word, full, at_, tries, item, stamp⟩))
  try dsimp only [nput] at L
  generalize (w2).setRow gO (opv ⟨A0', n0, c0', A1', n1, c1', A2', n2, c2', A3', n3, c3'⟩ ⟨kind, addr, err, aad, used, 8, shard, sought, (lf : Int), (bt : Int), word, full, at_, tries, item, stamp⟩) = w3 at L ⊢
  have O_0 := L.at_ 1 0 rfl (v := .int .i64 kind) rfl
  have O_z := L.lt 1 rfl
  go_wp2_with fail
  refine (gives_yes hk _).mono ?_
  rintro e w' ⟨rfl, rfl⟩
  clear O_0 O_z
  have O_8 := L.at_ 1 8 rfl (v := .int .i64 8) rfl
  have O_z := L.lt 1 rfl
  go_wp2_with (first | (refine wpList_load_row rfl 27 (.tmp 3) rfl gH rfl _ _ (0, 0) _ (L.bk_ 2 rfl) Try.underlying27 rfl cf_sz ?_) | (refine wpList_load_row rfl 42 (.tmp 5) rfl gO rfl _ _ (0, 0) _ (L.bk_ 1 rfl) Try.underlying42 rfl op_sz ?_))
  have KS2 := L.K.size
  have LbC := L.gs
  refine ((TK _ _ _ _ _ _ _ _ _ _ _ _ _ L hs0 hs1 hs3 KS).out).mono ?_
  rintro e w4 ⟨A0'', c0'', A1'', n1'', c1'', A2'', n2'', c2'', A3'', n3'', c3'', B'', d'', zO, rfl, U, L', hA, LN⟩
  clear O_8 O_z
  replace L := LN.us_new LbC hA hU hm0 U
  replace L := L.lists' LbO L'
  try dsimp only [lF, List.cons_append, List.nil_append] at L
  clear LN U L' LbC
  go_wp2_with (refine wpList_store_row rfl 42 (.tmp 7) (.tmp 30) rfl gR _ rfl rfl _ _ (L.bk_ 0 rfl) op_sz rfl (opv_one _ _) ?_)
  replace L := (L.row 0 rfl (opv ⟨A0'', n0, c0'', A1'', n1'', c1'', A2'', n2'', c2'', A3'', n3'', c3''⟩ ((freeS a n0 xs ⟨kind, addr, err, aad, used, 8, shard, sought, (lf : Int), (bt : Int), word, full, at_, tries, item, stamp⟩))))
  try dsimp only [nput] at L
  generalize (w4).setRow gR (opv ⟨A0'', n0, c0'', A1'', n1'', c1'', A2'', n2'', c2'', A3'', n3'', c3''⟩ ((freeS a n0 xs ⟨kind, addr, err, aad, used, 8, shard, sought, (lf : Int), (bt : Int), word, full, at_, tries, item, stamp⟩))) = w5 at L ⊢
  refine bodyPost_ret (v := .tuple #[.slice B'' m d'', .agg (opv ⟨A0'', n0, c0'', A1'', n1'', c1'', A2'', n2'', c2'', A3'', n3'', c3''⟩ ((freeS a n0 xs ⟨kind, addr, err, aad, used, 8, shard, sought, (lf : Int), (bt : Int), word, full, at_, tries, item, stamp⟩))), .bool true]) ?_ rfl ?_
  · exact results_tct (fn := Try.f10) Try.results10 _ _ gR _ _ (0, 0) _ rfl (L.bk_ 0 rfl) Try.underlying42 rfl op_sz
  exact ⟨_, _, _, _, _, _, _, _, _, _, _, _, _, rfl, L.us_ 4 rfl, (L.lists_at 0 rfl).lower_ KS, fun k hk => hA k (Nat.lt_of_lt_of_le hk KS2), L.K⟩
set_option maxRecDepth 100000 in
set_option maxHeartbeats 2000000 in
theorem dstep_miss (hL : Lists lo w h l) (ha : a < 4294967296) (hM : Much a p M) (hI : IS .u32 lo2 w h.A0 h.n0 h.c0 xs) (hn : h.n0 ≤ 65536) (hin : InB a M h.n0 xs) (h1 : h.n1 ≤ 65536) (h2 : h.n2 ≤ 65000) (h3 : h.n3 ≤ 65536) (hU : US w B m d ys) (hlf : s.leaf = (lf : Int)) (hlm : lf < m) (hbt : s.bit = (bt : Int)) (hb5 : bt < 32) (hk : s.kind = 3 ∨ s.kind = 4) (hph : s.phase = 9) (hm : m ≤ 65536) (hw : s.word < 18446744073709551616) (hne : gt ys lf ≠ s.word) :
    Calls Try.prog 10 #[.agg #[.int .u32 (a : Int), .int .i64 p, .slice A n c, .int .i64 sh, .int .i64 wo, .int .i64 qu, .int .i64 tr], .slice B m d, .agg (opv h s)] w (RetStp w.heap.size h.n0 (rdS s) l m ys false B w) := by
  have TOwn := fun w (L : Lists lo w h l) => Lib.hid (own_row (s := s) L hn h1 (by omega) h3)
  have hm0 : 0 < m := by omega
  have hx := hL.i0.uniq hI
  have TK := fun w1 gPR gPO gPH lo A0 c0 A1 c1 A2 c2 A3 c3 (L : Loc w w1 [(gPR, 42, opv hd0 sc0), (gPO, 42, opv ⟨A0, h.n0, c0, A1, h.n1, c1, A2, h.n2, c2, A3, h.n3, c3⟩ s), (gPH, 27, #[.int .u32 (a : Int), .int .i64 p, .slice A n c, .int .i64 sh, .int .i64 wo, .int .i64 qu, .int .i64 tr])] [rF .i64 36 lo A2 h.n2 c2 l.ers, iF .u32 lo A0 h.n0 c0 l.rqs, iF .u32 lo A1 h.n1 c1 l.ads, iF .u64 lo A3 h.n3 c3 l.ses, zF lo]) (hs0 : SepF (.slice A2 h.n2 c2) (iF .u32 lo A0 h.n0 c0 l.rqs)) (hs1 : SepF (.slice A2 h.n2 c2) (iF .u32 lo A1 h.n1 c1 l.ads)) (hs3 : SepF (.slice A2 h.n2 c2) (iF .u64 lo A3 h.n3 c3 l.ses)) (hlo : w.heap.size ≤ lo) => Lib.hid (drop_not (h := ⟨A0, h.n0, c0, A1, h.n1, c1, A2, h.n2, c2, A3, h.n3, c3⟩) (s := s) L hs0 hs1 hs3 hlo ha hM hx hn hin h1 h2 h3 hU hlf hlm hbt hb5 hm hw hne)
  clear hx
  rcases s with ⟨kind, addr, err, aad, used, phase, shard, sought, leaf, bit, word, full, at_, tries, item, stamp⟩
  rcases h with ⟨A0, n0, c0, A1, n1, c1, A2, n2, c2, A3, n3, c3⟩
  try dsimp only at *
  subst hph hlf hbt
  go_enter Try.func10, Try.ntmps10
  go_upto_region 1 with (fail)
  have L := Loc.start w
  replace L := (((L).alloc #[.int .u32 (a : Int), .int .i64 p, .slice A n c, .int .i64 sh, .int .i64 wo, .int .i64 qu, .int .i64 tr] 27).alloc (opv ⟨A0, n0, c0, A1, n1, c1, A2, n2, c2, A3, n3, c3⟩ ⟨kind, addr, err, aad, used, 9, shard, sought, (lf : Int), (bt : Int), word, full, at_, tries, item, stamp⟩) 42).alloc #[.int .i64 0, .int .u32 0, .slice none 0 0, .int .i64 0, .int .u32 0, .bool false, .slice none 0 0, .slice none 0 0, .int .i64 0, .int .i64 0, .int .i64 0, .int .i64 0, .int .i64 0, .int .u64 0, .bool false, .slice none 0 0, .int .i64 0, .int .i64 0, .int .i64 0, .int .i64 0] 42
  try simp only [World.size_alloc] at L
  replace L := L.is 0 (opv hd0 sc0) rfl
  try dsimp only [nput] at L
  generalize (((w).alloc (.cells #[.int .u32 (a : Int), .int .i64 p, .slice A n c, .int .i64 sh, .int .i64 wo, .int .i64 qu, .int .i64 tr] 27)).alloc (.cells (opv ⟨A0, n0, c0, A1, n1, c1, A2, n2, c2, A3, n3, c3⟩ ⟨kind, addr, err, aad, used, 9, shard, sought, (lf : Int), (bt : Int), word, full, at_, tries, item, stamp⟩) 42)).alloc (.cells #[.int .i64 0, .int .u32 0, .slice none 0 0, .int .i64 0, .int .u32 0, .bool false, .slice none 0 0, .slice none 0 0, .int .i64 0, .int .i64 0, .int .i64 0, .int .i64 0, .int .i64 0, .int .u64 0, .bool false, .slice none 0 0, .int .i64 0, .int .i64 0, .int .i64 0, .int .i64 0] 42) = w1 at L ⊢
  generalize w.heap.size + 1 + 1 = gR at L ⊢
  generalize w.heap.size + 1 = gO at L ⊢
  generalize w.heap.size = gH at L ⊢
  go_wp2_with (refine wpList_load_row rfl 42 (.tmp 5) rfl gO rfl _ _ (0, 0) _ (L.bk_ 1 rfl) Try.underlying42 rfl op_sz ?_)
  have KS := L.K.size
  have LbO := L.gs
  refine ((TOwn _ (hL.below L.K)).out).mono ?_
  rintro e w2 ⟨A0', c0', A1', c1', A2', c2', A3', c3', rfl, I0, I1, R2, I3, hs0, hs1, hs3, K'⟩
  have Lb := L.lts
  replace L := L.over K'
  replace L := L.sz K'.size
  replace L := L.is_new Lb I3
  replace L := L.is_new Lb I1
  replace L := L.is_new Lb I0
  replace L := L.ri_new Lb R2
  clear Lb
  try dsimp only [lF, List.cons_append, List.nil_append] at L
  clear I0 I1 R2 I3
  go_upto_region 2 with (refine wpList_store_row rfl 42 (.tmp 5) (.tmp 11) rfl gO _ rfl rfl _ _ (L.bk_ 1 rfl) op_sz rfl (opv_one _ _) ?_)
  replace L := (L.row 1 rfl (opv ⟨A0', n0, c0', A1', n1, c1', A2', n2, c2', A3', n3, c3'⟩ ⟨kind, addr, err, aad, used, 9, shard, sought, (lf : Int), (bt : Int), word, full, at_, tries, item, stamp⟩))
  try dsimp only [nput] at L
  generalize (w2).setRow gO (opv ⟨A0', n0, c0', A1', n1, c1', A2', n2, c2', A3', n3, c3'⟩ ⟨kind, addr, err, aad, used, 9, shard, sought, (lf : Int), (bt : Int), word, full, at_, tries, item, stamp⟩) = w3 at L ⊢
  have O_0 := L.at_ 1 0 rfl (v := .int .i64 kind) rfl
  have O_z := L.lt 1 rfl
  go_wp2_with fail
  refine (gives_yes hk _).mono ?_
  rintro e w' ⟨rfl, rfl⟩
  clear O_0 O_z
  have O_8 := L.at_ 1 8 rfl (v := .int .i64 9) rfl
  have O_z := L.lt 1 rfl
  go_wp2_with (first | (refine wpList_load_row rfl 27 (.tmp 3) rfl gH rfl _ _ (0, 0) _ (L.bk_ 2 rfl) Try.underlying27 rfl cf_sz ?_) | (refine wpList_load_row rfl 42 (.tmp 5) rfl gO rfl _ _ (0, 0) _ (L.bk_ 1 rfl) Try.underlying42 rfl op_sz ?_))
  have KS2 := L.K.size
  have LbC := L.gs
  refine ((TK _ _ _ _ _ _ _ _ _ _ _ _ _ L hs0 hs1 hs3 KS).out).mono ?_
  rintro e w4 ⟨A0'', c0'', A1'', n1'', c1'', A2'', n2'', c2'', A3'', n3'', c3'', B'', d'', zO, rfl, U, L', hA, LN⟩
  clear O_8 O_z
  replace L := LN.us_new LbC hA hU hm0 U
  replace L := L.lists' LbO L'
  try dsimp only [lF, List.cons_append, List.nil_append] at L
  clear LN U L' LbC
  go_wp2_with (refine wpList_store_row rfl 42 (.tmp 7) (.tmp 40) rfl gR _ rfl rfl _ _ (L.bk_ 0 rfl) op_sz rfl (opv_one _ _) ?_)
  replace L := (L.row 0 rfl (opv ⟨A0'', n0, c0'', A1'', n1'', c1'', A2'', n2'', c2'', A3'', n3'', c3''⟩ ((rdS ⟨kind, addr, err, aad, used, 9, shard, sought, (lf : Int), (bt : Int), word, full, at_, tries, item, stamp⟩))))
  try dsimp only [nput] at L
  generalize (w4).setRow gR (opv ⟨A0'', n0, c0'', A1'', n1'', c1'', A2'', n2'', c2'', A3'', n3'', c3''⟩ ((rdS ⟨kind, addr, err, aad, used, 9, shard, sought, (lf : Int), (bt : Int), word, full, at_, tries, item, stamp⟩))) = w5 at L ⊢
  refine bodyPost_ret (v := .tuple #[.slice B'' m d'', .agg (opv ⟨A0'', n0, c0'', A1'', n1'', c1'', A2'', n2'', c2'', A3'', n3'', c3''⟩ ((rdS ⟨kind, addr, err, aad, used, 9, shard, sought, (lf : Int), (bt : Int), word, full, at_, tries, item, stamp⟩))), .bool false]) ?_ rfl ?_
  · exact results_tct (fn := Try.f10) Try.results10 _ _ gR _ _ (0, 0) _ rfl (L.bk_ 0 rfl) Try.underlying42 rfl op_sz
  exact ⟨_, _, _, _, _, _, _, _, _, _, _, _, _, rfl, L.us_ 4 rfl, (L.lists_at 0 rfl).lower_ KS, fun k hk => hA k (Nat.lt_of_lt_of_le hk KS2), L.K⟩
set_option maxRecDepth 100000 in
set_option maxHeartbeats 2000000 in
theorem dstep_hit (hL : Lists lo w h l) (ha : a < 4294967296) (hM : Much a p M) (hI : IS .u32 lo2 w h.A0 h.n0 h.c0 xs) (hn : h.n0 ≤ 65536) (hin : InB a M h.n0 xs) (h1 : h.n1 ≤ 65536) (h2 : h.n2 ≤ 65000) (h3 : h.n3 ≤ 65536) (hU : US w B m d ys) (hlf : s.leaf = (lf : Int)) (hlm : lf < m) (hbt : s.bit = (bt : Int)) (hb5 : bt < 32) (hk : s.kind = 3 ∨ s.kind = 4) (hph : s.phase = 9) (hm : m ≤ 65536) (hw : s.word < 18446744073709551616) (heq : gt ys lf = s.word) :
    Calls Try.prog 10 #[.agg #[.int .u32 (a : Int), .int .i64 p, .slice A n c, .int .i64 sh, .int .i64 wo, .int .i64 qu, .int .i64 tr], .slice B m d, .agg (opv h s)] w (RetStp w.heap.size h.n0 (hitS a h.n0 xs s) (erL s l 0) m (ys.set lf (drp s.word bt)) true B w) := by
  have TOwn := fun w (L : Lists lo w h l) => Lib.hid (own_row (s := s) L hn h1 (by omega) h3)
  have hm0 : 0 < m := by omega
  have hx := hL.i0.uniq hI
  have TK := fun w1 gPR gPO gPH lo A0 c0 A1 c1 A2 c2 A3 c3 (L : Loc w w1 [(gPR, 42, opv hd0 sc0), (gPO, 42, opv ⟨A0, h.n0, c0, A1, h.n1, c1, A2, h.n2, c2, A3, h.n3, c3⟩ s), (gPH, 27, #[.int .u32 (a : Int), .int .i64 p, .slice A n c, .int .i64 sh, .int .i64 wo, .int .i64 qu, .int .i64 tr])] [rF .i64 36 lo A2 h.n2 c2 l.ers, iF .u32 lo A0 h.n0 c0 l.rqs, iF .u32 lo A1 h.n1 c1 l.ads, iF .u64 lo A3 h.n3 c3 l.ses, zF lo]) (hs0 : SepF (.slice A2 h.n2 c2) (iF .u32 lo A0 h.n0 c0 l.rqs)) (hs1 : SepF (.slice A2 h.n2 c2) (iF .u32 lo A1 h.n1 c1 l.ads)) (hs3 : SepF (.slice A2 h.n2 c2) (iF .u64 lo A3 h.n3 c3 l.ses)) (hlo : w.heap.size ≤ lo) => Lib.hid (drop_hit (h := ⟨A0, h.n0, c0, A1, h.n1, c1, A2, h.n2, c2, A3, h.n3, c3⟩) (s := s) L hs0 hs1 hs3 hlo ha hM hx hn hin h1 h2 h3 hU hlf hlm hbt hb5 hm hw heq)
  clear hx
  rcases s with ⟨kind, addr, err, aad, used, phase, shard, sought, leaf, bit, word, full, at_, tries, item, stamp⟩
  rcases h with ⟨A0, n0, c0, A1, n1, c1, A2, n2, c2, A3, n3, c3⟩
  try dsimp only at *
  subst hph hlf hbt
  go_enter Try.func10, Try.ntmps10
  go_upto_region 1 with (fail)
  have L := Loc.start w
  replace L := (((L).alloc #[.int .u32 (a : Int), .int .i64 p, .slice A n c, .int .i64 sh, .int .i64 wo, .int .i64 qu, .int .i64 tr] 27).alloc (opv ⟨A0, n0, c0, A1, n1, c1, A2, n2, c2, A3, n3, c3⟩ ⟨kind, addr, err, aad, used, 9, shard, sought, (lf : Int), (bt : Int), word, full, at_, tries, item, stamp⟩) 42).alloc #[.int .i64 0, .int .u32 0, .slice none 0 0, .int .i64 0, .int .u32 0, .bool false, .slice none 0 0, .slice none 0 0, .int .i64 0, .int .i64 0, .int .i64 0, .int .i64 0, .int .i64 0, .int .u64 0, .bool false, .slice none 0 0, .int .i64 0, .int .i64 0, .int .i64 0, .int .i64 0] 42
  try simp only [World.size_alloc] at L
  replace L := L.is 0 (opv hd0 sc0) rfl
  try dsimp only [nput] at L
  generalize (((w).alloc (.cells #[.int .u32 (a : Int), .int .i64 p, .slice A n c, .int .i64 sh, .int .i64 wo, .int .i64 qu, .int .i64 tr] 27)).alloc (.cells (opv ⟨A0, n0, c0, A1, n1, c1, A2, n2, c2, A3, n3, c3⟩ ⟨kind, addr, err, aad, used, 9, shard, sought, (lf : Int), (bt : Int), word, full, at_, tries, item, stamp⟩) 42)).alloc (.cells #[.int .i64 0, .int .u32 0, .slice none 0 0, .int .i64 0, .int .u32 0, .bool false, .slice none 0 0, .slice none 0 0, .int .i64 0, .int .i64 0, .int .i64 0, .int .i64 0, .int .i64 0, .int .u64 0, .bool false, .slice none 0 0, .int .i64 0, .int .i64 0, .int .i64 0, .int .i64 0] 42) = w1 at L ⊢
  generalize w.heap.size + 1 + 1 = gR at L ⊢
  generalize w.heap.size + 1 = gO at L ⊢
  generalize w.heap.size = gH at L ⊢
  go_wp2_with (refine wpList_load_row rfl 42 (.tmp 5) rfl gO rfl _ _ (0, 0) _ (L.bk_ 1 rfl) Try.underlying42 rfl op_sz ?_)
  have KS := L.K.size
  have LbO := L.gs
  refine ((TOwn _ (hL.below L.K)).out).mono ?_
  rintro e w2 ⟨A0', c0', A1', c1', A2', c2', A3', c3', rfl, I0, I1, R2, I3, hs0, hs1, hs3, K'⟩
  have Lb := L.lts
  replace L := L.over K'
  replace L := L.sz K'.size
  replace L := L.is_new Lb I3
  replace L := L.is_new Lb I1
  replace L := L.is_new Lb I0
  replace L := L.ri_new Lb R2
  clear Lb
  try dsimp only [lF, List.cons_append, List.nil_append] at L
  clear I0 I1 R2 I3
  go_upto_region 2 with (refine wpList_store_row rfl 42 (.tmp 5) (.tmp 11) rfl gO _ rfl rfl _ _ (L.bk_ 1 rfl) op_sz rfl (opv_one _ _) ?_)
  replace L := (L.row 1 rfl (opv ⟨A0', n0, c0', A1', n1, c1', A2', n2, c2', A3', n3, c3'⟩ ⟨kind, addr, err, aad, used, 9, shard, sought, (lf : Int), (bt : Int), word, full, at_, tries, item, stamp⟩))
  try dsimp only [nput] at L
  generalize (w2).setRow gO (opv ⟨A0', n0, c0', A1', n1, c1', A2', n2, c2', A3', n3, c3'⟩ ⟨kind, addr, err, aad, used, 9, shard, sought, (lf : Int), (bt : Int), word, full, at_, tries, item, stamp⟩) = w3 at L ⊢
  have O_0 := L.at_ 1 0 rfl (v := .int .i64 kind) rfl
  have O_z := L.lt 1 rfl
  go_wp2_with fail
  refine (gives_yes hk _).mono ?_
  rintro e w' ⟨rfl, rfl⟩
  clear O_0 O_z
  have O_8 := L.at_ 1 8 rfl (v := .int .i64 9) rfl
  have O_z := L.lt 1 rfl
  go_wp2_with (first | (refine wpList_load_row rfl 27 (.tmp 3) rfl gH rfl _ _ (0, 0) _ (L.bk_ 2 rfl) Try.underlying27 rfl cf_sz ?_) | (refine wpList_load_row rfl 42 (.tmp 5) rfl gO rfl _ _ (0, 0) _ (L.bk_ 1 rfl) Try.underlying42 rfl op_sz ?_))
  have KS2 := L.K.size
  have LbC := L.gs
  refine ((TK _ _ _ _ _ _ _ _ _ _ _ _ _ L hs0 hs1 hs3 KS).out).mono ?_
  rintro e w4 ⟨A0'', c0'', A1'', n1'', c1'', A2'', n2'', c2'', A3'', n3'', c3'', B'', d'', zO, rfl, U, L', hA, LN⟩
  clear O_8 O_z
  replace L := LN.us_new LbC hA hU hm0 U
  replace L := L.lists' LbO L'
  try dsimp only [lF, List.cons_append, List.nil_append] at L
  clear LN U L' LbC
  go_wp2_with (refine wpList_store_row rfl 42 (.tmp 7) (.tmp 40) rfl gR _ rfl rfl _ _ (L.bk_ 0 rfl) op_sz rfl (opv_one _ _) ?_)
  replace L := (L.row 0 rfl (opv ⟨A0'', n0, c0'', A1'', n1'', c1'', A2'', n2'', c2'', A3'', n3'', c3''⟩ ((hitS a n0 xs ⟨kind, addr, err, aad, used, 9, shard, sought, (lf : Int), (bt : Int), word, full, at_, tries, item, stamp⟩))))
  try dsimp only [nput] at L
  generalize (w4).setRow gR (opv ⟨A0'', n0, c0'', A1'', n1'', c1'', A2'', n2'', c2'', A3'', n3'', c3''⟩ ((hitS a n0 xs ⟨kind, addr, err, aad, used, 9, shard, sought, (lf : Int), (bt : Int), word, full, at_, tries, item, stamp⟩))) = w5 at L ⊢
  refine bodyPost_ret (v := .tuple #[.slice B'' m d'', .agg (opv ⟨A0'', n0, c0'', A1'', n1'', c1'', A2'', n2'', c2'', A3'', n3'', c3''⟩ ((hitS a n0 xs ⟨kind, addr, err, aad, used, 9, shard, sought, (lf : Int), (bt : Int), word, full, at_, tries, item, stamp⟩))), .bool true]) ?_ rfl ?_
  · exact results_tct (fn := Try.f10) Try.results10 _ _ gR _ _ (0, 0) _ rfl (L.bk_ 0 rfl) Try.underlying42 rfl op_sz
  exact ⟨_, _, _, _, _, _, _, _, _, _, _, _, _, rfl, L.us_ 4 rfl, (L.lists_at 0 rfl).lower_ KS, fun k hk => hA k (Nat.lt_of_lt_of_le hk KS2), L.K⟩
end
end Go.Proofs.Ytafdlofmgefdoaa
