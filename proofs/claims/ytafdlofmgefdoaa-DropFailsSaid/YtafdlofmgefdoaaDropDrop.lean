/-
  What drop.drop answers, while its caller's blocks stand. Conditions: a block that may be; a leaf and bit there are.
-/
import Derived.Test.YtafdlofmgefdoaaDropRead
namespace Go.Proofs.Ytafdlofmgefdoaa
open Go.RowKit
set_option linter.unusedVariables false
section
variable {w w1 : World} {lo lo2 gPR gPO gPH a M m d lf bt : Nat} {p sh wo qu tr : Int} {A B : Option Addr} {n c : Nat} {xs : List Int} {ys : List Nat} {h : Hd} {s : Sc} {l : Ls}
set_option maxRecDepth 100000 in
set_option maxHeartbeats 2000000 in
theorem drop_not (L : Loc w w1 [(gPR, 42, opv hd0 sc0), (gPO, 42, opv h s), (gPH, 27, #[.int .u32 (a : Int), .int .i64 p, .slice A n c, .int .i64 sh, .int .i64 wo, .int .i64 qu, .int .i64 tr])] [rF .i64 36 lo h.A2 h.n2 h.c2 l.ers, iF .u32 lo h.A0 h.n0 h.c0 l.rqs, iF .u32 lo h.A1 h.n1 h.c1 l.ads, iF .u64 lo h.A3 h.n3 h.c3 l.ses, zF lo]) (hs0 : SepF (.slice h.A2 h.n2 h.c2) (iF .u32 lo h.A0 h.n0 h.c0 l.rqs)) (hs1 : SepF (.slice h.A2 h.n2 h.c2) (iF .u32 lo h.A1 h.n1 h.c1 l.ads)) (hs3 : SepF (.slice h.A2 h.n2 h.c2) (iF .u64 lo h.A3 h.n3 h.c3 l.ses)) (hlo : w.heap.size ≤ lo) (ha : a < 4294967296) (hM : Much a p M) (hx : l.rqs = xs) (hn : h.n0 ≤ 65536) (hin : InB a M h.n0 xs) (h1 : h.n1 ≤ 65536) (h2 : h.n2 ≤ 65000) (h3 : h.n3 ≤ 65536) (hU : US w B m d ys) (hlf : s.leaf = (lf : Int)) (hlm : lf < m) (hbt : s.bit = (bt : Int)) (hb5 : bt < 32) (hm : m ≤ 65536) (hw : s.word < 18446744073709551616) (hne : gt ys lf ≠ s.word) :
    Calls Try.prog 28 #[.agg #[.int .u32 (a : Int), .int .i64 p, .slice A n c, .int .i64 sh, .int .i64 wo, .int .i64 qu, .int .i64 tr], .slice B m d, .agg (opv h s), .func (.func 26) #[] #[.pointer (some ⟨gPO, 0, none⟩)]] w1 (RetLoc lo h.n0 (rdS s) l m ys false B gPR gPO gPH #[.int .u32 (a : Int), .int .i64 p, .slice A n c, .int .i64 sh, .int .i64 wo, .int .i64 qu, .int .i64 tr] w w1) := by
  have TC := fun w => Lib.hid (drop_any s.word bt hw (by omega) w)
  have hyl : drp s.word bt < U64 := drp_lt _ _
  have TS : ∀ w, US w B m d ys → Hid (Calls Try.prog 44 #[.slice B m d, .int .i64 (lf : Nat), .int .u64 (s.word : Nat), .int .u64 (drp s.word bt : Nat)] w fun e w' => e = .returned (.tuple #[.slice B m d, .bool false]) ∧ Below w.heap.size w w') := fun w U => swap_same U hlm hne
  generalize drp s.word bt = y at TC TS
  clear hne hyl ha hM hn hin h1 h3 hlo hw
  rcases s with ⟨kind, addr, err, aad, used, phase, shard, sought, leaf, bit, word, full, at_, tries, item, stamp⟩
  rcases h with ⟨A0, n0, c0, A1, n1, c1, A2, n2, c2, A3, n3, c3⟩
  try dsimp only at *
  subst hlf hbt
  go_enter Try.func28, Try.ntmps28
  go_upto_region 1 with (fail)
  replace L := (((L).alloc #[.int .u32 (a : Int), .int .i64 p, .slice A n c, .int .i64 sh, .int .i64 wo, .int .i64 qu, .int .i64 tr] 27).alloc (opv ⟨A0, n0, c0, A1, n1, c1, A2, n2, c2, A3, n3, c3⟩ ⟨kind, addr, err, aad, used, phase, shard, sought, (lf : Int), (bt : Int), word, full, at_, tries, item, stamp⟩) 42).alloc #[.int .i64 0, .int .u32 0, .slice none 0 0, .int .i64 0, .int .u32 0, .bool false, .slice none 0 0, .slice none 0 0, .int .i64 0, .int .i64 0, .int .i64 0, .int .i64 0, .int .i64 0, .int .u64 0, .bool false, .slice none 0 0, .int .i64 0, .int .i64 0, .int .i64 0, .int .i64 0] 42
  try simp only [World.size_alloc] at L
  replace L := L.is 0 (opv hd0 sc0) rfl
  try dsimp only [nput] at L
  generalize (((w1).alloc (.cells #[.int .u32 (a : Int), .int .i64 p, .slice A n c, .int .i64 sh, .int .i64 wo, .int .i64 qu, .int .i64 tr] 27)).alloc (.cells (opv ⟨A0, n0, c0, A1, n1, c1, A2, n2, c2, A3, n3, c3⟩ ⟨kind, addr, err, aad, used, phase, shard, sought, (lf : Int), (bt : Int), word, full, at_, tries, item, stamp⟩) 42)).alloc (.cells #[.int .i64 0, .int .u32 0, .slice none 0 0, .int .i64 0, .int .u32 0, .bool false, .slice none 0 0, .slice none 0 0, .int .i64 0, .int .i64 0, .int .i64 0, .int .i64 0, .int .i64 0, .int .u64 0, .bool false, .slice none 0 0, .int .i64 0, .int .i64 0, .int .i64 0, .int .i64 0] 42) = w6 at L ⊢
  generalize w1.heap.size + 1 + 1 = gR at L ⊢
  generalize w1.heap.size + 1 = gO at L ⊢
  generalize w1.heap.size = gH at L ⊢
  replace L := L.drew
  refine wp_region_held_drew (S := fun w' => Loc w w' [(gR, 42, opv hd0 sc0), (gO, 42, opv ⟨A0, n0, c0, A1, n1, c1, A2, n2, c2, A3, n3, c3⟩ ⟨kind, addr, err, aad, used, phase, shard, sought, (lf : Int), (bt : Int), word, full, at_, tries, item, stamp⟩), (gH, 27, #[.int .u32 (a : Int), .int .i64 p, .slice A n c, .int .i64 sh, .int .i64 wo, .int .i64 qu, .int .i64 tr]), (gPR, 42, opv hd0 sc0), (gPO, 42, opv ⟨A0, n0, c0, A1, n1, c1, A2, n2, c2, A3, n3, c3⟩ ⟨kind, addr, err, aad, used, phase, shard, sought, (lf : Int), (bt : Int), word, full, at_, tries, item, stamp⟩), (gPH, 27, #[.int .u32 (a : Int), .int .i64 p, .slice A n c, .int .i64 sh, .int .i64 wo, .int .i64 qu, .int .i64 tr])] [rF .i64 36 lo A2 n2 c2 l.ers, iF .u32 lo A0 n0 c0 l.rqs, iF .u32 lo A1 n1 c1 l.ads, iF .u64 lo A3 n3 c3 l.ses, zF lo]) (by kernel_rfl) L (fun hHeld => ?_)
  generalize w6.drew = v7 at hHeld L ⊢
  refine wpAnyH_take (i := 0) (oi := ⟨some 13, _, _, _, _, _⟩) (v := ?_) rfl (by kernel_rfl) (by kernel_rfl) (by kernel_rfl) (fun _ _ _ h => h) (Or.inl ⟨by rfl, ?_⟩) hHeld ?_
  rotate_left
  · intro ww hS
    try dsimp only at hS
    go_simp
    try with_reducible rfl
    try omega
  try simp only [Act.put, List.setIfInBounds_toArray, List.set_cons_zero, List.set_cons_succ]
  refine wpAnyH_take (i := 1) (oi := ⟨some 14, _, _, _, _, _⟩) (v := .pointer (some ⟨gO, 11, none⟩)) rfl (by kernel_rfl) (by kernel_rfl) (by kernel_rfl) (fun _ _ _ h => h) (Or.inl ⟨by rfl, ?_⟩) hHeld ?_
  · intro ww hS
    try dsimp only at hS
    go_simp
    try with_reducible rfl
    try omega
  try simp only [Act.put, List.setIfInBounds_toArray, List.set_cons_zero, List.set_cons_succ]
  refine wpAnyH_take (i := 2) (oi := ⟨some 15, _, _, _, _, _⟩) (v := .int .i64 (lf : Int)) rfl (by kernel_rfl) (by kernel_rfl) (by kernel_rfl) (fun _ _ _ h => h) (Or.inl ⟨by rfl, ?_⟩) hHeld ?_
  · intro ww hS
    try dsimp only at hS
    have O_11 := (hS).at_ 1 11 rfl (v := .int .i64 (lf : Int)) rfl
    have O_z := (hS).lt 1 rfl
    go_simp
    try with_reducible rfl
    try omega
  try simp only [Act.put, List.setIfInBounds_toArray, List.set_cons_zero, List.set_cons_succ]
  refine wpAnyH_take (i := 3) (oi := ⟨some 16, _, _, _, _, _⟩) (v := .pointer (some ⟨gO, 13, none⟩)) rfl (by kernel_rfl) (by kernel_rfl) (by kernel_rfl) (fun _ _ _ h => h) (Or.inl ⟨by rfl, ?_⟩) hHeld ?_
  · intro ww hS
    try dsimp only at hS
    go_simp
    try with_reducible rfl
    try omega
  try simp only [Act.put, List.setIfInBounds_toArray, List.set_cons_zero, List.set_cons_succ]
  refine wpAnyH_take (i := 4) (oi := ⟨some 17, _, _, _, _, _⟩) (v := .int .u64 ((word : Nat) : Int)) rfl (by kernel_rfl) (by kernel_rfl) (by kernel_rfl) (fun _ _ _ h => h) (Or.inl ⟨by rfl, ?_⟩) hHeld ?_
  · intro ww hS
    try dsimp only at hS
    have O_13 := (hS).at_ 1 13 rfl (v := .int .u64 ((word : Nat) : Int)) rfl
    have O_z := (hS).lt 1 rfl
    go_simp
    try with_reducible rfl
    try omega
  try simp only [Act.put, List.setIfInBounds_toArray, List.set_cons_zero, List.set_cons_succ]
  refine wpAnyH_take (i := 5) (oi := ⟨some 18, _, _, _, _, _⟩) (v := .pointer (some ⟨gO, 13, none⟩)) rfl (by kernel_rfl) (by kernel_rfl) (by kernel_rfl) (fun _ _ _ h => h) (Or.inl ⟨by rfl, ?_⟩) hHeld ?_
  · intro ww hS
    try dsimp only at hS
    go_simp
    try with_reducible rfl
    try omega
  try simp only [Act.put, List.setIfInBounds_toArray, List.set_cons_zero, List.set_cons_succ]
  refine wpAnyH_take (i := 6) (oi := ⟨some 19, _, _, _, _, _⟩) (v := .int .u64 ((word : Nat) : Int)) rfl (by kernel_rfl) (by kernel_rfl) (by kernel_rfl) (fun _ _ _ h => h) (Or.inl ⟨by rfl, ?_⟩) hHeld ?_
  · intro ww hS
    try dsimp only at hS
    have O_13 := (hS).at_ 1 13 rfl (v := .int .u64 ((word : Nat) : Int)) rfl
    have O_z := (hS).lt 1 rfl
    go_simp
    try with_reducible rfl
    try omega
  try simp only [Act.put, List.setIfInBounds_toArray, List.set_cons_zero, List.set_cons_succ]
  refine wpAnyH_take (i := 7) (oi := ⟨some 20, _, _, _, _, _⟩) (v := .pointer (some ⟨gO, 12, none⟩)) rfl (by kernel_rfl) (by kernel_rfl) (by kernel_rfl) (fun _ _ _ h => h) (Or.inl ⟨by rfl, ?_⟩) hHeld ?_
  · intro ww hS
    try dsimp only at hS
    go_simp
    try with_reducible rfl
    try omega
  try simp only [Act.put, List.setIfInBounds_toArray, List.set_cons_zero, List.set_cons_succ]
  refine wpAnyH_take (i := 8) (oi := ⟨some 21, _, _, _, _, _⟩) (v := .int .i64 (bt : Int)) rfl (by kernel_rfl) (by kernel_rfl) (by kernel_rfl) (fun _ _ _ h => h) (Or.inl ⟨by rfl, ?_⟩) hHeld ?_
  · intro ww hS
    try dsimp only at hS
    have O_12 := (hS).at_ 1 12 rfl (v := .int .i64 (bt : Int)) rfl
    have O_z := (hS).lt 1 rfl
    go_simp
    try with_reducible rfl
    try omega
  try simp only [Act.put, List.setIfInBounds_toArray, List.set_cons_zero, List.set_cons_succ]
  refine wpAnyH_ready (rs := [9]) (by kernel_rfl) (by simp) ?_
  refine AllReadyH.cons (o := ⟨some 22, _, _, _, _, _⟩) rfl (fun K0 hK => ?_) AllReadyH.nil
  go_simp
  refine ((TC _).out).mono ?_
  rintro e w' ⟨rfl, rfl⟩
  refine hK.out _ _ L (fun hHeld' => ?_)
  clear hHeld hK K0
  have hHeld := hHeld'
  clear hHeld'
  try simp only [Act.put, List.setIfInBounds_toArray, List.set_cons_zero, List.set_cons_succ]
  refine wpAnyH_ready (rs := [10]) (by kernel_rfl) (by simp) ?_
  refine AllReadyH.cons (o := ⟨some 23, _, _, _, _, _⟩) rfl (fun K0 hK => ?_) AllReadyH.nil
  go_simp
  refine ((TS _ (hU.below L.K)).out).mono ?_
  rintro e w8 ⟨rfl, K'⟩
  replace L := L.over K'
  refine hK.out _ _ L (fun hHeld' => ?_)
  clear hHeld hK K0
  have hHeld := hHeld'
  clear hHeld'
  clear K'
  try simp only [Act.put, List.setIfInBounds_toArray, List.set_cons_zero, List.set_cons_succ]
  refine wpAnyH_take (i := 11) (oi := ⟨some 12, _, _, _, _, _⟩) (v := ?_) rfl (by kernel_rfl) (by kernel_rfl) (by kernel_rfl) (fun _ _ _ h => h) (Or.inl ⟨by rfl, ?_⟩) hHeld ?_
  rotate_left
  · intro ww hS
    try dsimp only at hS
    go_simp
    try with_reducible rfl
    try omega
  try simp only [Act.put, List.setIfInBounds_toArray, List.set_cons_zero, List.set_cons_succ]
  refine wpAnyH_take (i := 12) (oi := ⟨some 24, _, _, _, _, _⟩) (v := .slice B m d) rfl (by kernel_rfl) (by kernel_rfl) (by kernel_rfl) (fun _ _ _ h => h) (Or.inl ⟨by rfl, ?_⟩) hHeld ?_
  · intro ww hS
    try dsimp only at hS
    go_simp
    try with_reducible rfl
    try omega
  try simp only [Act.put, List.setIfInBounds_toArray, List.set_cons_zero, List.set_cons_succ]
  refine wpAnyH_take (i := 13) (oi := ⟨some 25, _, _, _, _, _⟩) (v := .bool false) rfl (by kernel_rfl) (by kernel_rfl) (by kernel_rfl) (fun _ _ _ h => h) (Or.inl ⟨by rfl, ?_⟩) hHeld ?_
  · intro ww hS
    try dsimp only at hS
    go_simp
    try with_reducible rfl
    try omega
  try simp only [Act.put, List.setIfInBounds_toArray, List.set_cons_zero, List.set_cons_succ]
  refine wpAnyH_take (i := 14) (oi := ⟨some 1, _, _, _, _, _⟩) (v := .slice B m d) rfl (by kernel_rfl) (by kernel_rfl) (by kernel_rfl) (fun _ _ _ h => h) (Or.inl ⟨by rfl, ?_⟩) hHeld ?_
  · intro ww hS
    try dsimp only at hS
    go_simp
    try with_reducible rfl
    try omega
  try simp only [Act.put, List.setIfInBounds_toArray, List.set_cons_zero, List.set_cons_succ]
  refine wpAnyH_take (i := 15) (oi := ⟨some 11, _, _, _, _, _⟩) (v := .bool false) rfl (by kernel_rfl) (by kernel_rfl) (by kernel_rfl) (fun _ _ _ h => h) (Or.inl ⟨by rfl, ?_⟩) hHeld ?_
  · intro ww hS
    try dsimp only at hS
    go_simp
    try with_reducible rfl
    try omega
  try simp only [Act.put, List.setIfInBounds_toArray, List.set_cons_zero, List.set_cons_succ]
  refine wpAnyH_done (by kernel_rfl) ?_ _
  clear hHeld
  have O_8 := L.at_ 1 8 rfl (v := .int .i64 phase) rfl
  have O_13 := L.at_ 1 13 rfl (v := .int .u64 ((word : Nat) : Int)) rfl
  have O_z := L.lt 1 rfl
  have O_f8 := L.fz 1 8 rfl
  have O_f13 := L.fz 1 13 rfl
  go_upto_region 4 with fail
  clear O_8 O_13 O_z O_f8 O_f13
  replace L := (((L.set 1 8 rfl (.int .i64 8)).set 1 13 rfl (.int .u64 0)).is 1 (opv ⟨A0, n0, c0, A1, n1, c1, A2, n2, c2, A3, n3, c3⟩ ⟨kind, addr, err, aad, used, 8, shard, sought, (lf : Int), (bt : Int), 0, full, at_, tries, item, stamp⟩) rfl)
  try dsimp only [nput] at L
  generalize ((w8).setCell ⟨gO, 8, none⟩ (.int .i64 8)).setCell ⟨gO, 13, none⟩ (.int .u64 0) = w9 at L ⊢
  replace L := L.drew
  refine wp_region_held_drew (S := fun w' => ∃ v_R : Array Value, v_R.size = 20 ∧ Loc w w' [(gR, 42, v_R), (gO, 42, opv ⟨A0, n0, c0, A1, n1, c1, A2, n2, c2, A3, n3, c3⟩ ⟨kind, addr, err, aad, used, 8, shard, sought, (lf : Int), (bt : Int), 0, full, at_, tries, item, stamp⟩), (gH, 27, #[.int .u32 (a : Int), .int .i64 p, .slice A n c, .int .i64 sh, .int .i64 wo, .int .i64 qu, .int .i64 tr]), (gPR, 42, opv hd0 sc0), (gPO, 42, opv ⟨A0, n0, c0, A1, n1, c1, A2, n2, c2, A3, n3, c3⟩ ⟨kind, addr, err, aad, used, phase, shard, sought, (lf : Int), (bt : Int), word, full, at_, tries, item, stamp⟩), (gPH, 27, #[.int .u32 (a : Int), .int .i64 p, .slice A n c, .int .i64 sh, .int .i64 wo, .int .i64 qu, .int .i64 tr])] [rF .i64 36 lo A2 n2 c2 l.ers, iF .u32 lo A0 n0 c0 l.rqs, iF .u32 lo A1 n1 c1 l.ads, iF .u64 lo A3 n3 c3 l.ses, zF lo]) (by kernel_rfl) (⟨_, rfl, L⟩) (fun hHeld => ?_)
  generalize w9.drew = v10 at hHeld L ⊢
  refine wpAnyH_take (i := 0) (oi := ⟨some 30, _, _, _, _, _⟩) (v := .slice B m d) rfl (by kernel_rfl) (by kernel_rfl) (by kernel_rfl) (fun _ _ _ h => h) (Or.inl ⟨by rfl, ?_⟩) hHeld ?_
  · intro ww hS
    try dsimp only at hS
    go_simp
    try with_reducible rfl
    try omega
  try simp only [Act.put, List.setIfInBounds_toArray, List.set_cons_zero, List.set_cons_succ]
  refine wpAnyH_take (i := 1) (oi := ⟨some 31, _, _, _, _, _⟩) (v := .agg (opv ⟨A0, n0, c0, A1, n1, c1, A2, n2, c2, A3, n3, c3⟩ ⟨kind, addr, err, aad, used, 8, shard, sought, (lf : Int), (bt : Int), 0, full, at_, tries, item, stamp⟩)) rfl (by kernel_rfl) (by kernel_rfl) (by kernel_rfl) (fun _ _ _ h => h) (yieldsIf_load_row (by rfl) 42 (.tmp 6) rfl gO rfl 42 _ (0, 0) _ (fun _ hS => (hS.choose_spec.2).bk_ 1 rfl) Try.underlying42 rfl op_sz) hHeld ?_
  try simp only [Act.put, List.setIfInBounds_toArray, List.set_cons_zero, List.set_cons_succ]
  refine wpAnyH_take (i := 2) (oi := ⟨some 8, _, _, _, _, _⟩) (v := .slice B m d) rfl (by kernel_rfl) (by kernel_rfl) (by kernel_rfl) (fun _ _ _ h => h) (Or.inl ⟨by rfl, ?_⟩) hHeld ?_
  · intro ww hS
    try dsimp only at hS
    go_simp
    try with_reducible rfl
    try omega
  try simp only [Act.put, List.setIfInBounds_toArray, List.set_cons_zero, List.set_cons_succ]
  refine wpAnyH_ready (rs := [3]) (by kernel_rfl) (by simp) ?_
  refine AllReadyH.cons (o := ⟨none, _, _, _, _, _⟩) rfl (fun K0 hK => ?_) AllReadyH.nil
  rw [if_pos (by rfl)]
  refine wp_store_row 42 (.tmp 9) (.tmp 31) rfl gR _ rfl rfl _ _ (L.bk_ 0 rfl) op_sz rfl (opv_one _ _) ?_
  replace L := L.row 0 rfl (opv ⟨A0, n0, c0, A1, n1, c1, A2, n2, c2, A3, n3, c3⟩ ⟨kind, addr, err, aad, used, 8, shard, sought, (lf : Int), (bt : Int), 0, full, at_, tries, item, stamp⟩)
  try dsimp only [nput] at L
  refine hK.out _ _ ⟨_, rfl, L⟩ (fun hHeld' => ?_)
  clear hHeld hK K0
  have hHeld := hHeld'
  clear hHeld'
  generalize v10.setRow gR (opv ⟨A0, n0, c0, A1, n1, c1, A2, n2, c2, A3, n3, c3⟩ ⟨kind, addr, err, aad, used, 8, shard, sought, (lf : Int), (bt : Int), 0, full, at_, tries, item, stamp⟩) = v11 at hHeld L ⊢
  try simp only [Act.put]
  refine wpAnyH_take (i := 4) (oi := ⟨some 10, _, _, _, _, _⟩) (v := .bool false) rfl (by kernel_rfl) (by kernel_rfl) (by kernel_rfl) (fun _ _ _ h => h) (Or.inl ⟨by rfl, ?_⟩) hHeld ?_
  · intro ww hS
    try dsimp only at hS
    go_simp
    try with_reducible rfl
    try omega
  try simp only [Act.put, List.setIfInBounds_toArray, List.set_cons_zero, List.set_cons_succ]
  refine wpAnyH_done (by kernel_rfl) ?_ _
  clear hHeld
  go_wp2
  refine bodyPost_ret (v := .tuple #[.slice B m d, .agg (opv ⟨A0, n0, c0, A1, n1, c1, A2, n2, c2, A3, n3, c3⟩ ⟨kind, addr, err, aad, used, 8, shard, sought, (lf : Int), (bt : Int), 0, full, at_, tries, item, stamp⟩), .bool false]) ?_ rfl ?_
  · exact results_tct (fn := Try.f28) Try.results28 _ _ gR _ _ (0, 0) _ rfl (L.bk_ 0 rfl) Try.underlying42 rfl op_sz
  exact ⟨_, _, _, _, _, _, _, _, _, _, _, _, _, _, rfl, hU.below L.K, lists_row (L.is_ 1 rfl) (L.is_ 2 rfl) (L.ri_ 0 rfl) (L.is_ 3 rfl), fun k _ h => h, ((((L.del 0).del 0).del 0).only (fun f h => by cases h))⟩
set_option maxRecDepth 100000 in
set_option maxHeartbeats 2000000 in
theorem drop_full (L : Loc w w1 [(gPR, 42, opv hd0 sc0), (gPO, 42, opv h s), (gPH, 27, #[.int .u32 (a : Int), .int .i64 p, .slice A n c, .int .i64 sh, .int .i64 wo, .int .i64 qu, .int .i64 tr])] [rF .i64 36 lo h.A2 h.n2 h.c2 l.ers, iF .u32 lo h.A0 h.n0 h.c0 l.rqs, iF .u32 lo h.A1 h.n1 h.c1 l.ads, iF .u64 lo h.A3 h.n3 h.c3 l.ses, zF lo]) (hs0 : SepF (.slice h.A2 h.n2 h.c2) (iF .u32 lo h.A0 h.n0 h.c0 l.rqs)) (hs1 : SepF (.slice h.A2 h.n2 h.c2) (iF .u32 lo h.A1 h.n1 h.c1 l.ads)) (hs3 : SepF (.slice h.A2 h.n2 h.c2) (iF .u64 lo h.A3 h.n3 h.c3 l.ses)) (hlo : w.heap.size ≤ lo) (ha : a < 4294967296) (hM : Much a p M) (hx : l.rqs = xs) (hn : h.n0 ≤ 65536) (hin : InB a M h.n0 xs) (h1 : h.n1 ≤ 65536) (h2 : h.n2 ≤ 65000) (h3 : h.n3 ≤ 65536) (hU : US w B m d ys) (hlf : s.leaf = (lf : Int)) (hlm : lf < m) (hbt : s.bit = (bt : Int)) (hb5 : bt < 32) (hm : m ≤ 65536) (hw : s.word < 18446744073709551616) (heq : gt ys lf = s.word) (hfl : fl s.word = true) :
    Calls Try.prog 28 #[.agg #[.int .u32 (a : Int), .int .i64 p, .slice A n c, .int .i64 sh, .int .i64 wo, .int .i64 qu, .int .i64 tr], .slice B m d, .agg (opv h s), .func (.func 26) #[] #[.pointer (some ⟨gPO, 0, none⟩)]] w1 (RetLoc lo h.n0 (emS (erS s 0)) (erL s l 0) m (ys.set lf (drp s.word bt)) true B gPR gPO gPH #[.int .u32 (a : Int), .int .i64 p, .slice A n c, .int .i64 sh, .int .i64 wo, .int .i64 qu, .int .i64 tr] w w1) := by
  have TC := fun w => Lib.hid (drop_any s.word bt hw (by omega) w)
  have hyl : drp s.word bt < U64 := drp_lt _ _
  have TFu := fun w => Lib.hid (full_any s.word hw w)
  simp only [hfl] at TFu
  clear hfl hw
  have TS : ∀ w, US w B m d ys → Hid (Calls Try.prog 44 #[.slice B m d, .int .i64 (lf : Nat), .int .u64 (s.word : Nat), .int .u64 (drp s.word bt : Nat)] w (RetSN m (ys.set lf (drp s.word bt)) w)) := fun w U => by have := swap_new U hlm hm hyl; rw [heq] at this; exact this
  clear heq hyl
  generalize drp s.word bt = y at TC TS ⊢
  clear ha hM hn hx hin h1 h3
  rcases s with ⟨kind, addr, err, aad, used, phase, shard, sought, leaf, bit, word, full, at_, tries, item, stamp⟩
  rcases h with ⟨A0, n0, c0, A1, n1, c1, A2, n2, c2, A3, n3, c3⟩
  try dsimp only at *
  subst hlf hbt
  obtain ⟨z1, hz1⟩ : ∃ z, z = w1.heap.size := ⟨_, rfl⟩
  replace L := L.sz (lo := z1) (by omega)
  replace hz1 := Lib.hid hz1
  go_enter Try.func28, Try.ntmps28
  go_upto_region 1 with (fail)
  replace L := (((L).alloc #[.int .u32 (a : Int), .int .i64 p, .slice A n c, .int .i64 sh, .int .i64 wo, .int .i64 qu, .int .i64 tr] 27).alloc (opv ⟨A0, n0, c0, A1, n1, c1, A2, n2, c2, A3, n3, c3⟩ ⟨kind, addr, err, aad, used, phase, shard, sought, (lf : Int), (bt : Int), word, full, at_, tries, item, stamp⟩) 42).alloc #[.int .i64 0, .int .u32 0, .slice none 0 0, .int .i64 0, .int .u32 0, .bool false, .slice none 0 0, .slice none 0 0, .int .i64 0, .int .i64 0, .int .i64 0, .int .i64 0, .int .i64 0, .int .u64 0, .bool false, .slice none 0 0, .int .i64 0, .int .i64 0, .int .i64 0, .int .i64 0] 42
  try simp only [World.size_alloc] at L
  replace L := L.is 0 (opv hd0 sc0) rfl
  try dsimp only [nput] at L
  generalize (((w1).alloc (.cells #[.int .u32 (a : Int), .int .i64 p, .slice A n c, .int .i64 sh, .int .i64 wo, .int .i64 qu, .int .i64 tr] 27)).alloc (.cells (opv ⟨A0, n0, c0, A1, n1, c1, A2, n2, c2, A3, n3, c3⟩ ⟨kind, addr, err, aad, used, phase, shard, sought, (lf : Int), (bt : Int), word, full, at_, tries, item, stamp⟩) 42)).alloc (.cells #[.int .i64 0, .int .u32 0, .slice none 0 0, .int .i64 0, .int .u32 0, .bool false, .slice none 0 0, .slice none 0 0, .int .i64 0, .int .i64 0, .int .i64 0, .int .i64 0, .int .i64 0, .int .u64 0, .bool false, .slice none 0 0, .int .i64 0, .int .i64 0, .int .i64 0, .int .i64 0] 42) = w6 at L ⊢
  generalize w1.heap.size + 1 + 1 = gR at L ⊢
  generalize w1.heap.size + 1 = gO at L ⊢
  generalize w1.heap.size = gH at L ⊢
  replace L := L.drew
  refine wp_region_held_drew (S := fun w' => Loc w w' [(gR, 42, opv hd0 sc0), (gO, 42, opv ⟨A0, n0, c0, A1, n1, c1, A2, n2, c2, A3, n3, c3⟩ ⟨kind, addr, err, aad, used, phase, shard, sought, (lf : Int), (bt : Int), word, full, at_, tries, item, stamp⟩), (gH, 27, #[.int .u32 (a : Int), .int .i64 p, .slice A n c, .int .i64 sh, .int .i64 wo, .int .i64 qu, .int .i64 tr]), (gPR, 42, opv hd0 sc0), (gPO, 42, opv ⟨A0, n0, c0, A1, n1, c1, A2, n2, c2, A3, n3, c3⟩ ⟨kind, addr, err, aad, used, phase, shard, sought, (lf : Int), (bt : Int), word, full, at_, tries, item, stamp⟩), (gPH, 27, #[.int .u32 (a : Int), .int .i64 p, .slice A n c, .int .i64 sh, .int .i64 wo, .int .i64 qu, .int .i64 tr])] [zF z1, rF .i64 36 lo A2 n2 c2 l.ers, iF .u32 lo A0 n0 c0 l.rqs, iF .u32 lo A1 n1 c1 l.ads, iF .u64 lo A3 n3 c3 l.ses, zF lo]) (by kernel_rfl) L (fun hHeld => ?_)
  generalize w6.drew = v7 at hHeld L ⊢
  refine wpAnyH_take (i := 0) (oi := ⟨some 13, _, _, _, _, _⟩) (v := ?_) rfl (by kernel_rfl) (by kernel_rfl) (by kernel_rfl) (fun _ _ _ h => h) (Or.inl ⟨by rfl, ?_⟩) hHeld ?_
  rotate_left
  · intro ww hS
    try dsimp only at hS
    go_simp
    try with_reducible rfl
    try omega
  try simp only [Act.put, List.setIfInBounds_toArray, List.set_cons_zero, List.set_cons_succ]
  refine wpAnyH_take (i := 1) (oi := ⟨some 14, _, _, _, _, _⟩) (v := .pointer (some ⟨gO, 11, none⟩)) rfl (by kernel_rfl) (by kernel_rfl) (by kernel_rfl) (fun _ _ _ h => h) (Or.inl ⟨by rfl, ?_⟩) hHeld ?_
  · intro ww hS
    try dsimp only at hS
    go_simp
    try with_reducible rfl
    try omega
  try simp only [Act.put, List.setIfInBounds_toArray, List.set_cons_zero, List.set_cons_succ]
  refine wpAnyH_take (i := 2) (oi := ⟨some 15, _, _, _, _, _⟩) (v := .int .i64 (lf : Int)) rfl (by kernel_rfl) (by kernel_rfl) (by kernel_rfl) (fun _ _ _ h => h) (Or.inl ⟨by rfl, ?_⟩) hHeld ?_
  · intro ww hS
    try dsimp only at hS
    have O_11 := (hS).at_ 1 11 rfl (v := .int .i64 (lf : Int)) rfl
    have O_z := (hS).lt 1 rfl
    go_simp
    try with_reducible rfl
    try omega
  try simp only [Act.put, List.setIfInBounds_toArray, List.set_cons_zero, List.set_cons_succ]
  refine wpAnyH_take (i := 3) (oi := ⟨some 16, _, _, _, _, _⟩) (v := .pointer (some ⟨gO, 13, none⟩)) rfl (by kernel_rfl) (by kernel_rfl) (by kernel_rfl) (fun _ _ _ h => h) (Or.inl ⟨by rfl, ?_⟩) hHeld ?_
  · intro ww hS
    try dsimp only at hS
    go_simp
    try with_reducible rfl
    try omega
  try simp only [Act.put, List.setIfInBounds_toArray, List.set_cons_zero, List.set_cons_succ]
  refine wpAnyH_take (i := 4) (oi := ⟨some 17, _, _, _, _, _⟩) (v := .int .u64 ((word : Nat) : Int)) rfl (by kernel_rfl) (by kernel_rfl) (by kernel_rfl) (fun _ _ _ h => h) (Or.inl ⟨by rfl, ?_⟩) hHeld ?_
  · intro ww hS
    try dsimp only at hS
    have O_13 := (hS).at_ 1 13 rfl (v := .int .u64 ((word : Nat) : Int)) rfl
    have O_z := (hS).lt 1 rfl
    go_simp
    try with_reducible rfl
    try omega
  try simp only [Act.put, List.setIfInBounds_toArray, List.set_cons_zero, List.set_cons_succ]
  refine wpAnyH_take (i := 5) (oi := ⟨some 18, _, _, _, _, _⟩) (v := .pointer (some ⟨gO, 13, none⟩)) rfl (by kernel_rfl) (by kernel_rfl) (by kernel_rfl) (fun _ _ _ h => h) (Or.inl ⟨by rfl, ?_⟩) hHeld ?_
  · intro ww hS
    try dsimp only at hS
    go_simp
    try with_reducible rfl
    try omega
  try simp only [Act.put, List.setIfInBounds_toArray, List.set_cons_zero, List.set_cons_succ]
  refine wpAnyH_take (i := 6) (oi := ⟨some 19, _, _, _, _, _⟩) (v := .int .u64 ((word : Nat) : Int)) rfl (by kernel_rfl) (by kernel_rfl) (by kernel_rfl) (fun _ _ _ h => h) (Or.inl ⟨by rfl, ?_⟩) hHeld ?_
  · intro ww hS
    try dsimp only at hS
    have O_13 := (hS).at_ 1 13 rfl (v := .int .u64 ((word : Nat) : Int)) rfl
    have O_z := (hS).lt 1 rfl
    go_simp
    try with_reducible rfl
    try omega
  try simp only [Act.put, List.setIfInBounds_toArray, List.set_cons_zero, List.set_cons_succ]
  refine wpAnyH_take (i := 7) (oi := ⟨some 20, _, _, _, _, _⟩) (v := .pointer (some ⟨gO, 12, none⟩)) rfl (by kernel_rfl) (by kernel_rfl) (by kernel_rfl) (fun _ _ _ h => h) (Or.inl ⟨by rfl, ?_⟩) hHeld ?_
  · intro ww hS
    try dsimp only at hS
    go_simp
    try with_reducible rfl
    try omega
  try simp only [Act.put, List.setIfInBounds_toArray, List.set_cons_zero, List.set_cons_succ]
  refine wpAnyH_take (i := 8) (oi := ⟨some 21, _, _, _, _, _⟩) (v := .int .i64 (bt : Int)) rfl (by kernel_rfl) (by kernel_rfl) (by kernel_rfl) (fun _ _ _ h => h) (Or.inl ⟨by rfl, ?_⟩) hHeld ?_
  · intro ww hS
    try dsimp only at hS
    have O_12 := (hS).at_ 1 12 rfl (v := .int .i64 (bt : Int)) rfl
    have O_z := (hS).lt 1 rfl
    go_simp
    try with_reducible rfl
    try omega
  try simp only [Act.put, List.setIfInBounds_toArray, List.set_cons_zero, List.set_cons_succ]
  refine wpAnyH_ready (rs := [9]) (by kernel_rfl) (by simp) ?_
  refine AllReadyH.cons (o := ⟨some 22, _, _, _, _, _⟩) rfl (fun K0 hK => ?_) AllReadyH.nil
  go_simp
  refine ((TC _).out).mono ?_
  rintro e w' ⟨rfl, rfl⟩
  refine hK.out _ _ L (fun hHeld' => ?_)
  clear hHeld hK K0
  have hHeld := hHeld'
  clear hHeld'
  try simp only [Act.put, List.setIfInBounds_toArray, List.set_cons_zero, List.set_cons_succ]
  refine wpAnyH_ready (rs := [10]) (by kernel_rfl) (by simp) ?_
  refine AllReadyH.cons (o := ⟨some 23, _, _, _, _, _⟩) rfl (fun K0 hK => ?_) AllReadyH.nil
  have KZ1 := L.sz_ 0 rfl
  have R0 := L.ri_ 1 rfl
  go_simp
  refine ((TS _ (hU.below L.K)).out).mono ?_
  rintro e w8 ⟨gS, dS, rfl, U, hgS, K'⟩
  have Lb := L.lts
  replace L := L.over K'
  replace L := L.us_av (fun i b e b' o e' => by injection e' with e'; injection e' with e1; have := Lb i b e; omega) U
  clear Lb
  try dsimp only [lF, List.cons_append, List.nil_append] at L
  have sU := R0.sep_cells (n' := m) (c := dS) (ys := ys.set lf y) hgS
  clear U R0
  replace hgS := Nat.le_trans KZ1 hgS
  rw [hz1.out] at hgS
  refine hK.out _ _ (L.less 1) (fun hHeld' => ?_)
  clear hHeld hK K0
  have hHeld := hHeld'
  clear hHeld'
  clear K'
  try simp only [Act.put, List.setIfInBounds_toArray, List.set_cons_zero, List.set_cons_succ]
  refine wpAnyH_take (i := 11) (oi := ⟨some 12, _, _, _, _, _⟩) (v := ?_) rfl (by kernel_rfl) (by kernel_rfl) (by kernel_rfl) (fun _ _ _ h => h) (Or.inl ⟨by rfl, ?_⟩) hHeld ?_
  rotate_left
  · intro ww hS
    try dsimp only at hS
    go_simp
    try with_reducible rfl
    try omega
  try simp only [Act.put, List.setIfInBounds_toArray, List.set_cons_zero, List.set_cons_succ]
  refine wpAnyH_take (i := 12) (oi := ⟨some 24, _, _, _, _, _⟩) (v := .slice (some ⟨gS, 0, none⟩) m dS) rfl (by kernel_rfl) (by kernel_rfl) (by kernel_rfl) (fun _ _ _ h => h) (Or.inl ⟨by rfl, ?_⟩) hHeld ?_
  · intro ww hS
    try dsimp only at hS
    go_simp
    try with_reducible rfl
    try omega
  try simp only [Act.put, List.setIfInBounds_toArray, List.set_cons_zero, List.set_cons_succ]
  refine wpAnyH_take (i := 13) (oi := ⟨some 25, _, _, _, _, _⟩) (v := .bool true) rfl (by kernel_rfl) (by kernel_rfl) (by kernel_rfl) (fun _ _ _ h => h) (Or.inl ⟨by rfl, ?_⟩) hHeld ?_
  · intro ww hS
    try dsimp only at hS
    go_simp
    try with_reducible rfl
    try omega
  try simp only [Act.put, List.setIfInBounds_toArray, List.set_cons_zero, List.set_cons_succ]
  refine wpAnyH_take (i := 14) (oi := ⟨some 1, _, _, _, _, _⟩) (v := .slice (some ⟨gS, 0, none⟩) m dS) rfl (by kernel_rfl) (by kernel_rfl) (by kernel_rfl) (fun _ _ _ h => h) (Or.inl ⟨by rfl, ?_⟩) hHeld ?_
  · intro ww hS
    try dsimp only at hS
    go_simp
    try with_reducible rfl
    try omega
  try simp only [Act.put, List.setIfInBounds_toArray, List.set_cons_zero, List.set_cons_succ]
  refine wpAnyH_take (i := 15) (oi := ⟨some 11, _, _, _, _, _⟩) (v := .bool true) rfl (by kernel_rfl) (by kernel_rfl) (by kernel_rfl) (fun _ _ _ h => h) (Or.inl ⟨by rfl, ?_⟩) hHeld ?_
  · intro ww hS
    try dsimp only at hS
    go_simp
    try with_reducible rfl
    try omega
  try simp only [Act.put, List.setIfInBounds_toArray, List.set_cons_zero, List.set_cons_succ]
  refine wpAnyH_done (by kernel_rfl) ?_ _
  clear hHeld
  go_wp2_with fail
  replace L := L.only (fs' := [rF .i64 36 lo A2 n2 c2 l.ers, uF (some ⟨gS, 0, none⟩) m dS (ys.set lf y), iF .u32 lo A0 n0 c0 l.rqs, iF .u32 lo A1 n1 c1 l.ads, iF .u64 lo A3 n3 c3 l.ses, zF lo, zF z1]) (by simp)
  refine (told_any (x := 0) L (SepL.cons sU (SepL.cons hs0 (SepL.cons hs1 (SepL.cons hs3 (SepL.cons SepF.z (SepL.cons SepF.z SepL.nil)))))) hlo (L.sz_ 5 rfl) (by show n2 ≤ 65000; omega)).mono ?_
  rintro e w9 ⟨A2', n2', c2', rfl, hn2', LN⟩
  replace L := LN
  replace hn2' : n2' ≤ n2 + 1 := hn2'
  try dsimp only at L
  go_upto_region 6 with (refine wpList_store_row rfl 42 (.tmp 6) (.tmp 33) rfl gO _ rfl rfl _ _ (L.bk_ 1 rfl) op_sz rfl (opv_one _ _) ?_)
  replace L := (L.row 1 rfl (opv ⟨A0, n0, c0, A1, n1, c1, A2', n2', c2', A3, n3, c3⟩ (erS ⟨kind, addr, err, aad, used, phase, shard, sought, (lf : Int), (bt : Int), word, full, at_, tries, item, stamp⟩ 0)))
  try dsimp only [nput] at L
  generalize (w9).setRow gO (opv ⟨A0, n0, c0, A1, n1, c1, A2', n2', c2', A3, n3, c3⟩ (erS ⟨kind, addr, err, aad, used, phase, shard, sought, (lf : Int), (bt : Int), word, full, at_, tries, item, stamp⟩ 0)) = w10 at L ⊢
  have O_13 := L.at_ 1 13 rfl (v := .int .u64 ((word : Nat) : Int)) rfl
  have O_z := L.lt 1 rfl
  go_wp2_with fail
  refine ((TFu _).out).mono ?_
  rintro e w' ⟨rfl, rfl⟩
  clear O_13 O_z
  have O_8 := L.at_ 1 8 rfl (v := .int .i64 phase) rfl
  have O_14 := L.at_ 1 14 rfl (v := .bool full) rfl
  have O_16 := L.at_ 1 16 rfl (v := .int .i64 at_) rfl
  have O_13 := L.at_ 1 13 rfl (v := .int .u64 ((word : Nat) : Int)) rfl
  have O_z := L.lt 1 rfl
  have O_f8 := L.fz 1 8 rfl
  have O_f14 := L.fz 1 14 rfl
  have O_f16 := L.fz 1 16 rfl
  have O_f13 := L.fz 1 13 rfl
  go_upto_region 9 with fail
  clear O_8 O_14 O_16 O_13 O_z O_f8 O_f14 O_f16 O_f13
  replace L := (((((L.set 1 8 rfl (.int .i64 4)).set 1 14 rfl (.bool false)).set 1 16 rfl (.int .i64 0)).set 1 13 rfl (.int .u64 0)).is 1 (opv ⟨A0, n0, c0, A1, n1, c1, A2', n2', c2', A3, n3, c3⟩ ⟨kind, addr, (erI kind err 0), aad, used, 4, shard, sought, (lf : Int), (bt : Int), 0, false, 0, tries, item, stamp⟩) rfl)
  try dsimp only [nput] at L
  generalize ((((w10).setCell ⟨gO, 8, none⟩ (.int .i64 4)).setCell ⟨gO, 14, none⟩ (.bool false)).setCell ⟨gO, 16, none⟩ (.int .i64 0)).setCell ⟨gO, 13, none⟩ (.int .u64 0) = w11 at L ⊢
  replace L := L.drew
  refine wp_region_held_drew (S := fun w' => ∃ v_R : Array Value, v_R.size = 20 ∧ Loc w w' [(gR, 42, v_R), (gO, 42, opv ⟨A0, n0, c0, A1, n1, c1, A2', n2', c2', A3, n3, c3⟩ ⟨kind, addr, (erI kind err 0), aad, used, 4, shard, sought, (lf : Int), (bt : Int), 0, false, 0, tries, item, stamp⟩), (gH, 27, #[.int .u32 (a : Int), .int .i64 p, .slice A n c, .int .i64 sh, .int .i64 wo, .int .i64 qu, .int .i64 tr]), (gPR, 42, opv hd0 sc0), (gPO, 42, opv ⟨A0, n0, c0, A1, n1, c1, A2', n2', c2', A3, n3, c3⟩ (erS ⟨kind, addr, err, aad, used, phase, shard, sought, (lf : Int), (bt : Int), word, full, at_, tries, item, stamp⟩ 0)), (gPH, 27, #[.int .u32 (a : Int), .int .i64 p, .slice A n c, .int .i64 sh, .int .i64 wo, .int .i64 qu, .int .i64 tr])] [rF .i64 36 lo A2' n2' c2' (erE ⟨kind, addr, err, aad, used, phase, shard, sought, (lf : Int), (bt : Int), word, full, at_, tries, item, stamp⟩ l.ers 0), uF (some ⟨gS, 0, none⟩) m dS (ys.set lf y), iF .u32 lo A0 n0 c0 l.rqs, iF .u32 lo A1 n1 c1 l.ads, iF .u64 lo A3 n3 c3 l.ses, zF lo, zF z1]) (by kernel_rfl) (⟨_, rfl, L⟩) (fun hHeld => ?_)
  generalize w11.drew = v12 at hHeld L ⊢
  refine wpAnyH_take (i := 0) (oi := ⟨some 46, _, _, _, _, _⟩) (v := .slice (some ⟨gS, 0, none⟩) m dS) rfl (by kernel_rfl) (by kernel_rfl) (by kernel_rfl) (fun _ _ _ h => h) (Or.inl ⟨by rfl, ?_⟩) hHeld ?_
  · intro ww hS
    try dsimp only at hS
    go_simp
    try with_reducible rfl
    try omega
  try simp only [Act.put, List.setIfInBounds_toArray, List.set_cons_zero, List.set_cons_succ]
  refine wpAnyH_take (i := 1) (oi := ⟨some 47, _, _, _, _, _⟩) (v := .agg (opv ⟨A0, n0, c0, A1, n1, c1, A2', n2', c2', A3, n3, c3⟩ ⟨kind, addr, (erI kind err 0), aad, used, 4, shard, sought, (lf : Int), (bt : Int), 0, false, 0, tries, item, stamp⟩)) rfl (by kernel_rfl) (by kernel_rfl) (by kernel_rfl) (fun _ _ _ h => h) (yieldsIf_load_row (by rfl) 42 (.tmp 6) rfl gO rfl 42 _ (0, 0) _ (fun _ hS => (hS.choose_spec.2).bk_ 1 rfl) Try.underlying42 rfl op_sz) hHeld ?_
  try simp only [Act.put, List.setIfInBounds_toArray, List.set_cons_zero, List.set_cons_succ]
  refine wpAnyH_take (i := 2) (oi := ⟨some 8, _, _, _, _, _⟩) (v := .slice (some ⟨gS, 0, none⟩) m dS) rfl (by kernel_rfl) (by kernel_rfl) (by kernel_rfl) (fun _ _ _ h => h) (Or.inl ⟨by rfl, ?_⟩) hHeld ?_
  · intro ww hS
    try dsimp only at hS
    go_simp
    try with_reducible rfl
    try omega
  try simp only [Act.put, List.setIfInBounds_toArray, List.set_cons_zero, List.set_cons_succ]
  refine wpAnyH_ready (rs := [3]) (by kernel_rfl) (by simp) ?_
  refine AllReadyH.cons (o := ⟨none, _, _, _, _, _⟩) rfl (fun K0 hK => ?_) AllReadyH.nil
  rw [if_pos (by rfl)]
  refine wp_store_row 42 (.tmp 9) (.tmp 47) rfl gR _ rfl rfl _ _ (L.bk_ 0 rfl) op_sz rfl (opv_one _ _) ?_
  replace L := L.row 0 rfl (opv ⟨A0, n0, c0, A1, n1, c1, A2', n2', c2', A3, n3, c3⟩ ⟨kind, addr, (erI kind err 0), aad, used, 4, shard, sought, (lf : Int), (bt : Int), 0, false, 0, tries, item, stamp⟩)
  try dsimp only [nput] at L
  refine hK.out _ _ ⟨_, rfl, L⟩ (fun hHeld' => ?_)
  clear hHeld hK K0
  have hHeld := hHeld'
  clear hHeld'
  generalize v12.setRow gR (opv ⟨A0, n0, c0, A1, n1, c1, A2', n2', c2', A3, n3, c3⟩ ⟨kind, addr, (erI kind err 0), aad, used, 4, shard, sought, (lf : Int), (bt : Int), 0, false, 0, tries, item, stamp⟩) = v13 at hHeld L ⊢
  try simp only [Act.put]
  refine wpAnyH_take (i := 4) (oi := ⟨some 10, _, _, _, _, _⟩) (v := .bool true) rfl (by kernel_rfl) (by kernel_rfl) (by kernel_rfl) (fun _ _ _ h => h) (Or.inl ⟨by rfl, ?_⟩) hHeld ?_
  · intro ww hS
    try dsimp only at hS
    go_simp
    try with_reducible rfl
    try omega
  try simp only [Act.put, List.setIfInBounds_toArray, List.set_cons_zero, List.set_cons_succ]
  refine wpAnyH_done (by kernel_rfl) ?_ _
  clear hHeld
  go_wp2
  refine bodyPost_ret (v := .tuple #[.slice (some ⟨gS, 0, none⟩) m dS, .agg (opv ⟨A0, n0, c0, A1, n1, c1, A2', n2', c2', A3, n3, c3⟩ ⟨kind, addr, (erI kind err 0), aad, used, 4, shard, sought, (lf : Int), (bt : Int), 0, false, 0, tries, item, stamp⟩), .bool true]) ?_ rfl ?_
  · exact results_tct (fn := Try.f28) Try.results28 _ _ gR _ _ (0, 0) _ rfl (L.bk_ 0 rfl) Try.underlying42 rfl op_sz
  exact ⟨_, _, _, _, _, _, _, _, _, _, _, _, _, _, rfl, L.us_ 1 rfl, lists_row (L.is_ 2 rfl) (L.is_ 3 rfl) (L.ri_ 0 rfl) (L.is_ 4 rfl), fun k hk _ b o e => by injection e with e; injection e with e1; omega, ((((L.del 0).del 0).del 0).only (fun f h => by cases h))⟩
set_option maxRecDepth 100000 in
set_option maxHeartbeats 2000000 in
theorem drop_go (L : Loc w w1 [(gPR, 42, opv hd0 sc0), (gPO, 42, opv h s), (gPH, 27, #[.int .u32 (a : Int), .int .i64 p, .slice A n c, .int .i64 sh, .int .i64 wo, .int .i64 qu, .int .i64 tr])] [rF .i64 36 lo h.A2 h.n2 h.c2 l.ers, iF .u32 lo h.A0 h.n0 h.c0 l.rqs, iF .u32 lo h.A1 h.n1 h.c1 l.ads, iF .u64 lo h.A3 h.n3 h.c3 l.ses, zF lo]) (hs0 : SepF (.slice h.A2 h.n2 h.c2) (iF .u32 lo h.A0 h.n0 h.c0 l.rqs)) (hs1 : SepF (.slice h.A2 h.n2 h.c2) (iF .u32 lo h.A1 h.n1 h.c1 l.ads)) (hs3 : SepF (.slice h.A2 h.n2 h.c2) (iF .u64 lo h.A3 h.n3 h.c3 l.ses)) (hlo : w.heap.size ≤ lo) (ha : a < 4294967296) (hM : Much a p M) (hx : l.rqs = xs) (hn : h.n0 ≤ 65536) (hin : InB a M h.n0 xs) (h1 : h.n1 ≤ 65536) (h2 : h.n2 ≤ 65000) (h3 : h.n3 ≤ 65536) (hU : US w B m d ys) (hlf : s.leaf = (lf : Int)) (hlm : lf < m) (hbt : s.bit = (bt : Int)) (hb5 : bt < 32) (hm : m ≤ 65536) (hw : s.word < 18446744073709551616) (heq : gt ys lf = s.word) (hfl : fl s.word = false) :
    Calls Try.prog 28 #[.agg #[.int .u32 (a : Int), .int .i64 p, .slice A n c, .int .i64 sh, .int .i64 wo, .int .i64 qu, .int .i64 tr], .slice B m d, .agg (opv h s), .func (.func 26) #[] #[.pointer (some ⟨gPO, 0, none⟩)]] w1 (RetLoc lo h.n0 (gon a h.n0 xs (erS s 0)) (erL s l 0) m (ys.set lf (drp s.word bt)) true B gPR gPO gPH #[.int .u32 (a : Int), .int .i64 p, .slice A n c, .int .i64 sh, .int .i64 wo, .int .i64 qu, .int .i64 tr] w w1) := by
  have TG := fun w A2 n2 c2 (hn2 : n2 ≤ 65001) (hL : Lists lo w ⟨h.A0, h.n0, h.c0, h.A1, h.n1, h.c1, A2, n2, c2, h.A3, h.n3, h.c3⟩ (erL s l 0)) => Lib.hid (goes_any (w := w) (sh := sh) (wo := wo) (qu := qu) (tr := tr) (A := A) (n := n) (c := c) (h := ⟨h.A0, h.n0, h.c0, h.A1, h.n1, h.c1, A2, n2, c2, h.A3, h.n3, h.c3⟩) (s := erS s 0) ha hM hn (hL.asked hx) hin hL h1 (by show n2 ≤ 65536; omega) h3)
  have TC := fun w => Lib.hid (drop_any s.word bt hw (by omega) w)
  have hyl : drp s.word bt < U64 := drp_lt _ _
  have TFu := fun w => Lib.hid (full_any s.word hw w)
  simp only [hfl] at TFu
  clear hfl hw
  have TS : ∀ w, US w B m d ys → Hid (Calls Try.prog 44 #[.slice B m d, .int .i64 (lf : Nat), .int .u64 (s.word : Nat), .int .u64 (drp s.word bt : Nat)] w (RetSN m (ys.set lf (drp s.word bt)) w)) := fun w U => by have := swap_new U hlm hm hyl; rw [heq] at this; exact this
  clear heq hyl
  generalize drp s.word bt = y at TC TS ⊢
  clear ha hM hn hx hin h1 h3
  rcases s with ⟨kind, addr, err, aad, used, phase, shard, sought, leaf, bit, word, full, at_, tries, item, stamp⟩
  rcases h with ⟨A0, n0, c0, A1, n1, c1, A2, n2, c2, A3, n3, c3⟩
  try dsimp only at *
  subst hlf hbt
  obtain ⟨z1, hz1⟩ : ∃ z, z = w1.heap.size := ⟨_, rfl⟩
  replace L := L.sz (lo := z1) (by omega)
  replace hz1 := Lib.hid hz1
  go_enter Try.func28, Try.ntmps28
  go_upto_region 1 with (fail)
  replace L := (((L).alloc #[.int .u32 (a : Int), .int .i64 p, .slice A n c, .int .i64 sh, .int .i64 wo, .int .i64 qu, .int .i64 tr] 27).alloc (opv ⟨A0, n0, c0, A1, n1, c1, A2, n2, c2, A3, n3, c3⟩ ⟨kind, addr, err, aad, used, phase, shard, sought, (lf : Int), (bt : Int), word, full, at_, tries, item, stamp⟩) 42).alloc #[.int .i64 0, .int .u32 0, .slice none 0 0, .int .i64 0, .int .u32 0, .bool false, .slice none 0 0, .slice none 0 0, .int .i64 0, .int .i64 0, .int .i64 0, .int .i64 0, .int .i64 0, .int .u64 0, .bool false, .slice none 0 0, .int .i64 0, .int .i64 0, .int .i64 0, .int .i64 0] 42
  try simp only [World.size_alloc] at L
  replace L := L.is 0 (opv hd0 sc0) rfl
  try dsimp only [nput] at L
  generalize (((w1).alloc (.cells #[.int .u32 (a : Int), .int .i64 p, .slice A n c, .int .i64 sh, .int .i64 wo, .int .i64 qu, .int .i64 tr] 27)).alloc (.cells (opv ⟨A0, n0, c0, A1, n1, c1, A2, n2, c2, A3, n3, c3⟩ ⟨kind, addr, err, aad, used, phase, shard, sought, (lf : Int), (bt : Int), word, full, at_, tries, item, stamp⟩) 42)).alloc (.cells #[.int .i64 0, .int .u32 0, .slice none 0 0, .int .i64 0, .int .u32 0, .bool false, .slice none 0 0, .slice none 0 0, .int .i64 0, .int .i64 0, .int .i64 0, .int .i64 0, .int .i64 0, .int .u64 0, .bool false, .slice none 0 0, .int .i64 0, .int .i64 0, .int .i64 0, .int .i64 0] 42) = w6 at L ⊢
  generalize w1.heap.size + 1 + 1 = gR at L ⊢
  generalize w1.heap.size + 1 = gO at L ⊢
  generalize w1.heap.size = gH at L ⊢
  replace L := L.drew
  refine wp_region_held_drew (S := fun w' => Loc w w' [(gR, 42, opv hd0 sc0), (gO, 42, opv ⟨A0, n0, c0, A1, n1, c1, A2, n2, c2, A3, n3, c3⟩ ⟨kind, addr, err, aad, used, phase, shard, sought, (lf : Int), (bt : Int), word, full, at_, tries, item, stamp⟩), (gH, 27, #[.int .u32 (a : Int), .int .i64 p, .slice A n c, .int .i64 sh, .int .i64 wo, .int .i64 qu, .int .i64 tr]), (gPR, 42, opv hd0 sc0), (gPO, 42, opv ⟨A0, n0, c0, A1, n1, c1, A2, n2, c2, A3, n3, c3⟩ ⟨kind, addr, err, aad, used, phase, shard, sought, (lf : Int), (bt : Int), word, full, at_, tries, item, stamp⟩), (gPH, 27, #[.int .u32 (a : Int), .int .i64 p, .slice A n c, .int .i64 sh, .int .i64 wo, .int .i64 qu, .int .i64 tr])] [zF z1, rF .i64 36 lo A2 n2 c2 l.ers, iF .u32 lo A0 n0 c0 l.rqs, iF .u32 lo A1 n1 c1 l.ads, iF .u64 lo A3 n3 c3 l.ses, zF lo]) (by kernel_rfl) L (fun hHeld => ?_)
  generalize w6.drew = v7 at hHeld L ⊢
  refine wpAnyH_take (i := 0) (oi := ⟨some 13, _, _, _, _, _⟩) (v := ?_) rfl (by kernel_rfl) (by kernel_rfl) (by kernel_rfl) (fun _ _ _ h => h) (Or.inl ⟨by rfl, ?_⟩) hHeld ?_
  rotate_left
  · intro ww hS
    try dsimp only at hS
    go_simp
    try with_reducible rfl
    try omega
  try simp only [Act.put, List.setIfInBounds_toArray, List.set_cons_zero, List.set_cons_succ]
  refine wpAnyH_take (i := 1) (oi := ⟨some 14, _, _, _, _, _⟩) (v := .pointer (some ⟨gO, 11, none⟩)) rfl (by kernel_rfl) (by kernel_rfl) (by kernel_rfl) (fun _ _ _ h => h) (Or.inl ⟨by rfl, ?_⟩) hHeld ?_
  · intro ww hS
    try dsimp only at hS
    go_simp
    try with_reducible rfl
    try omega
  try simp only [Act.put, List.setIfInBounds_toArray, List.set_cons_zero, List.set_cons_succ]
  refine wpAnyH_take (i := 2) (oi := ⟨some 15, _, _, _, _, _⟩) (v := .int .i64 (lf : Int)) rfl (by kernel_rfl) (by kernel_rfl) (by kernel_rfl) (fun _ _ _ h => h) (Or.inl ⟨by rfl, ?_⟩) hHeld ?_
  · intro ww hS
    try dsimp only at hS
    have O_11 := (hS).at_ 1 11 rfl (v := .int .i64 (lf : Int)) rfl
    have O_z := (hS).lt 1 rfl
    go_simp
    try with_reducible rfl
    try omega
  try simp only [Act.put, List.setIfInBounds_toArray, List.set_cons_zero, List.set_cons_succ]
  refine wpAnyH_take (i := 3) (oi := ⟨some 16, _, _, _, _, _⟩) (v := .pointer (some ⟨gO, 13, none⟩)) rfl (by kernel_rfl) (by kernel_rfl) (by kernel_rfl) (fun _ _ _ h => h) (Or.inl ⟨by rfl, ?_⟩) hHeld ?_
  · intro ww hS
    try dsimp only at hS
    go_simp
    try with_reducible rfl
    try omega
  try simp only [Act.put, List.setIfInBounds_toArray, List.set_cons_zero, List.set_cons_succ]
  refine wpAnyH_take (i := 4) (oi := ⟨some 17, _, _, _, _, _⟩) (v := .int .u64 ((word : Nat) : Int)) rfl (by kernel_rfl) (by kernel_rfl) (by kernel_rfl) (fun _ _ _ h => h) (Or.inl ⟨by rfl, ?_⟩) hHeld ?_
  · intro ww hS
    try dsimp only at hS
    have O_13 := (hS).at_ 1 13 rfl (v := .int .u64 ((word : Nat) : Int)) rfl
    have O_z := (hS).lt 1 rfl
    go_simp
    try with_reducible rfl
    try omega
  try simp only [Act.put, List.setIfInBounds_toArray, List.set_cons_zero, List.set_cons_succ]
  refine wpAnyH_take (i := 5) (oi := ⟨some 18, _, _, _, _, _⟩) (v := .pointer (some ⟨gO, 13, none⟩)) rfl (by kernel_rfl) (by kernel_rfl) (by kernel_rfl) (fun _ _ _ h => h) (Or.inl ⟨by rfl, ?_⟩) hHeld ?_
  · intro ww hS
    try dsimp only at hS
    go_simp
    try with_reducible rfl
    try omega
  try simp only [Act.put, List.setIfInBounds_toArray, List.set_cons_zero, List.set_cons_succ]
  refine wpAnyH_take (i := 6) (oi := ⟨some 19, _, _, _, _, _⟩) (v := .int .u64 ((word : Nat) : Int)) rfl (by kernel_rfl) (by kernel_rfl) (by kernel_rfl) (fun _ _ _ h => h) (Or.inl ⟨by rfl, ?_⟩) hHeld ?_
  · intro ww hS
    try dsimp only at hS
    have O_13 := (hS).at_ 1 13 rfl (v := .int .u64 ((word : Nat) : Int)) rfl
    have O_z := (hS).lt 1 rfl
    go_simp
    try with_reducible rfl
    try omega
  try simp only [Act.put, List.setIfInBounds_toArray, List.set_cons_zero, List.set_cons_succ]
  refine wpAnyH_take (i := 7) (oi := ⟨some 20, _, _, _, _, _⟩) (v := .pointer (some ⟨gO, 12, none⟩)) rfl (by kernel_rfl) (by kernel_rfl) (by kernel_rfl) (fun _ _ _ h => h) (Or.inl ⟨by rfl, ?_⟩) hHeld ?_
  · intro ww hS
    try dsimp only at hS
    go_simp
    try with_reducible rfl
    try omega
  try simp only [Act.put, List.setIfInBounds_toArray, List.set_cons_zero, List.set_cons_succ]
  refine wpAnyH_take (i := 8) (oi := ⟨some 21, _, _, _, _, _⟩) (v := .int .i64 (bt : Int)) rfl (by kernel_rfl) (by kernel_rfl) (by kernel_rfl) (fun _ _ _ h => h) (Or.inl ⟨by rfl, ?_⟩) hHeld ?_
  · intro ww hS
    try dsimp only at hS
    have O_12 := (hS).at_ 1 12 rfl (v := .int .i64 (bt : Int)) rfl
    have O_z := (hS).lt 1 rfl
    go_simp
    try with_reducible rfl
    try omega
  try simp only [Act.put, List.setIfInBounds_toArray, List.set_cons_zero, List.set_cons_succ]
  refine wpAnyH_ready (rs := [9]) (by kernel_rfl) (by simp) ?_
  refine AllReadyH.cons (o := ⟨some 22, _, _, _, _, _⟩) rfl (fun K0 hK => ?_) AllReadyH.nil
  go_simp
  refine ((TC _).out).mono ?_
  rintro e w' ⟨rfl, rfl⟩
  refine hK.out _ _ L (fun hHeld' => ?_)
  clear hHeld hK K0
  have hHeld := hHeld'
  clear hHeld'
  try simp only [Act.put, List.setIfInBounds_toArray, List.set_cons_zero, List.set_cons_succ]
  refine wpAnyH_ready (rs := [10]) (by kernel_rfl) (by simp) ?_
  refine AllReadyH.cons (o := ⟨some 23, _, _, _, _, _⟩) rfl (fun K0 hK => ?_) AllReadyH.nil
  have KZ1 := L.sz_ 0 rfl
  have R0 := L.ri_ 1 rfl
  go_simp
  refine ((TS _ (hU.below L.K)).out).mono ?_
  rintro e w8 ⟨gS, dS, rfl, U, hgS, K'⟩
  have Lb := L.lts
  replace L := L.over K'
  replace L := L.us_av (fun i b e b' o e' => by injection e' with e'; injection e' with e1; have := Lb i b e; omega) U
  clear Lb
  try dsimp only [lF, List.cons_append, List.nil_append] at L
  have sU := R0.sep_cells (n' := m) (c := dS) (ys := ys.set lf y) hgS
  clear U R0
  replace hgS := Nat.le_trans KZ1 hgS
  rw [hz1.out] at hgS
  refine hK.out _ _ (L.less 1) (fun hHeld' => ?_)
  clear hHeld hK K0
  have hHeld := hHeld'
  clear hHeld'
  clear K'
  try simp only [Act.put, List.setIfInBounds_toArray, List.set_cons_zero, List.set_cons_succ]
  refine wpAnyH_take (i := 11) (oi := ⟨some 12, _, _, _, _, _⟩) (v := ?_) rfl (by kernel_rfl) (by kernel_rfl) (by kernel_rfl) (fun _ _ _ h => h) (Or.inl ⟨by rfl, ?_⟩) hHeld ?_
  rotate_left
  · intro ww hS
    try dsimp only at hS
    go_simp
    try with_reducible rfl
    try omega
  try simp only [Act.put, List.setIfInBounds_toArray, List.set_cons_zero, List.set_cons_succ]
  refine wpAnyH_take (i := 12) (oi := ⟨some 24, _, _, _, _, _⟩) (v := .slice (some ⟨gS, 0, none⟩) m dS) rfl (by kernel_rfl) (by kernel_rfl) (by kernel_rfl) (fun _ _ _ h => h) (Or.inl ⟨by rfl, ?_⟩) hHeld ?_
  · intro ww hS
    try dsimp only at hS
    go_simp
    try with_reducible rfl
    try omega
  try simp only [Act.put, List.setIfInBounds_toArray, List.set_cons_zero, List.set_cons_succ]
  refine wpAnyH_take (i := 13) (oi := ⟨some 25, _, _, _, _, _⟩) (v := .bool true) rfl (by kernel_rfl) (by kernel_rfl) (by kernel_rfl) (fun _ _ _ h => h) (Or.inl ⟨by rfl, ?_⟩) hHeld ?_
  · intro ww hS
    try dsimp only at hS
    go_simp
    try with_reducible rfl
    try omega
  try simp only [Act.put, List.setIfInBounds_toArray, List.set_cons_zero, List.set_cons_succ]
  refine wpAnyH_take (i := 14) (oi := ⟨some 1, _, _, _, _, _⟩) (v := .slice (some ⟨gS, 0, none⟩) m dS) rfl (by kernel_rfl) (by kernel_rfl) (by kernel_rfl) (fun _ _ _ h => h) (Or.inl ⟨by rfl, ?_⟩) hHeld ?_
  · intro ww hS
    try dsimp only at hS
    go_simp
    try with_reducible rfl
    try omega
  try simp only [Act.put, List.setIfInBounds_toArray, List.set_cons_zero, List.set_cons_succ]
  refine wpAnyH_take (i := 15) (oi := ⟨some 11, _, _, _, _, _⟩) (v := .bool true) rfl (by kernel_rfl) (by kernel_rfl) (by kernel_rfl) (fun _ _ _ h => h) (Or.inl ⟨by rfl, ?_⟩) hHeld ?_
  · intro ww hS
    try dsimp only at hS
    go_simp
    try with_reducible rfl
    try omega
  try simp only [Act.put, List.setIfInBounds_toArray, List.set_cons_zero, List.set_cons_succ]
  refine wpAnyH_done (by kernel_rfl) ?_ _
  clear hHeld
  go_wp2_with fail
  replace L := L.only (fs' := [rF .i64 36 lo A2 n2 c2 l.ers, uF (some ⟨gS, 0, none⟩) m dS (ys.set lf y), iF .u32 lo A0 n0 c0 l.rqs, iF .u32 lo A1 n1 c1 l.ads, iF .u64 lo A3 n3 c3 l.ses, zF lo, zF z1]) (by simp)
  refine (told_any (x := 0) L (SepL.cons sU (SepL.cons hs0 (SepL.cons hs1 (SepL.cons hs3 (SepL.cons SepF.z (SepL.cons SepF.z SepL.nil)))))) hlo (L.sz_ 5 rfl) (by show n2 ≤ 65000; omega)).mono ?_
  rintro e w9 ⟨A2', n2', c2', rfl, hn2', LN⟩
  replace L := LN
  replace hn2' : n2' ≤ n2 + 1 := hn2'
  try dsimp only at L
  go_upto_region 6 with (refine wpList_store_row rfl 42 (.tmp 6) (.tmp 33) rfl gO _ rfl rfl _ _ (L.bk_ 1 rfl) op_sz rfl (opv_one _ _) ?_)
  replace L := (L.row 1 rfl (opv ⟨A0, n0, c0, A1, n1, c1, A2', n2', c2', A3, n3, c3⟩ (erS ⟨kind, addr, err, aad, used, phase, shard, sought, (lf : Int), (bt : Int), word, full, at_, tries, item, stamp⟩ 0)))
  try dsimp only [nput] at L
  generalize (w9).setRow gO (opv ⟨A0, n0, c0, A1, n1, c1, A2', n2', c2', A3, n3, c3⟩ (erS ⟨kind, addr, err, aad, used, phase, shard, sought, (lf : Int), (bt : Int), word, full, at_, tries, item, stamp⟩ 0)) = w10 at L ⊢
  have O_13 := L.at_ 1 13 rfl (v := .int .u64 ((word : Nat) : Int)) rfl
  have O_z := L.lt 1 rfl
  go_wp2_with fail
  refine ((TFu _).out).mono ?_
  rintro e w' ⟨rfl, rfl⟩
  clear O_13 O_z
  go_wp2_with (first | (refine wpList_load_row rfl 27 (.tmp 4) rfl gH rfl _ _ (0, 0) _ (L.bk_ 2 rfl) Try.underlying27 rfl cf_sz ?_) | (refine wpList_load_row rfl 42 (.tmp 6) rfl gO rfl _ _ (0, 0) _ (L.bk_ 1 rfl) Try.underlying42 rfl op_sz ?_))
  have KZ := L.sz_ 5 rfl
  refine ((TG _ _ _ _ (by omega) (lists_row (L.is_ 2 rfl) (L.is_ 3 rfl) (L.ri_ 0 rfl) (L.is_ 4 rfl))).out).mono ?_
  rintro e w11 ⟨A0', c0', A1', c1', A2'', c2'', A3', c3', rfl, L', K'⟩
  have Lb := L.lts
  replace L := L.over K'
  replace L := L.lists Lb L'
  clear Lb
  try dsimp only [lF, List.cons_append, List.nil_append] at L
  clear L'
  go_wp2_with (refine wpList_store_row rfl 42 (.tmp 9) (.tmp 41) rfl gR _ rfl rfl _ _ (L.bk_ 0 rfl) op_sz rfl (opv_one _ _) ?_)
  replace L := (L.row 0 rfl (opv ⟨A0', n0, c0', A1', n1, c1', A2'', n2', c2'', A3', n3, c3'⟩ (gon a n0 xs (erS ⟨kind, addr, err, aad, used, phase, shard, sought, (lf : Int), (bt : Int), word, full, at_, tries, item, stamp⟩ 0))))
  try dsimp only [nput] at L
  generalize (w11).setRow gR (opv ⟨A0', n0, c0', A1', n1, c1', A2'', n2', c2'', A3', n3, c3'⟩ (gon a n0 xs (erS ⟨kind, addr, err, aad, used, phase, shard, sought, (lf : Int), (bt : Int), word, full, at_, tries, item, stamp⟩ 0))) = w12 at L ⊢
  refine bodyPost_ret (v := .tuple #[.slice (some ⟨gS, 0, none⟩) m dS, .agg (opv ⟨A0', n0, c0', A1', n1, c1', A2'', n2', c2'', A3', n3, c3'⟩ (gon a n0 xs (erS ⟨kind, addr, err, aad, used, phase, shard, sought, (lf : Int), (bt : Int), word, full, at_, tries, item, stamp⟩ 0))), .bool true]) ?_ rfl ?_
  · exact results_tct (fn := Try.f28) Try.results28 _ _ gR _ _ (0, 0) _ rfl (L.bk_ 0 rfl) Try.underlying42 rfl op_sz
  exact ⟨_, _, _, _, _, _, _, _, _, _, _, _, _, _, rfl, L.us_ 5 rfl, (L.lists_at 0 rfl).lower_ KZ, fun k hk _ b o e => by injection e with e; injection e with e1; omega, ((((L.del 0).del 0).del 0).only (fun f h => by cases h))⟩
theorem drop_hit (L : Loc w w1 [(gPR, 42, opv hd0 sc0), (gPO, 42, opv h s), (gPH, 27, #[.int .u32 (a : Int), .int .i64 p, .slice A n c, .int .i64 sh, .int .i64 wo, .int .i64 qu, .int .i64 tr])] [rF .i64 36 lo h.A2 h.n2 h.c2 l.ers, iF .u32 lo h.A0 h.n0 h.c0 l.rqs, iF .u32 lo h.A1 h.n1 h.c1 l.ads, iF .u64 lo h.A3 h.n3 h.c3 l.ses, zF lo]) (hs0 : SepF (.slice h.A2 h.n2 h.c2) (iF .u32 lo h.A0 h.n0 h.c0 l.rqs)) (hs1 : SepF (.slice h.A2 h.n2 h.c2) (iF .u32 lo h.A1 h.n1 h.c1 l.ads)) (hs3 : SepF (.slice h.A2 h.n2 h.c2) (iF .u64 lo h.A3 h.n3 h.c3 l.ses)) (hlo : w.heap.size ≤ lo) (ha : a < 4294967296) (hM : Much a p M) (hx : l.rqs = xs) (hn : h.n0 ≤ 65536) (hin : InB a M h.n0 xs) (h1 : h.n1 ≤ 65536) (h2 : h.n2 ≤ 65000) (h3 : h.n3 ≤ 65536) (hU : US w B m d ys) (hlf : s.leaf = (lf : Int)) (hlm : lf < m) (hbt : s.bit = (bt : Int)) (hb5 : bt < 32) (hm : m ≤ 65536) (hw : s.word < 18446744073709551616) (heq : gt ys lf = s.word) :
    Calls Try.prog 28 #[.agg #[.int .u32 (a : Int), .int .i64 p, .slice A n c, .int .i64 sh, .int .i64 wo, .int .i64 qu, .int .i64 tr], .slice B m d, .agg (opv h s), .func (.func 26) #[] #[.pointer (some ⟨gPO, 0, none⟩)]] w1 (RetLoc lo h.n0 (hitS a h.n0 xs s) (erL s l 0) m (ys.set lf (drp s.word bt)) true B gPR gPO gPH #[.int .u32 (a : Int), .int .i64 p, .slice A n c, .int .i64 sh, .int .i64 wo, .int .i64 qu, .int .i64 tr] w w1) := by
  unfold hitS
  cases hfl : fl s.word with
  | true => rw [if_pos rfl]; exact drop_full L hs0 hs1 hs3 hlo ha hM hx hn hin h1 h2 h3 hU hlf hlm hbt hb5 hm hw heq hfl
  | false => rw [if_neg Bool.false_ne_true]; exact drop_go L hs0 hs1 hs3 hlo ha hM hx hn hin h1 h2 h3 hU hlf hlm hbt hb5 hm hw heq hfl
end
end Go.Proofs.Ytafdlofmgefdoaa
