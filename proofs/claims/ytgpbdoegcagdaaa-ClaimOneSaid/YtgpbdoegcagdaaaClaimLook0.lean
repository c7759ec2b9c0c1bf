/-
  What claim.again and claim.look answer. Conditions: numbers that fit.
-/
import Derived.Test.YtgpbdoegcagdaaaClaimMath
namespace Go.Proofs.Ytgpbdoegcagdaaa
open Go.RowKit
set_option linter.unusedVariables false
section
variable {w : World} {lo a M m d lf bt : Nat} {p sh wo qu tr : Int} {A B : Option Addr} {n c : Nat} {xs : List Int} {ys : List Nat} {h : Hd} {s : Sc} {l : Ls}
set_option maxRecDepth 100000 in
set_option maxHeartbeats 2000000 in
theorem again_grant (hk : s.kind = 1) :
    Calls Try.prog 46 #[.agg (opv h s)] w (RetOp h (againS s) w) := by
  have hk2 : s.kind = 1 := hk
  have e0 : (s.kind == 1) = true := by simp [hk]
  rw [show againS s = ⟨s.kind, s.addr, s.err, s.aad, s.used, 2, s.shard, s.sought, s.leaf, s.bit, 0, s.full, s.at_, s.tries, s.item, s.stamp⟩ by unfold againS; rw [if_pos hk]]
  clear hk hk2
  rcases s with ⟨kind, addr, err, aad, used, phase, shard, sought, leaf, bit, word, full, at_, tries, item, stamp⟩
  rcases h with ⟨A0, n0, c0, A1, n1, c1, A2, n2, c2, A3, n3, c3⟩
  dsimp only at *
  go_enter Try.func46, Try.ntmps46
  go_upto_region 1 with (fail)
  have L := Loc.start w
  replace L := ((L).alloc (opv ⟨A0, n0, c0, A1, n1, c1, A2, n2, c2, A3, n3, c3⟩ ⟨kind, addr, err, aad, used, phase, shard, sought, leaf, bit, word, full, at_, tries, item, stamp⟩) 42).alloc #[.int .i64 0, .int .u32 0, .slice none 0 0, .int .i64 0, .int .u32 0, .bool false, .slice none 0 0, .slice none 0 0, .int .i64 0, .int .i64 0, .int .i64 0, .int .i64 0, .int .i64 0, .int .u64 0, .bool false, .slice none 0 0, .int .i64 0, .int .i64 0, .int .i64 0, .int .i64 0] 42
  try simp only [World.size_alloc] at L
  replace L := L.is 0 (opv hd0 sc0) rfl
  try dsimp only [nput] at L
  generalize ((w).alloc (.cells (opv ⟨A0, n0, c0, A1, n1, c1, A2, n2, c2, A3, n3, c3⟩ ⟨kind, addr, err, aad, used, phase, shard, sought, leaf, bit, word, full, at_, tries, item, stamp⟩) 42)).alloc (.cells #[.int .i64 0, .int .u32 0, .slice none 0 0, .int .i64 0, .int .u32 0, .bool false, .slice none 0 0, .slice none 0 0, .int .i64 0, .int .i64 0, .int .i64 0, .int .i64 0, .int .i64 0, .int .u64 0, .bool false, .slice none 0 0, .int .i64 0, .int .i64 0, .int .i64 0, .int .i64 0] 42) = w1 at L ⊢
  generalize w.heap.size + 1 = gR at L ⊢
  generalize w.heap.size = gO at L ⊢
  have O_8 := L.at_ 1 8 rfl (v := .int .i64 phase) rfl
  have O_13 := L.at_ 1 13 rfl (v := .int .u64 ((word : Nat) : Int)) rfl
  have O_z := L.lt 1 rfl
  have O_f8 := L.fz 1 8 rfl
  have O_f13 := L.fz 1 13 rfl
  go_upto_region 2 with fail
  clear O_8 O_13 O_z O_f8 O_f13
  replace L := (((L.set 1 8 rfl (.int .i64 8)).set 1 13 rfl (.int .u64 0)).is 1 (opv ⟨A0, n0, c0, A1, n1, c1, A2, n2, c2, A3, n3, c3⟩ ⟨kind, addr, err, aad, used, 8, shard, sought, leaf, bit, 0, full, at_, tries, item, stamp⟩) rfl)
  try dsimp only [nput] at L
  generalize ((w1).setCell ⟨gO, 8, none⟩ (.int .i64 8)).setCell ⟨gO, 13, none⟩ (.int .u64 0) = w2 at L ⊢
  have O_0 := L.at_ 1 0 rfl (v := .int .i64 kind) rfl
  have O_8 := L.at_ 1 8 rfl (v := .int .i64 8) rfl
  have O_z := L.lt 1 rfl
  have O_f8 := L.fz 1 8 rfl
  go_upto_region 4 with fail
  clear O_0 O_8 O_z O_f8
  replace L := ((L.set 1 8 rfl (.int .i64 2)).is 1 (opv ⟨A0, n0, c0, A1, n1, c1, A2, n2, c2, A3, n3, c3⟩ ⟨kind, addr, err, aad, used, 2, shard, sought, leaf, bit, 0, full, at_, tries, item, stamp⟩) rfl)
  try dsimp only [nput] at L
  generalize (w2).setCell ⟨gO, 8, none⟩ (.int .i64 2) = w3 at L ⊢
  go_wp2_with (first | (refine wpList_load_row rfl 42 (.tmp 1) rfl gO rfl _ _ (0, 0) _ (L.bk_ 1 rfl) Try.underlying42 rfl op_sz ?_) | (refine wpList_store_row rfl 42 (.tmp 2) (.tmp 10) rfl gR _ rfl rfl _ _ (L.bk_ 0 rfl) op_sz rfl (opv_one _ _) ?_))
  replace L := (L.row 0 rfl (opv ⟨A0, n0, c0, A1, n1, c1, A2, n2, c2, A3, n3, c3⟩ ⟨kind, addr, err, aad, used, 2, shard, sought, leaf, bit, 0, full, at_, tries, item, stamp⟩))
  try dsimp only [nput] at L
  generalize (w3).setRow gR (opv ⟨A0, n0, c0, A1, n1, c1, A2, n2, c2, A3, n3, c3⟩ ⟨kind, addr, err, aad, used, 2, shard, sought, leaf, bit, 0, full, at_, tries, item, stamp⟩) = w4 at L ⊢
  refine bodyPost_ret (v := .agg (opv ⟨A0, n0, c0, A1, n1, c1, A2, n2, c2, A3, n3, c3⟩ ⟨kind, addr, err, aad, used, 2, shard, sought, leaf, bit, 0, full, at_, tries, item, stamp⟩)) ?_ rfl ?_
  · exact results_cell_row (fn := Try.f46) Try.results46 _ _ gR _ _ (0, 0) _ rfl (L.bk_ 0 rfl) Try.underlying42 rfl op_sz
  exact ⟨rfl, L.K⟩
set_option maxRecDepth 100000 in
set_option maxHeartbeats 2000000 in
theorem again_other (hk : s.kind ≠ 1) :
    Calls Try.prog 46 #[.agg (opv h s)] w (RetOp h (againS s) w) := by
  have e0 : (s.kind == 1) = false := by simp [hk]
  rw [show againS s = ⟨s.kind, s.addr, s.err, s.aad, s.used, 8, s.shard, s.sought, s.leaf, s.bit, 0, s.full, s.at_, s.tries, s.item, s.stamp⟩ by unfold againS; rw [if_neg hk]]
  clear hk
  rcases s with ⟨kind, addr, err, aad, used, phase, shard, sought, leaf, bit, word, full, at_, tries, item, stamp⟩
  rcases h with ⟨A0, n0, c0, A1, n1, c1, A2, n2, c2, A3, n3, c3⟩
  dsimp only at *
  go_enter Try.func46, Try.ntmps46
  go_upto_region 1 with (fail)
  have L := Loc.start w
  replace L := ((L).alloc (opv ⟨A0, n0, c0, A1, n1, c1, A2, n2, c2, A3, n3, c3⟩ ⟨kind, addr, err, aad, used, phase, shard, sought, leaf, bit, word, full, at_, tries, item, stamp⟩) 42).alloc #[.int .i64 0, .int .u32 0, .slice none 0 0, .int .i64 0, .int .u32 0, .bool false, .slice none 0 0, .slice none 0 0, .int .i64 0, .int .i64 0, .int .i64 0, .int .i64 0, .int .i64 0, .int .u64 0, .bool false, .slice none 0 0, .int .i64 0, .int .i64 0, .int .i64 0, .int .i64 0] 42
  try simp only [World.size_alloc] at L
  replace L := L.is 0 (opv hd0 sc0) rfl
  try dsimp only [nput] at L
  generalize ((w).alloc (.cells (opv ⟨A0, n0, c0, A1, n1, c1, A2, n2, c2, A3, n3, c3⟩ ⟨kind, addr, err, aad, used, phase, shard, sought, leaf, bit, word, full, at_, tries, item, stamp⟩) 42)).alloc (.cells #[.int .i64 0, .int .u32 0, .slice none 0 0, .int .i64 0, .int .u32 0, .bool false, .slice none 0 0, .slice none 0 0, .int .i64 0, .int .i64 0, .int .i64 0, .int .i64 0, .int .i64 0, .int .u64 0, .bool false, .slice none 0 0, .int .i64 0, .int .i64 0, .int .i64 0, .int .i64 0] 42) = w1 at L ⊢
  generalize w.heap.size + 1 = gR at L ⊢
  generalize w.heap.size = gO at L ⊢
  have O_8 := L.at_ 1 8 rfl (v := .int .i64 phase) rfl
  have O_13 := L.at_ 1 13 rfl (v := .int .u64 ((word : Nat) : Int)) rfl
  have O_z := L.lt 1 rfl
  have O_f8 := L.fz 1 8 rfl
  have O_f13 := L.fz 1 13 rfl
  go_upto_region 2 with fail
  clear O_8 O_13 O_z O_f8 O_f13
  replace L := (((L.set 1 8 rfl (.int .i64 8)).set 1 13 rfl (.int .u64 0)).is 1 (opv ⟨A0, n0, c0, A1, n1, c1, A2, n2, c2, A3, n3, c3⟩ ⟨kind, addr, err, aad, used, 8, shard, sought, leaf, bit, 0, full, at_, tries, item, stamp⟩) rfl)
  try dsimp only [nput] at L
  generalize ((w1).setCell ⟨gO, 8, none⟩ (.int .i64 8)).setCell ⟨gO, 13, none⟩ (.int .u64 0) = w2 at L ⊢
  have O_0 := L.at_ 1 0 rfl (v := .int .i64 kind) rfl
  have O_z := L.lt 1 rfl
  go_wp2_with (first | (refine wpList_load_row rfl 42 (.tmp 1) rfl gO rfl _ _ (0, 0) _ (L.bk_ 1 rfl) Try.underlying42 rfl op_sz ?_) | (refine wpList_store_row rfl 42 (.tmp 2) (.tmp 10) rfl gR _ rfl rfl _ _ (L.bk_ 0 rfl) op_sz rfl (opv_one _ _) ?_))
  clear O_0 O_z
  replace L := (L.row 0 rfl (opv ⟨A0, n0, c0, A1, n1, c1, A2, n2, c2, A3, n3, c3⟩ ⟨kind, addr, err, aad, used, 8, shard, sought, leaf, bit, 0, full, at_, tries, item, stamp⟩))
  try dsimp only [nput] at L
  generalize (w2).setRow gR (opv ⟨A0, n0, c0, A1, n1, c1, A2, n2, c2, A3, n3, c3⟩ ⟨kind, addr, err, aad, used, 8, shard, sought, leaf, bit, 0, full, at_, tries, item, stamp⟩) = w3 at L ⊢
  refine bodyPost_ret (v := .agg (opv ⟨A0, n0, c0, A1, n1, c1, A2, n2, c2, A3, n3, c3⟩ ⟨kind, addr, err, aad, used, 8, shard, sought, leaf, bit, 0, full, at_, tries, item, stamp⟩)) ?_ rfl ?_
  · exact results_cell_row (fn := Try.f46) Try.results46 _ _ gR _ _ (0, 0) _ rfl (L.bk_ 0 rfl) Try.underlying42 rfl op_sz
  exact ⟨rfl, L.K⟩
theorem again_any :
    Calls Try.prog 46 #[.agg (opv h s)] w (RetOp h (againS s) w) := by
  by_cases hk : s.kind = 1
  · exact again_grant hk
  · exact again_other hk
set_option maxRecDepth 100000 in
set_option maxHeartbeats 2000000 in
theorem look_found (hL : Lists lo w h l) (hU : US w B m d ys) (hlf : s.leaf = (lf : Int)) (hlm : lf < m) (hs0 : 0 ≤ s.sought) (hs1 : s.sought ≤ 65536) (hb : fb (gt ys lf) 32 = true) :
    Calls Try.prog 37 #[.agg #[.int .u32 (a : Int), .int .i64 p, .slice A n c, .int .i64 sh, .int .i64 wo, .int .i64 qu, .int .i64 tr], .slice B m d, .agg (opv h s)] w (RetStp lo h.n0 (fndS s (gt ys lf) (fi (gt ys lf) 32)) l m ys false B w) := by
  have TL := fun w (U : US w B m d ys) => Lib.hid (load_nat U lf hlm)
  have TF := fun w => Lib.hid (wfirst_any (gt ys lf) (gt_lt hU.fit lf) w)
  simp only [hb] at TF
  generalize fi (gt ys lf) 32 = f at TF ⊢
  clear hb
  generalize gt ys lf = x at TL TF ⊢
  rcases s with ⟨kind, addr, err, aad, used, phase, shard, sought, leaf, bit, word, full, at_, tries, item, stamp⟩
  rcases h with ⟨A0, n0, c0, A1, n1, c1, A2, n2, c2, A3, n3, c3⟩
  dsimp only at *
  subst hlf
  go_enter Try.func37, Try.ntmps37
  go_upto_region 1 with (fail)
  have L := Loc.start w
  replace L := (((L).alloc #[.int .u32 (a : Int), .int .i64 p, .slice A n c, .int .i64 sh, .int .i64 wo, .int .i64 qu, .int .i64 tr] 27).alloc (opv ⟨A0, n0, c0, A1, n1, c1, A2, n2, c2, A3, n3, c3⟩ ⟨kind, addr, err, aad, used, phase, shard, sought, (lf : Int), bit, word, full, at_, tries, item, stamp⟩) 42).alloc #[.int .i64 0, .int .u32 0, .slice none 0 0, .int .i64 0, .int .u32 0, .bool false, .slice none 0 0, .slice none 0 0, .int .i64 0, .int .i64 0, .int .i64 0, .int .i64 0, .int .i64 0, .int .u64 0, .bool false, .slice none 0 0, .int .i64 0, .int .i64 0, .int .i64 0, .int .i64 0] 42
  try simp only [World.size_alloc] at L
  replace L := L.is 0 (opv hd0 sc0) rfl
  try dsimp only [nput] at L
  generalize (((w).alloc (.cells #[.int .u32 (a : Int), .int .i64 p, .slice A n c, .int .i64 sh, .int .i64 wo, .int .i64 qu, .int .i64 tr] 27)).alloc (.cells (opv ⟨A0, n0, c0, A1, n1, c1, A2, n2, c2, A3, n3, c3⟩ ⟨kind, addr, err, aad, used, phase, shard, sought, (lf : Int), bit, word, full, at_, tries, item, stamp⟩) 42)).alloc (.cells #[.int .i64 0, .int .u32 0, .slice none 0 0, .int .i64 0, .int .u32 0, .bool false, .slice none 0 0, .slice none 0 0, .int .i64 0, .int .i64 0, .int .i64 0, .int .i64 0, .int .i64 0, .int .u64 0, .bool false, .slice none 0 0, .int .i64 0, .int .i64 0, .int .i64 0, .int .i64 0] 42) = w1 at L ⊢
  generalize w.heap.size + 1 + 1 = gR at L ⊢
  generalize w.heap.size + 1 = gO at L ⊢
  generalize w.heap.size = gH at L ⊢
  have O_11 := L.at_ 1 11 rfl (v := .int .i64 (lf : Int)) rfl
  have O_z := L.lt 1 rfl
  go_wp2_with fail
  refine ((TL _ (hU.below L.K)).out).mono ?_
  rintro e w' ⟨rfl, rfl⟩
  clear O_11 O_z
  go_wp2_with fail
  refine ((TF _).out).mono ?_
  rintro e w' ⟨rfl, rfl⟩
  have O_8 := L.at_ 1 8 rfl (v := .int .i64 phase) rfl
  have O_13 := L.at_ 1 13 rfl (v := .int .u64 ((word : Nat) : Int)) rfl
  have O_12 := L.at_ 1 12 rfl (v := .int .i64 bit) rfl
  have O_z := L.lt 1 rfl
  have O_f8 := L.fz 1 8 rfl
  have O_f13 := L.fz 1 13 rfl
  have O_f12 := L.fz 1 12 rfl
  go_upto_region 6 with fail
  clear O_8 O_13 O_12 O_z O_f8 O_f13 O_f12
  replace L := ((((L.set 1 8 rfl (.int .i64 3)).set 1 13 rfl (.int .u64 ((x : Nat) : Int))).set 1 12 rfl (.int .i64 (f : Int))).is 1 (opv ⟨A0, n0, c0, A1, n1, c1, A2, n2, c2, A3, n3, c3⟩ ⟨kind, addr, err, aad, used, 3, shard, sought, (lf : Int), (f : Int), x, full, at_, tries, item, stamp⟩) rfl)
  try dsimp only [nput] at L
  generalize (((w1).setCell ⟨gO, 8, none⟩ (.int .i64 3)).setCell ⟨gO, 13, none⟩ (.int .u64 ((x : Nat) : Int))).setCell ⟨gO, 12, none⟩ (.int .i64 (f : Int)) = w2 at L ⊢
  replace L := L.drew
  refine wp_region_held_drew (S := fun w' => ∃ v_R : Array Value, v_R.size = 20 ∧ Loc w w' [(gR, 42, v_R), (gO, 42, opv ⟨A0, n0, c0, A1, n1, c1, A2, n2, c2, A3, n3, c3⟩ ⟨kind, addr, err, aad, used, 3, shard, sought, (lf : Int), (f : Int), x, full, at_, tries, item, stamp⟩), (gH, 27, #[.int .u32 (a : Int), .int .i64 p, .slice A n c, .int .i64 sh, .int .i64 wo, .int .i64 qu, .int .i64 tr])] []) (by kernel_rfl) (⟨_, rfl, L⟩) (fun hHeld => ?_)
  generalize w2.drew = v3 at hHeld L ⊢
  refine wpAnyH_take (i := 0) (oi := ⟨some 32, _, _, _, _, _⟩) (v := .slice B m d) rfl (by kernel_rfl) (by kernel_rfl) (by kernel_rfl) (fun _ _ _ h => h) (Or.inl ⟨by rfl, ?_⟩) hHeld ?_
  · intro ww hS
    try dsimp only at hS
    go_simp
    try with_reducible rfl
    try omega
  try simp only [Act.put, List.setIfInBounds_toArray, List.set_cons_zero, List.set_cons_succ]
  refine wpAnyH_take (i := 1) (oi := ⟨some 33, _, _, _, _, _⟩) (v := .agg (opv ⟨A0, n0, c0, A1, n1, c1, A2, n2, c2, A3, n3, c3⟩ ⟨kind, addr, err, aad, used, 3, shard, sought, (lf : Int), (f : Int), x, full, at_, tries, item, stamp⟩)) rfl (by kernel_rfl) (by kernel_rfl) (by kernel_rfl) (fun _ _ _ h => h) (yieldsIf_load_row (by rfl) 42 (.tmp 5) rfl gO rfl 42 _ (0, 0) _ (fun _ hS => (hS.choose_spec.2).bk_ 1 rfl) Try.underlying42 rfl op_sz) hHeld ?_
  try simp only [Act.put, List.setIfInBounds_toArray, List.set_cons_zero, List.set_cons_succ]
  refine wpAnyH_take (i := 2) (oi := ⟨some 6, _, _, _, _, _⟩) (v := .slice B m d) rfl (by kernel_rfl) (by kernel_rfl) (by kernel_rfl) (fun _ _ _ h => h) (Or.inl ⟨by rfl, ?_⟩) hHeld ?_
  · intro ww hS
    try dsimp only at hS
    go_simp
    try with_reducible rfl
    try omega
  try simp only [Act.put, List.setIfInBounds_toArray, List.set_cons_zero, List.set_cons_succ]
  refine wpAnyH_ready (rs := [3]) (by kernel_rfl) (by simp) ?_
  refine AllReadyH.cons (o := ⟨none, _, _, _, _, _⟩) rfl (fun K0 hK => ?_) AllReadyH.nil
  rw [if_pos (by rfl)]
  refine wp_store_row 42 (.tmp 7) (.tmp 33) rfl gR _ rfl rfl _ _ (L.bk_ 0 rfl) op_sz rfl (opv_one _ _) ?_
  replace L := L.row 0 rfl (opv ⟨A0, n0, c0, A1, n1, c1, A2, n2, c2, A3, n3, c3⟩ ⟨kind, addr, err, aad, used, 3, shard, sought, (lf : Int), (f : Int), x, full, at_, tries, item, stamp⟩)
  try dsimp only [nput] at L
  refine hK.out _ _ ⟨_, rfl, L⟩ (fun hHeld' => ?_)
  clear hHeld hK K0
  have hHeld := hHeld'
  clear hHeld'
  generalize v3.setRow gR (opv ⟨A0, n0, c0, A1, n1, c1, A2, n2, c2, A3, n3, c3⟩ ⟨kind, addr, err, aad, used, 3, shard, sought, (lf : Int), (f : Int), x, full, at_, tries, item, stamp⟩) = v4 at hHeld L ⊢
  try simp only [Act.put]
  refine wpAnyH_take (i := 4) (oi := ⟨some 8, _, _, _, _, _⟩) (v := .bool false) rfl (by kernel_rfl) (by kernel_rfl) (by kernel_rfl) (fun _ _ _ h => h) (Or.inl ⟨by rfl, ?_⟩) hHeld ?_
  · intro ww hS
    try dsimp only at hS
    go_simp
    try with_reducible rfl
    try omega
  try simp only [Act.put, List.setIfInBounds_toArray, List.set_cons_zero, List.set_cons_succ]
  refine wpAnyH_done (by kernel_rfl) ?_ _
  clear hHeld
  go_wp2
  refine bodyPost_ret (v := .tuple #[.slice B m d, .agg (opv ⟨A0, n0, c0, A1, n1, c1, A2, n2, c2, A3, n3, c3⟩ ⟨kind, addr, err, aad, used, 3, shard, sought, (lf : Int), (f : Int), x, full, at_, tries, item, stamp⟩), .bool false]) ?_ rfl ?_
  · exact results_tct (fn := Try.f37) Try.results37 _ _ gR _ _ (0, 0) _ rfl (L.bk_ 0 rfl) Try.underlying42 rfl op_sz
  exact ⟨_, _, _, _, _, _, _, _, _, _, _, _, _, rfl, hU.below L.K, hL.below L.K, fun k _ h => h, L.K⟩
set_option maxRecDepth 100000 in
set_option maxHeartbeats 2000000 in
theorem look_seek (hL : Lists lo w h l) (hU : US w B m d ys) (hlf : s.leaf = (lf : Int)) (hlm : lf < m) (hs0 : 0 ≤ s.sought) (hs1 : s.sought ≤ 65536) (hb : fb (gt ys lf) 32 = false) (hlt : s.sought + 1 < sh) :
    Calls Try.prog 37 #[.agg #[.int .u32 (a : Int), .int .i64 p, .slice A n c, .int .i64 sh, .int .i64 wo, .int .i64 qu, .int .i64 tr], .slice B m d, .agg (opv h s)] w (RetStp lo h.n0 (seekS s) l m ys false B w) := by
  have TL := fun w (U : US w B m d ys) => Lib.hid (load_nat U lf hlm)
  have TF := fun w => Lib.hid (wfirst_any (gt ys lf) (gt_lt hU.fit lf) w)
  simp only [hb] at TF
  generalize fi (gt ys lf) 32 = f at TF ⊢
  clear hb
  generalize gt ys lf = x at TL TF ⊢
  have TE := fun w => Lib.hid (else_seek (w := w) (a := a) (p := p) (wo := wo) (qu := qu) (tr := tr) (A := A) (n := n) (c := c) (h := h) hs0 hs1 hlt)
  clear hs0 hs1 hlt
  rcases s with ⟨kind, addr, err, aad, used, phase, shard, sought, leaf, bit, word, full, at_, tries, item, stamp⟩
  rcases h with ⟨A0, n0, c0, A1, n1, c1, A2, n2, c2, A3, n3, c3⟩
  dsimp only at *
  subst hlf
  go_enter Try.func37, Try.ntmps37
  go_upto_region 1 with (fail)
  have L := Loc.start w
  replace L := (((L).alloc #[.int .u32 (a : Int), .int .i64 p, .slice A n c, .int .i64 sh, .int .i64 wo, .int .i64 qu, .int .i64 tr] 27).alloc (opv ⟨A0, n0, c0, A1, n1, c1, A2, n2, c2, A3, n3, c3⟩ ⟨kind, addr, err, aad, used, phase, shard, sought, (lf : Int), bit, word, full, at_, tries, item, stamp⟩) 42).alloc #[.int .i64 0, .int .u32 0, .slice none 0 0, .int .i64 0, .int .u32 0, .bool false, .slice none 0 0, .slice none 0 0, .int .i64 0, .int .i64 0, .int .i64 0, .int .i64 0, .int .i64 0, .int .u64 0, .bool false, .slice none 0 0, .int .i64 0, .int .i64 0, .int .i64 0, .int .i64 0] 42
  try simp only [World.size_alloc] at L
  replace L := L.is 0 (opv hd0 sc0) rfl
  try dsimp only [nput] at L
  generalize (((w).alloc (.cells #[.int .u32 (a : Int), .int .i64 p, .slice A n c, .int .i64 sh, .int .i64 wo, .int .i64 qu, .int .i64 tr] 27)).alloc (.cells (opv ⟨A0, n0, c0, A1, n1, c1, A2, n2, c2, A3, n3, c3⟩ ⟨kind, addr, err, aad, used, phase, shard, sought, (lf : Int), bit, word, full, at_, tries, item, stamp⟩) 42)).alloc (.cells #[.int .i64 0, .int .u32 0, .slice none 0 0, .int .i64 0, .int .u32 0, .bool false, .slice none 0 0, .slice none 0 0, .int .i64 0, .int .i64 0, .int .i64 0, .int .i64 0, .int .i64 0, .int .u64 0, .bool false, .slice none 0 0, .int .i64 0, .int .i64 0, .int .i64 0, .int .i64 0] 42) = w1 at L ⊢
  generalize w.heap.size + 1 + 1 = gR at L ⊢
  generalize w.heap.size + 1 = gO at L ⊢
  generalize w.heap.size = gH at L ⊢
  have O_11 := L.at_ 1 11 rfl (v := .int .i64 (lf : Int)) rfl
  have O_z := L.lt 1 rfl
  go_wp2_with fail
  refine ((TL _ (hU.below L.K)).out).mono ?_
  rintro e w' ⟨rfl, rfl⟩
  clear O_11 O_z
  go_wp2_with fail
  refine ((TF _).out).mono ?_
  rintro e w' ⟨rfl, rfl⟩
  go_wp2_with (first | (refine wpList_load_row rfl 27 (.tmp 3) rfl gH rfl _ _ (0, 0) _ (L.bk_ 2 rfl) Try.underlying27 rfl cf_sz ?_) | (refine wpList_load_row rfl 42 (.tmp 5) rfl gO rfl _ _ (0, 0) _ (L.bk_ 1 rfl) Try.underlying42 rfl op_sz ?_))
  refine ((TE _).out).mono ?_
  rintro e w2 ⟨rfl, K'⟩
  replace L := L.over K'
  go_wp2_with (refine wpList_store_row rfl 42 (.tmp 7) (.tmp 26) rfl gR _ rfl rfl _ _ (L.bk_ 0 rfl) op_sz rfl (opv_one _ _) ?_)
  replace L := (L.row 0 rfl (opv ⟨A0, n0, c0, A1, n1, c1, A2, n2, c2, A3, n3, c3⟩ (seekS ⟨kind, addr, err, aad, used, phase, shard, sought, (lf : Int), bit, word, full, at_, tries, item, stamp⟩)))
  try dsimp only [nput] at L
  generalize (w2).setRow gR (opv ⟨A0, n0, c0, A1, n1, c1, A2, n2, c2, A3, n3, c3⟩ (seekS ⟨kind, addr, err, aad, used, phase, shard, sought, (lf : Int), bit, word, full, at_, tries, item, stamp⟩)) = w3 at L ⊢
  refine bodyPost_ret (v := .tuple #[.slice B m d, .agg (opv ⟨A0, n0, c0, A1, n1, c1, A2, n2, c2, A3, n3, c3⟩ (seekS ⟨kind, addr, err, aad, used, phase, shard, sought, (lf : Int), bit, word, full, at_, tries, item, stamp⟩)), .bool false]) ?_ rfl ?_
  · exact results_tct (fn := Try.f37) Try.results37 _ _ gR _ _ (0, 0) _ rfl (L.bk_ 0 rfl) Try.underlying42 rfl op_sz
  exact ⟨_, _, _, _, _, _, _, _, _, _, _, _, _, rfl, hU.below L.K, hL.below L.K, fun k _ h => h, L.K⟩
set_option maxRecDepth 100000 in
set_option maxHeartbeats 2000000 in
theorem look_first (hL : Lists lo w h l) (hU : US w B m d ys) (hlf : s.leaf = (lf : Int)) (hlm : lf < m) (hs0 : 0 ≤ s.sought) (hs1 : s.sought ≤ 65536) (hb : fb (gt ys lf) 32 = false) (hlt : ¬ s.sought + 1 < sh) :
    Calls Try.prog 37 #[.agg #[.int .u32 (a : Int), .int .i64 p, .slice A n c, .int .i64 sh, .int .i64 wo, .int .i64 qu, .int .i64 tr], .slice B m d, .agg (opv h s)] w (RetStp lo h.n0 (firstS s) ⟨l.rqs, l.ads, l.ers, []⟩ m ys false B w) := by
  have TL := fun w (U : US w B m d ys) => Lib.hid (load_nat U lf hlm)
  have TF := fun w => Lib.hid (wfirst_any (gt ys lf) (gt_lt hU.fit lf) w)
  simp only [hb] at TF
  generalize fi (gt ys lf) 32 = f at TF ⊢
  clear hb
  generalize gt ys lf = x at TL TF ⊢
  have TE := fun w => Lib.hid (else_first (w := w) (a := a) (p := p) (wo := wo) (qu := qu) (tr := tr) (A := A) (n := n) (c := c) (h := h) hs0 hs1 hlt)
  clear hs0 hs1 hlt
  rcases s with ⟨kind, addr, err, aad, used, phase, shard, sought, leaf, bit, word, full, at_, tries, item, stamp⟩
  rcases h with ⟨A0, n0, c0, A1, n1, c1, A2, n2, c2, A3, n3, c3⟩
  dsimp only at *
  subst hlf
  go_enter Try.func37, Try.ntmps37
  go_upto_region 1 with (fail)
  have L := Loc.start w
  replace L := (((L).alloc #[.int .u32 (a : Int), .int .i64 p, .slice A n c, .int .i64 sh, .int .i64 wo, .int .i64 qu, .int .i64 tr] 27).alloc (opv ⟨A0, n0, c0, A1, n1, c1, A2, n2, c2, A3, n3, c3⟩ ⟨kind, addr, err, aad, used, phase, shard, sought, (lf : Int), bit, word, full, at_, tries, item, stamp⟩) 42).alloc #[.int .i64 0, .int .u32 0, .slice none 0 0, .int .i64 0, .int .u32 0, .bool false, .slice none 0 0, .slice none 0 0, .int .i64 0, .int .i64 0, .int .i64 0, .int .i64 0, .int .i64 0, .int .u64 0, .bool false, .slice none 0 0, .int .i64 0, .int .i64 0, .int .i64 0, .int .i64 0] 42
  try simp only [World.size_alloc] at L
  replace L := L.is 0 (opv hd0 sc0) rfl
  try dsimp only [nput] at L
  generalize (((w).alloc (.cells #[.int .u32 (a : Int), .int .i64 p, .slice A n c, .int .i64 sh, .int .i64 wo, .int .i64 qu, .int .i64 tr] 27)).alloc (.cells (opv ⟨A0, n0, c0, A1, n1, c1, A2, n2, c2, A3, n3, c3⟩ ⟨kind, addr, err, aad, used, phase, shard, sought, (lf : Int), bit, word, full, at_, tries, item, stamp⟩) 42)).alloc (.cells #[.int .i64 0, .int .u32 0, .slice none 0 0, .int .i64 0, .int .u32 0, .bool false, .slice none 0 0, .slice none 0 0, .int .i64 0, .int .i64 0, .int .i64 0, .int .i64 0, .int .i64 0, .int .u64 0, .bool false, .slice none 0 0, .int .i64 0, .int .i64 0, .int .i64 0, .int .i64 0] 42) = w1 at L ⊢
  generalize w.heap.size + 1 + 1 = gR at L ⊢
  generalize w.heap.size + 1 = gO at L ⊢
  generalize w.heap.size = gH at L ⊢
  have O_11 := L.at_ 1 11 rfl (v := .int .i64 (lf : Int)) rfl
  have O_z := L.lt 1 rfl
  go_wp2_with fail
  refine ((TL _ (hU.below L.K)).out).mono ?_
  rintro e w' ⟨rfl, rfl⟩
  clear O_11 O_z
  go_wp2_with fail
  refine ((TF _).out).mono ?_
  rintro e w' ⟨rfl, rfl⟩
  go_wp2_with (first | (refine wpList_load_row rfl 27 (.tmp 3) rfl gH rfl _ _ (0, 0) _ (L.bk_ 2 rfl) Try.underlying27 rfl cf_sz ?_) | (refine wpList_load_row rfl 42 (.tmp 5) rfl gO rfl _ _ (0, 0) _ (L.bk_ 1 rfl) Try.underlying42 rfl op_sz ?_))
  refine ((TE _).out).mono ?_
  rintro e w2 ⟨rfl, K'⟩
  replace L := L.over K'
  go_wp2_with (refine wpList_store_row rfl 42 (.tmp 7) (.tmp 26) rfl gR _ rfl rfl _ _ (L.bk_ 0 rfl) op_sz rfl (opv_one _ _) ?_)
  replace L := (L.row 0 rfl (opv ⟨A0, n0, c0, A1, n1, c1, A2, n2, c2, none, 0, 0⟩ (firstS ⟨kind, addr, err, aad, used, phase, shard, sought, (lf : Int), bit, word, full, at_, tries, item, stamp⟩)))
  try dsimp only [nput] at L
  generalize (w2).setRow gR (opv ⟨A0, n0, c0, A1, n1, c1, A2, n2, c2, none, 0, 0⟩ (firstS ⟨kind, addr, err, aad, used, phase, shard, sought, (lf : Int), bit, word, full, at_, tries, item, stamp⟩)) = w3 at L ⊢
  refine bodyPost_ret (v := .tuple #[.slice B m d, .agg (opv ⟨A0, n0, c0, A1, n1, c1, A2, n2, c2, none, 0, 0⟩ (firstS ⟨kind, addr, err, aad, used, phase, shard, sought, (lf : Int), bit, word, full, at_, tries, item, stamp⟩)), .bool false]) ?_ rfl ?_
  · exact results_tct (fn := Try.f37) Try.results37 _ _ gR _ _ (0, 0) _ rfl (L.bk_ 0 rfl) Try.underlying42 rfl op_sz
  exact ⟨_, _, _, _, _, _, _, _, _, _, _, _, _, rfl, hU.below L.K, ⟨(hL.below L.K).i0, (hL.below L.K).i1, (hL.below L.K).i2, IS.none_ _ _ _⟩, fun k _ h => h, L.K⟩
theorem look_any (hL : Lists lo w h l) (hU : US w B m d ys) (hlf : s.leaf = (lf : Int)) (hlm : lf < m) (hs0 : 0 ≤ s.sought) (hs1 : s.sought ≤ 65536) :
    Calls Try.prog 37 #[.agg #[.int .u32 (a : Int), .int .i64 p, .slice A n c, .int .i64 sh, .int .i64 wo, .int .i64 qu, .int .i64 tr], .slice B m d, .agg (opv h s)] w (RetStp lo h.n0 (lookS sh (gt ys lf) s) (lookL sh (gt ys lf) s l) m ys false B w) := by
  unfold lookS lookL
  cases hb : fb (gt ys lf) 32 with
  | true => rw [if_pos rfl, if_pos rfl]; exact look_found hL hU hlf hlm hs0 hs1 hb
  | false =>
    rw [if_neg Bool.false_ne_true, if_neg Bool.false_ne_true]
    by_cases hlt : s.sought + 1 < sh
    · rw [if_pos hlt, if_pos hlt]; exact look_seek hL hU hlf hlm hs0 hs1 hb hlt
    · rw [if_neg hlt, if_neg hlt]; exact look_first hL hU hlf hlm hs0 hs1 hb hlt
end
end Go.Proofs.Ytgpbdoegcagdaaa
