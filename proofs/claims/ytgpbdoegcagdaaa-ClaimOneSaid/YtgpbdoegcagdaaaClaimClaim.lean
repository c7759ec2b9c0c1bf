/-
  What claim.claim answers. Conditions: a block that may be, an operation whose leaf and bit there are.
-/
import Derived.Test.YtgpbdoegcagdaaaClaimLook0
namespace Go.Proofs.Ytgpbdoegcagdaaa
open Go.RowKit
set_option linter.unusedVariables false
section
variable {w : World} {lo lo2 a M m d lf bt : Nat} {p sh wo qu tr : Int} {A B : Option Addr} {n c : Nat} {xs : List Int} {ys : List Nat} {h : Hd} {s : Sc} {l : Ls}
set_option maxRecDepth 100000 in
set_option maxHeartbeats 2000000 in
theorem claim_not (ha : a < 4294967296) (hM : Much a p M) (hI : IS .u32 lo2 w h.A0 h.n0 h.c0 xs) (hn : h.n0 ≤ 65536) (hin : InB a M h.n0 xs) (hlo : lo ≤ w.heap.size) (hL : Lists lo w h l) (h1 : h.n1 ≤ 65536) (h2 : h.n2 ≤ 65536) (h3 : h.n3 ≤ 65536) (hU : US w B m d ys) (hm : m ≤ 65536) (hlf : s.leaf = (lf : Int)) (hlm : lf < m) (hbt : s.bit = (bt : Int)) (hb : bt < 32) (hof : 32 * lf + bt < M) (hw : s.word < 18446744073709551616) (hne : gt ys lf ≠ s.word) :
    Calls Try.prog 38 #[.agg #[.int .u32 (a : Int), .int .i64 p, .slice A n c, .int .i64 sh, .int .i64 wo, .int .i64 qu, .int .i64 tr], .slice B m d, .agg (opv h s)] w (RetStp lo h.n0 (againS s) l m ys false B w) := by
  have hl5 : lf ≤ 65536 := by omega
  have TC := fun w => Lib.hid (claim_any s.word bt hw (by omega) w)
  have hyl : clm s.word bt < U64 := clm_lt _ _
  have TS : ∀ w, US w B m d ys → Hid (Calls Try.prog 45 #[.slice B m d, .int .i64 (lf : Nat), .int .u64 (s.word : Nat), .int .u64 (clm s.word bt : Nat)] w fun e w' => e = .returned (.tuple #[.slice B m d, .bool false]) ∧ Below w.heap.size w w') := fun w U => swap_same U hlm hne
  have TG := fun w => Lib.hid (again_any (w := w) (h := h) (s := s))
  generalize clm s.word bt = y at TC TS
  clear hne hyl hin hI hof
  rcases s with ⟨kind, addr, err, aad, used, phase, shard, sought, leaf, bit, word, full, at_, tries, item, stamp⟩
  rcases h with ⟨A0, n0, c0, A1, n1, c1, A2, n2, c2, A3, n3, c3⟩
  dsimp only at *
  subst hlf hbt
  go_enter Try.func38, Try.ntmps38
  go_upto_region 1 with (fail)
  have L := Loc.start w
  replace L := (((L).alloc #[.int .u32 (a : Int), .int .i64 p, .slice A n c, .int .i64 sh, .int .i64 wo, .int .i64 qu, .int .i64 tr] 27).alloc (opv ⟨A0, n0, c0, A1, n1, c1, A2, n2, c2, A3, n3, c3⟩ ⟨kind, addr, err, aad, used, phase, shard, sought, (lf : Int), (bt : Int), word, full, at_, tries, item, stamp⟩) 42).alloc #[.int .i64 0, .int .u32 0, .slice none 0 0, .int .i64 0, .int .u32 0, .bool false, .slice none 0 0, .slice none 0 0, .int .i64 0, .int .i64 0, .int .i64 0, .int .i64 0, .int .i64 0, .int .u64 0, .bool false, .slice none 0 0, .int .i64 0, .int .i64 0, .int .i64 0, .int .i64 0] 42
  try simp only [World.size_alloc] at L
  replace L := L.is 0 (opv hd0 sc0) rfl
  try dsimp only [nput] at L
  generalize (((w).alloc (.cells #[.int .u32 (a : Int), .int .i64 p, .slice A n c, .int .i64 sh, .int .i64 wo, .int .i64 qu, .int .i64 tr] 27)).alloc (.cells (opv ⟨A0, n0, c0, A1, n1, c1, A2, n2, c2, A3, n3, c3⟩ ⟨kind, addr, err, aad, used, phase, shard, sought, (lf : Int), (bt : Int), word, full, at_, tries, item, stamp⟩) 42)).alloc (.cells #[.int .i64 0, .int .u32 0, .slice none 0 0, .int .i64 0, .int .u32 0, .bool false, .slice none 0 0, .slice none 0 0, .int .i64 0, .int .i64 0, .int .i64 0, .int .i64 0, .int .i64 0, .int .u64 0, .bool false, .slice none 0 0, .int .i64 0, .int .i64 0, .int .i64 0, .int .i64 0] 42) = w1 at L ⊢
  generalize w.heap.size + 1 + 1 = gR at L ⊢
  generalize w.heap.size + 1 = gO at L ⊢
  generalize w.heap.size = gH at L ⊢
  have O_13 := L.at_ 1 13 rfl (v := .int .u64 ((word : Nat) : Int)) rfl
  have O_12 := L.at_ 1 12 rfl (v := .int .i64 (bt : Int)) rfl
  have O_z := L.lt 1 rfl
  go_wp2_with fail
  refine ((TC _).out).mono ?_
  rintro e w' ⟨rfl, rfl⟩
  clear O_13 O_12 O_z
  have O_11 := L.at_ 1 11 rfl (v := .int .i64 (lf : Int)) rfl
  have O_13 := L.at_ 1 13 rfl (v := .int .u64 ((word : Nat) : Int)) rfl
  have O_z := L.lt 1 rfl
  go_wp2_with fail
  refine ((TS _ (hU.below L.K)).out).mono ?_
  rintro e w2 ⟨rfl, K'⟩
  clear O_11 O_13 O_z
  replace L := L.over K'
  go_wp2_with (refine wpList_load_row rfl 42 (.tmp 5) rfl gO rfl _ _ (0, 0) _ (L.bk_ 1 rfl) Try.underlying42 rfl op_sz ?_)
  refine ((TG _).out).mono ?_
  rintro e w3 ⟨rfl, K'⟩
  replace L := L.over K'
  go_wp2_with (refine wpList_store_row rfl 42 (.tmp 7) (.tmp 30) rfl gR _ rfl rfl _ _ (L.bk_ 0 rfl) op_sz rfl (opv_one _ _) ?_)
  replace L := (L.row 0 rfl (opv ⟨A0, n0, c0, A1, n1, c1, A2, n2, c2, A3, n3, c3⟩ (againS ⟨kind, addr, err, aad, used, phase, shard, sought, (lf : Int), (bt : Int), word, full, at_, tries, item, stamp⟩)))
  try dsimp only [nput] at L
  generalize (w3).setRow gR (opv ⟨A0, n0, c0, A1, n1, c1, A2, n2, c2, A3, n3, c3⟩ (againS ⟨kind, addr, err, aad, used, phase, shard, sought, (lf : Int), (bt : Int), word, full, at_, tries, item, stamp⟩)) = w4 at L ⊢
  refine bodyPost_ret (v := .tuple #[.slice B m d, .agg (opv ⟨A0, n0, c0, A1, n1, c1, A2, n2, c2, A3, n3, c3⟩ (againS ⟨kind, addr, err, aad, used, phase, shard, sought, (lf : Int), (bt : Int), word, full, at_, tries, item, stamp⟩)), .bool false]) ?_ rfl ?_
  · exact results_tct (fn := Try.f38) Try.results38 _ _ gR _ _ (0, 0) _ rfl (L.bk_ 0 rfl) Try.underlying42 rfl op_sz
  exact ⟨_, _, _, _, _, _, _, _, _, _, _, _, _, rfl, hU.below L.K, hL.below L.K, fun k _ h => h, L.K⟩
set_option maxRecDepth 100000 in
set_option maxHeartbeats 2000000 in
theorem claim_full (ha : a < 4294967296) (hM : Much a p M) (hI : IS .u32 lo2 w h.A0 h.n0 h.c0 xs) (hn : h.n0 ≤ 65536) (hin : InB a M h.n0 xs) (hlo : lo ≤ w.heap.size) (hL : Lists lo w h l) (h1 : h.n1 ≤ 65536) (h2 : h.n2 ≤ 65536) (h3 : h.n3 ≤ 65536) (hU : US w B m d ys) (hm : m ≤ 65536) (hlf : s.leaf = (lf : Int)) (hlm : lf < m) (hbt : s.bit = (bt : Int)) (hb : bt < 32) (hof : 32 * lf + bt < M) (hw : s.word < 18446744073709551616) (heq : gt ys lf = s.word) (hfl : fl (clm s.word bt) = true) :
    Calls Try.prog 38 #[.agg #[.int .u32 (a : Int), .int .i64 p, .slice A n c, .int .i64 sh, .int .i64 wo, .int .i64 qu, .int .i64 tr], .slice B m d, .agg (opv h s)] w (RetStp lo h.n0 (fullS (adS s (adr a lf bt))) l m (ys.set lf (clm s.word bt)) true B w) := by
  have hl5 : lf ≤ 65536 := by omega
  have TC := fun w => Lib.hid (claim_any s.word bt hw (by omega) w)
  have hyl : clm s.word bt < U64 := clm_lt _ _
  have TFu := fun w => Lib.hid (full_any (clm s.word bt) hyl w)
  simp only [hfl] at TFu
  clear hfl
  have TA := fun w => Lib.hid (address_any (w := w) (a := a) (p := p) (32 * lf + bt) (by have := hM.most; omega))
  have TO := fun w => Lib.hid (poff_any lf bt hl5 (by omega) w)
  have TS : ∀ w, US w B m d ys → Hid (Calls Try.prog 45 #[.slice B m d, .int .i64 (lf : Nat), .int .u64 (s.word : Nat), .int .u64 (clm s.word bt : Nat)] w (RetSN m (ys.set lf (clm s.word bt)) w)) := fun w U => by have := swap_new U hlm hm hyl; rw [heq] at this; exact this
  obtain ⟨z, hz⟩ : ∃ z, z = adr a lf bt := ⟨_, rfl⟩
  simp only [show (a + (32 * lf + bt)) % 4294967296 = z from hz.symm] at TA
  rw [← hz]
  clear hz heq
  clear hof
  generalize 32 * lf + bt = of at TO TA
  have hyl2 := hyl
  generalize clm s.word bt = y at TC TFu TS ⊢
  clear hin hI hyl
  rcases s with ⟨kind, addr, err, aad, used, phase, shard, sought, leaf, bit, word, full, at_, tries, item, stamp⟩
  rcases h with ⟨A0, n0, c0, A1, n1, c1, A2, n2, c2, A3, n3, c3⟩
  dsimp only at *
  subst hlf hbt
  go_enter Try.func38, Try.ntmps38
  go_upto_region 1 with (fail)
  have L := Loc.start w
  replace L := (((L).alloc #[.int .u32 (a : Int), .int .i64 p, .slice A n c, .int .i64 sh, .int .i64 wo, .int .i64 qu, .int .i64 tr] 27).alloc (opv ⟨A0, n0, c0, A1, n1, c1, A2, n2, c2, A3, n3, c3⟩ ⟨kind, addr, err, aad, used, phase, shard, sought, (lf : Int), (bt : Int), word, full, at_, tries, item, stamp⟩) 42).alloc #[.int .i64 0, .int .u32 0, .slice none 0 0, .int .i64 0, .int .u32 0, .bool false, .slice none 0 0, .slice none 0 0, .int .i64 0, .int .i64 0, .int .i64 0, .int .i64 0, .int .i64 0, .int .u64 0, .bool false, .slice none 0 0, .int .i64 0, .int .i64 0, .int .i64 0, .int .i64 0] 42
  try simp only [World.size_alloc] at L
  replace L := L.is 0 (opv hd0 sc0) rfl
  try dsimp only [nput] at L
  generalize (((w).alloc (.cells #[.int .u32 (a : Int), .int .i64 p, .slice A n c, .int .i64 sh, .int .i64 wo, .int .i64 qu, .int .i64 tr] 27)).alloc (.cells (opv ⟨A0, n0, c0, A1, n1, c1, A2, n2, c2, A3, n3, c3⟩ ⟨kind, addr, err, aad, used, phase, shard, sought, (lf : Int), (bt : Int), word, full, at_, tries, item, stamp⟩) 42)).alloc (.cells #[.int .i64 0, .int .u32 0, .slice none 0 0, .int .i64 0, .int .u32 0, .bool false, .slice none 0 0, .slice none 0 0, .int .i64 0, .int .i64 0, .int .i64 0, .int .i64 0, .int .i64 0, .int .u64 0, .bool false, .slice none 0 0, .int .i64 0, .int .i64 0, .int .i64 0, .int .i64 0] 42) = w1 at L ⊢
  generalize w.heap.size + 1 + 1 = gR at L ⊢
  generalize w.heap.size + 1 = gO at L ⊢
  generalize w.heap.size = gH at L ⊢
  have O_13 := L.at_ 1 13 rfl (v := .int .u64 ((word : Nat) : Int)) rfl
  have O_12 := L.at_ 1 12 rfl (v := .int .i64 (bt : Int)) rfl
  have O_z := L.lt 1 rfl
  go_wp2_with fail
  refine ((TC _).out).mono ?_
  rintro e w' ⟨rfl, rfl⟩
  clear O_13 O_12 O_z
  have O_11 := L.at_ 1 11 rfl (v := .int .i64 (lf : Int)) rfl
  have O_13 := L.at_ 1 13 rfl (v := .int .u64 ((word : Nat) : Int)) rfl
  have O_z := L.lt 1 rfl
  go_wp2_with fail
  have KS := L.K.size
  refine ((TS _ (hU.below L.K)).out).mono ?_
  rintro e w2 ⟨gS, dS, rfl, U, hgS, K'⟩
  clear O_11 O_13 O_z
  have Lb := L.lts
  replace L := L.over K'
  replace L := L.us_av (fun i b e b' o e' => by injection e' with e'; injection e' with e1; have := Lb i b e; omega) U
  clear Lb
  try dsimp only [lF, List.cons_append, List.nil_append] at L
  clear U
  replace hgS := Nat.le_trans KS hgS
  clear KS
  go_upto_region 5 with (fail)
  replace L := L.drew
  refine wp_region_held_drew (S := fun w' => ∃ v_O4 : Int, Loc w w' [(gR, 42, opv hd0 sc0), (gO, 42, opv ⟨A0, n0, c0, A1, n1, c1, A2, n2, c2, A3, n3, c3⟩ ⟨kind, addr, err, v_O4, used, phase, shard, sought, (lf : Int), (bt : Int), word, full, at_, tries, item, stamp⟩), (gH, 27, #[.int .u32 (a : Int), .int .i64 p, .slice A n c, .int .i64 sh, .int .i64 wo, .int .i64 qu, .int .i64 tr])] [uF (some ⟨gS, 0, none⟩) m dS (ys.set lf y)]) (by kernel_rfl) (⟨_, L⟩) (fun hHeld => ?_)
  generalize w2.drew = v3 at hHeld L ⊢
  refine wpAnyH_take (i := 0) (oi := ⟨some 31, _, _, _, _, _⟩) (v := .pointer (some ⟨gH, 0, none⟩)) rfl (by kernel_rfl) (by kernel_rfl) (by kernel_rfl) (fun _ _ _ h => h) (Or.inl ⟨by rfl, ?_⟩) hHeld ?_
  · intro ww hS
    try dsimp only at hS
    go_simp
    try with_reducible rfl
    try omega
  try simp only [Act.put, List.setIfInBounds_toArray, List.set_cons_zero, List.set_cons_succ]
  refine wpAnyH_take (i := 1) (oi := ⟨some 32, _, _, _, _, _⟩) (v := .agg #[.int .u32 (a : Int), .int .i64 p]) rfl (by kernel_rfl) (by kernel_rfl) (by kernel_rfl) (fun _ _ _ h => h) (Or.inl ⟨by rfl, ?_⟩) hHeld ?_
  · intro ww hS
    try dsimp only at hS
    have H_0 := (hS.choose_spec).at_ 2 0 rfl (v := .int .u32 (a : Int)) rfl
    have H_z := (hS.choose_spec).lt 2 rfl
    have H_1 := (hS.choose_spec).at_ 2 1 rfl (v := .int .i64 p) rfl
    have H_z := (hS.choose_spec).lt 2 rfl
    go_simp
    try with_reducible rfl
    try omega
  try simp only [Act.put, List.setIfInBounds_toArray, List.set_cons_zero, List.set_cons_succ]
  refine wpAnyH_take (i := 2) (oi := ⟨some 33, _, _, _, _, _⟩) (v := .pointer (some ⟨gO, 11, none⟩)) rfl (by kernel_rfl) (by kernel_rfl) (by kernel_rfl) (fun _ _ _ h => h) (Or.inl ⟨by rfl, ?_⟩) hHeld ?_
  · intro ww hS
    try dsimp only at hS
    go_simp
    try with_reducible rfl
    try omega
  try simp only [Act.put, List.setIfInBounds_toArray, List.set_cons_zero, List.set_cons_succ]
  refine wpAnyH_take (i := 3) (oi := ⟨some 34, _, _, _, _, _⟩) (v := .int .i64 (lf : Int)) rfl (by kernel_rfl) (by kernel_rfl) (by kernel_rfl) (fun _ _ _ h => h) (Or.inl ⟨by rfl, ?_⟩) hHeld ?_
  · intro ww hS
    try dsimp only at hS
    have O_11 := (hS.choose_spec).at_ 1 11 rfl (v := .int .i64 (lf : Int)) rfl
    have O_z := (hS.choose_spec).lt 1 rfl
    go_simp
    try with_reducible rfl
    try omega
  try simp only [Act.put, List.setIfInBounds_toArray, List.set_cons_zero, List.set_cons_succ]
  refine wpAnyH_take (i := 4) (oi := ⟨some 35, _, _, _, _, _⟩) (v := .pointer (some ⟨gO, 12, none⟩)) rfl (by kernel_rfl) (by kernel_rfl) (by kernel_rfl) (fun _ _ _ h => h) (Or.inl ⟨by rfl, ?_⟩) hHeld ?_
  · intro ww hS
    try dsimp only at hS
    go_simp
    try with_reducible rfl
    try omega
  try simp only [Act.put, List.setIfInBounds_toArray, List.set_cons_zero, List.set_cons_succ]
  refine wpAnyH_take (i := 5) (oi := ⟨some 36, _, _, _, _, _⟩) (v := .int .i64 (bt : Int)) rfl (by kernel_rfl) (by kernel_rfl) (by kernel_rfl) (fun _ _ _ h => h) (Or.inl ⟨by rfl, ?_⟩) hHeld ?_
  · intro ww hS
    try dsimp only at hS
    have O_12 := (hS.choose_spec).at_ 1 12 rfl (v := .int .i64 (bt : Int)) rfl
    have O_z := (hS.choose_spec).lt 1 rfl
    go_simp
    try with_reducible rfl
    try omega
  try simp only [Act.put, List.setIfInBounds_toArray, List.set_cons_zero, List.set_cons_succ]
  refine wpAnyH_ready (rs := [6]) (by kernel_rfl) (by simp) ?_
  refine AllReadyH.cons (o := ⟨some 37, _, _, _, _, _⟩) rfl (fun K0 hK => ?_) AllReadyH.nil
  go_simp
  refine ((TO _).out).mono ?_
  rintro e w' ⟨rfl, rfl⟩
  refine hK.out _ _ ⟨_, L⟩ (fun hHeld' => ?_)
  clear hHeld hK K0
  have hHeld := hHeld'
  clear hHeld'
  try simp only [Act.put, List.setIfInBounds_toArray, List.set_cons_zero, List.set_cons_succ]
  refine wpAnyH_ready (rs := [7]) (by kernel_rfl) (by simp) ?_
  refine AllReadyH.cons (o := ⟨some 38, _, _, _, _, _⟩) rfl (fun K0 hK => ?_) AllReadyH.nil
  go_simp
  refine ((TA _).out).mono ?_
  rintro e w4 ⟨rfl, K'⟩
  replace L := L.over K'
  refine hK.out _ _ ⟨_, L⟩ (fun hHeld' => ?_)
  clear hHeld hK K0
  have hHeld := hHeld'
  clear hHeld'
  clear K'
  try simp only [Act.put, List.setIfInBounds_toArray, List.set_cons_zero, List.set_cons_succ]
  refine wpAnyH_take (i := 8) (oi := ⟨some 39, _, _, _, _, _⟩) (v := .pointer (some ⟨gO, 3, none⟩)) rfl (by kernel_rfl) (by kernel_rfl) (by kernel_rfl) (fun _ _ _ h => h) (Or.inl ⟨by rfl, ?_⟩) hHeld ?_
  · intro ww hS
    try dsimp only at hS
    go_simp
    try with_reducible rfl
    try omega
  try simp only [Act.put, List.setIfInBounds_toArray, List.set_cons_zero, List.set_cons_succ]
  refine wpAnyH_take (i := 9) (oi := ⟨some 40, _, _, _, _, _⟩) (v := .pointer (some ⟨gO, 4, none⟩)) rfl (by kernel_rfl) (by kernel_rfl) (by kernel_rfl) (fun _ _ _ h => h) (Or.inl ⟨by rfl, ?_⟩) hHeld ?_
  · intro ww hS
    try dsimp only at hS
    go_simp
    try with_reducible rfl
    try omega
  try simp only [Act.put, List.setIfInBounds_toArray, List.set_cons_zero, List.set_cons_succ]
  refine wpAnyH_ready (rs := [10]) (by kernel_rfl) (by simp) ?_
  refine AllReadyH.cons (o := ⟨none, _, _, _, _, _⟩) rfl (fun K0 hK => ?_) AllReadyH.nil
  have S_d := L.at_ 1 4 rfl (v := .int .u32 aad) rfl
  have S_z := L.lt 1 rfl
  have S_f := L.fz 1 4 rfl
  go_simp
  clear S_d S_z S_f
  replace L := (L.set 1 4 rfl (.int .u32 (z : Int))).is 1 (opv ⟨A0, n0, c0, A1, n1, c1, A2, n2, c2, A3, n3, c3⟩ ⟨kind, addr, err, (z : Int), used, phase, shard, sought, (lf : Int), (bt : Int), word, full, at_, tries, item, stamp⟩) rfl
  try dsimp only [nput] at L
  refine hK.out _ _ ⟨_, L⟩ (fun hHeld' => ?_)
  clear hHeld hK K0
  have hHeld := hHeld'
  clear hHeld'
  generalize w4.setCell ⟨gO, 4, none⟩ (.int .u32 (z : Int)) = v5 at hHeld L ⊢
  try simp only [Act.put, List.setIfInBounds_toArray, List.set_cons_zero, List.set_cons_succ]
  refine wpAnyH_done (by kernel_rfl) ?_ _
  clear hHeld
  go_wp2_with fail
  refine ((TFu _).out).mono ?_
  rintro e w' ⟨rfl, rfl⟩
  have O_8 := L.at_ 1 8 rfl (v := .int .i64 phase) rfl
  have O_14 := L.at_ 1 14 rfl (v := .bool full) rfl
  have O_16 := L.at_ 1 16 rfl (v := .int .i64 at_) rfl
  have O_13 := L.at_ 1 13 rfl (v := .int .u64 ((word : Nat) : Int)) rfl
  have O_z := L.lt 1 rfl
  have O_f8 := L.fz 1 8 rfl
  have O_f14 := L.fz 1 14 rfl
  have O_f16 := L.fz 1 16 rfl
  have O_f13 := L.fz 1 13 rfl
  go_upto_region 9 with fail
  clear O_8 O_14 O_16 O_13 O_z O_f8 O_f14 O_f16 O_f13
  replace L := (((((L.set 1 8 rfl (.int .i64 4)).set 1 14 rfl (.bool true)).set 1 16 rfl (.int .i64 0)).set 1 13 rfl (.int .u64 0)).is 1 (opv ⟨A0, n0, c0, A1, n1, c1, A2, n2, c2, A3, n3, c3⟩ ⟨kind, addr, err, (z : Int), used, 4, shard, sought, (lf : Int), (bt : Int), 0, true, 0, tries, item, stamp⟩) rfl)
  try dsimp only [nput] at L
  generalize ((((v5).setCell ⟨gO, 8, none⟩ (.int .i64 4)).setCell ⟨gO, 14, none⟩ (.bool true)).setCell ⟨gO, 16, none⟩ (.int .i64 0)).setCell ⟨gO, 13, none⟩ (.int .u64 0) = w6 at L ⊢
  replace L := L.drew
  refine wp_region_held_drew (S := fun w' => ∃ v_R : Array Value, v_R.size = 20 ∧ Loc w w' [(gR, 42, v_R), (gO, 42, opv ⟨A0, n0, c0, A1, n1, c1, A2, n2, c2, A3, n3, c3⟩ ⟨kind, addr, err, (z : Int), used, 4, shard, sought, (lf : Int), (bt : Int), 0, true, 0, tries, item, stamp⟩), (gH, 27, #[.int .u32 (a : Int), .int .i64 p, .slice A n c, .int .i64 sh, .int .i64 wo, .int .i64 qu, .int .i64 tr])] [uF (some ⟨gS, 0, none⟩) m dS (ys.set lf y)]) (by kernel_rfl) (⟨_, rfl, L⟩) (fun hHeld => ?_)
  generalize w6.drew = v7 at hHeld L ⊢
  refine wpAnyH_take (i := 0) (oi := ⟨some 52, _, _, _, _, _⟩) (v := .slice (some ⟨gS, 0, none⟩) m dS) rfl (by kernel_rfl) (by kernel_rfl) (by kernel_rfl) (fun _ _ _ h => h) (Or.inl ⟨by rfl, ?_⟩) hHeld ?_
  · intro ww hS
    try dsimp only at hS
    go_simp
    try with_reducible rfl
    try omega
  try simp only [Act.put, List.setIfInBounds_toArray, List.set_cons_zero, List.set_cons_succ]
  refine wpAnyH_take (i := 1) (oi := ⟨some 53, _, _, _, _, _⟩) (v := .agg (opv ⟨A0, n0, c0, A1, n1, c1, A2, n2, c2, A3, n3, c3⟩ ⟨kind, addr, err, (z : Int), used, 4, shard, sought, (lf : Int), (bt : Int), 0, true, 0, tries, item, stamp⟩)) rfl (by kernel_rfl) (by kernel_rfl) (by kernel_rfl) (fun _ _ _ h => h) (yieldsIf_load_row (by rfl) 42 (.tmp 5) rfl gO rfl 42 _ (0, 0) _ (fun _ hS => (hS.choose_spec.2).bk_ 1 rfl) Try.underlying42 rfl op_sz) hHeld ?_
  try simp only [Act.put, List.setIfInBounds_toArray, List.set_cons_zero, List.set_cons_succ]
  refine wpAnyH_take (i := 2) (oi := ⟨some 6, _, _, _, _, _⟩) (v := .slice (some ⟨gS, 0, none⟩) m dS) rfl (by kernel_rfl) (by kernel_rfl) (by kernel_rfl) (fun _ _ _ h => h) (Or.inl ⟨by rfl, ?_⟩) hHeld ?_
  · intro ww hS
    try dsimp only at hS
    go_simp
    try with_reducible rfl
    try omega
  try simp only [Act.put, List.setIfInBounds_toArray, List.set_cons_zero, List.set_cons_succ]
  refine wpAnyH_ready (rs := [3]) (by kernel_rfl) (by simp) ?_
  refine AllReadyH.cons (o := ⟨none, _, _, _, _, _⟩) rfl (fun K0 hK => ?_) AllReadyH.nil
  rw [if_pos (by rfl)]
  refine wp_store_row 42 (.tmp 7) (.tmp 53) rfl gR _ rfl rfl _ _ (L.bk_ 0 rfl) op_sz rfl (opv_one _ _) ?_
  replace L := L.row 0 rfl (opv ⟨A0, n0, c0, A1, n1, c1, A2, n2, c2, A3, n3, c3⟩ ⟨kind, addr, err, (z : Int), used, 4, shard, sought, (lf : Int), (bt : Int), 0, true, 0, tries, item, stamp⟩)
  try dsimp only [nput] at L
  refine hK.out _ _ ⟨_, rfl, L⟩ (fun hHeld' => ?_)
  clear hHeld hK K0
  have hHeld := hHeld'
  clear hHeld'
  generalize v7.setRow gR (opv ⟨A0, n0, c0, A1, n1, c1, A2, n2, c2, A3, n3, c3⟩ ⟨kind, addr, err, (z : Int), used, 4, shard, sought, (lf : Int), (bt : Int), 0, true, 0, tries, item, stamp⟩) = v8 at hHeld L ⊢
  try simp only [Act.put]
  refine wpAnyH_take (i := 4) (oi := ⟨some 8, _, _, _, _, _⟩) (v := .bool true) rfl (by kernel_rfl) (by kernel_rfl) (by kernel_rfl) (fun _ _ _ h => h) (Or.inl ⟨by rfl, ?_⟩) hHeld ?_
  · intro ww hS
    try dsimp only at hS
    go_simp
    try with_reducible rfl
    try omega
  try simp only [Act.put, List.setIfInBounds_toArray, List.set_cons_zero, List.set_cons_succ]
  refine wpAnyH_done (by kernel_rfl) ?_ _
  clear hHeld
  go_wp2
  refine bodyPost_ret (v := .tuple #[.slice (some ⟨gS, 0, none⟩) m dS, .agg (opv ⟨A0, n0, c0, A1, n1, c1, A2, n2, c2, A3, n3, c3⟩ ⟨kind, addr, err, (z : Int), used, 4, shard, sought, (lf : Int), (bt : Int), 0, true, 0, tries, item, stamp⟩), .bool true]) ?_ rfl ?_
  · exact results_tct (fn := Try.f38) Try.results38 _ _ gR _ _ (0, 0) _ rfl (L.bk_ 0 rfl) Try.underlying42 rfl op_sz
  exact ⟨_, _, _, _, _, _, _, _, _, _, _, _, _, rfl, L.us_ 0 rfl, hL.below L.K, fun k hk _ b o e => by injection e with e; injection e with e1; omega, L.K⟩
set_option maxRecDepth 100000 in
set_option maxHeartbeats 2000000 in
theorem claim_go (ha : a < 4294967296) (hM : Much a p M) (hI : IS .u32 lo2 w h.A0 h.n0 h.c0 xs) (hn : h.n0 ≤ 65536) (hin : InB a M h.n0 xs) (hlo : lo ≤ w.heap.size) (hL : Lists lo w h l) (h1 : h.n1 ≤ 65536) (h2 : h.n2 ≤ 65536) (h3 : h.n3 ≤ 65536) (hU : US w B m d ys) (hm : m ≤ 65536) (hlf : s.leaf = (lf : Int)) (hlm : lf < m) (hbt : s.bit = (bt : Int)) (hb : bt < 32) (hof : 32 * lf + bt < M) (hw : s.word < 18446744073709551616) (heq : gt ys lf = s.word) (hfl : fl (clm s.word bt) = false) :
    Calls Try.prog 38 #[.agg #[.int .u32 (a : Int), .int .i64 p, .slice A n c, .int .i64 sh, .int .i64 wo, .int .i64 qu, .int .i64 tr], .slice B m d, .agg (opv h s)] w (RetStp lo h.n0 (gon a h.n0 xs (adS s (adr a lf bt))) l m (ys.set lf (clm s.word bt)) true B w) := by
  have TG := fun w z (hI : IS .u32 lo2 w h.A0 h.n0 h.c0 xs) (hL : Lists lo w h l) => Lib.hid (goes_any (w := w) (sh := sh) (wo := wo) (qu := qu) (tr := tr) (A := A) (n := n) (c := c) (s := adS s z) ha hM hn hI hin hL h1 h2 h3)
  have hl5 : lf ≤ 65536 := by omega
  have TC := fun w => Lib.hid (claim_any s.word bt hw (by omega) w)
  have hyl : clm s.word bt < U64 := clm_lt _ _
  have TFu := fun w => Lib.hid (full_any (clm s.word bt) hyl w)
  simp only [hfl] at TFu
  clear hfl
  have TA := fun w => Lib.hid (address_any (w := w) (a := a) (p := p) (32 * lf + bt) (by have := hM.most; omega))
  have TO := fun w => Lib.hid (poff_any lf bt hl5 (by omega) w)
  have TS : ∀ w, US w B m d ys → Hid (Calls Try.prog 45 #[.slice B m d, .int .i64 (lf : Nat), .int .u64 (s.word : Nat), .int .u64 (clm s.word bt : Nat)] w (RetSN m (ys.set lf (clm s.word bt)) w)) := fun w U => by have := swap_new U hlm hm hyl; rw [heq] at this; exact this
  obtain ⟨z, hz⟩ : ∃ z, z = adr a lf bt := ⟨_, rfl⟩
  simp only [show (a + (32 * lf + bt)) % 4294967296 = z from hz.symm] at TA
  rw [← hz]
  clear hz heq
  clear hof
  generalize 32 * lf + bt = of at TO TA
  have hyl2 := hyl
  generalize clm s.word bt = y at TC TFu TS ⊢
  clear hin hyl
  rcases s with ⟨kind, addr, err, aad, used, phase, shard, sought, leaf, bit, word, full, at_, tries, item, stamp⟩
  rcases h with ⟨A0, n0, c0, A1, n1, c1, A2, n2, c2, A3, n3, c3⟩
  dsimp only at *
  subst hlf hbt
  go_enter Try.func38, Try.ntmps38
  go_upto_region 1 with (fail)
  have L := Loc.start w
  replace L := (((L).alloc #[.int .u32 (a : Int), .int .i64 p, .slice A n c, .int .i64 sh, .int .i64 wo, .int .i64 qu, .int .i64 tr] 27).alloc (opv ⟨A0, n0, c0, A1, n1, c1, A2, n2, c2, A3, n3, c3⟩ ⟨kind, addr, err, aad, used, phase, shard, sought, (lf : Int), (bt : Int), word, full, at_, tries, item, stamp⟩) 42).alloc #[.int .i64 0, .int .u32 0, .slice none 0 0, .int .i64 0, .int .u32 0, .bool false, .slice none 0 0, .slice none 0 0, .int .i64 0, .int .i64 0, .int .i64 0, .int .i64 0, .int .i64 0, .int .u64 0, .bool false, .slice none 0 0, .int .i64 0, .int .i64 0, .int .i64 0, .int .i64 0] 42
  try simp only [World.size_alloc] at L
  replace L := L.is 0 (opv hd0 sc0) rfl
  try dsimp only [nput] at L
  generalize (((w).alloc (.cells #[.int .u32 (a : Int), .int .i64 p, .slice A n c, .int .i64 sh, .int .i64 wo, .int .i64 qu, .int .i64 tr] 27)).alloc (.cells (opv ⟨A0, n0, c0, A1, n1, c1, A2, n2, c2, A3, n3, c3⟩ ⟨kind, addr, err, aad, used, phase, shard, sought, (lf : Int), (bt : Int), word, full, at_, tries, item, stamp⟩) 42)).alloc (.cells #[.int .i64 0, .int .u32 0, .slice none 0 0, .int .i64 0, .int .u32 0, .bool false, .slice none 0 0, .slice none 0 0, .int .i64 0, .int .i64 0, .int .i64 0, .int .i64 0, .int .i64 0, .int .u64 0, .bool false, .slice none 0 0, .int .i64 0, .int .i64 0, .int .i64 0, .int .i64 0] 42) = w1 at L ⊢
  generalize w.heap.size + 1 + 1 = gR at L ⊢
  generalize w.heap.size + 1 = gO at L ⊢
  generalize w.heap.size = gH at L ⊢
  have O_13 := L.at_ 1 13 rfl (v := .int .u64 ((word : Nat) : Int)) rfl
  have O_12 := L.at_ 1 12 rfl (v := .int .i64 (bt : Int)) rfl
  have O_z := L.lt 1 rfl
  go_wp2_with fail
  refine ((TC _).out).mono ?_
  rintro e w' ⟨rfl, rfl⟩
  clear O_13 O_12 O_z
  have O_11 := L.at_ 1 11 rfl (v := .int .i64 (lf : Int)) rfl
  have O_13 := L.at_ 1 13 rfl (v := .int .u64 ((word : Nat) : Int)) rfl
  have O_z := L.lt 1 rfl
  go_wp2_with fail
  have KS := L.K.size
  refine ((TS _ (hU.below L.K)).out).mono ?_
  rintro e w2 ⟨gS, dS, rfl, U, hgS, K'⟩
  clear O_11 O_13 O_z
  have Lb := L.lts
  replace L := L.over K'
  replace L := L.us_av (fun i b e b' o e' => by injection e' with e'; injection e' with e1; have := Lb i b e; omega) U
  clear Lb
  try dsimp only [lF, List.cons_append, List.nil_append] at L
  clear U
  replace hgS := Nat.le_trans KS hgS
  clear KS
  go_upto_region 5 with (fail)
  replace L := L.drew
  refine wp_region_held_drew (S := fun w' => ∃ v_O4 : Int, Loc w w' [(gR, 42, opv hd0 sc0), (gO, 42, opv ⟨A0, n0, c0, A1, n1, c1, A2, n2, c2, A3, n3, c3⟩ ⟨kind, addr, err, v_O4, used, phase, shard, sought, (lf : Int), (bt : Int), word, full, at_, tries, item, stamp⟩), (gH, 27, #[.int .u32 (a : Int), .int .i64 p, .slice A n c, .int .i64 sh, .int .i64 wo, .int .i64 qu, .int .i64 tr])] [uF (some ⟨gS, 0, none⟩) m dS (ys.set lf y)]) (by kernel_rfl) (⟨_, L⟩) (fun hHeld => ?_)
  generalize w2.drew = v3 at hHeld L ⊢
  refine wpAnyH_take (i := 0) (oi := ⟨some 31, _, _, _, _, _⟩) (v := .pointer (some ⟨gH, 0, none⟩)) rfl (by kernel_rfl) (by kernel_rfl) (by kernel_rfl) (fun _ _ _ h => h) (Or.inl ⟨by rfl, ?_⟩) hHeld ?_
  · intro ww hS
    try dsimp only at hS
    go_simp
    try with_reducible rfl
    try omega
  try simp only [Act.put, List.setIfInBounds_toArray, List.set_cons_zero, List.set_cons_succ]
  refine wpAnyH_take (i := 1) (oi := ⟨some 32, _, _, _, _, _⟩) (v := .agg #[.int .u32 (a : Int), .int .i64 p]) rfl (by kernel_rfl) (by kernel_rfl) (by kernel_rfl) (fun _ _ _ h => h) (Or.inl ⟨by rfl, ?_⟩) hHeld ?_
  · intro ww hS
    try dsimp only at hS
    have H_0 := (hS.choose_spec).at_ 2 0 rfl (v := .int .u32 (a : Int)) rfl
    have H_z := (hS.choose_spec).lt 2 rfl
    have H_1 := (hS.choose_spec).at_ 2 1 rfl (v := .int .i64 p) rfl
    have H_z := (hS.choose_spec).lt 2 rfl
    go_simp
    try with_reducible rfl
    try omega
  try simp only [Act.put, List.setIfInBounds_toArray, List.set_cons_zero, List.set_cons_succ]
  refine wpAnyH_take (i := 2) (oi := ⟨some 33, _, _, _, _, _⟩) (v := .pointer (some ⟨gO, 11, none⟩)) rfl (by kernel_rfl) (by kernel_rfl) (by kernel_rfl) (fun _ _ _ h => h) (Or.inl ⟨by rfl, ?_⟩) hHeld ?_
  · intro ww hS
    try dsimp only at hS
    go_simp
    try with_reducible rfl
    try omega
  try simp only [Act.put, List.setIfInBounds_toArray, List.set_cons_zero, List.set_cons_succ]
  refine wpAnyH_take (i := 3) (oi := ⟨some 34, _, _, _, _, _⟩) (v := .int .i64 (lf : Int)) rfl (by kernel_rfl) (by kernel_rfl) (by kernel_rfl) (fun _ _ _ h => h) (Or.inl ⟨by rfl, ?_⟩) hHeld ?_
  · intro ww hS
    try dsimp only at hS
    have O_11 := (hS.choose_spec).at_ 1 11 rfl (v := .int .i64 (lf : Int)) rfl
    have O_z := (hS.choose_spec).lt 1 rfl
    go_simp
    try with_reducible rfl
    try omega
  try simp only [Act.put, List.setIfInBounds_toArray, List.set_cons_zero, List.set_cons_succ]
  refine wpAnyH_take (i := 4) (oi := ⟨some 35, _, _, _, _, _⟩) (v := .pointer (some ⟨gO, 12, none⟩)) rfl (by kernel_rfl) (by kernel_rfl) (by kernel_rfl) (fun _ _ _ h => h) (Or.inl ⟨by rfl, ?_⟩) hHeld ?_
  · intro ww hS
    try dsimp only at hS
    go_simp
    try with_reducible rfl
    try omega
  try simp only [Act.put, List.setIfInBounds_toArray, List.set_cons_zero, List.set_cons_succ]
  refine wpAnyH_take (i := 5) (oi := ⟨some 36, _, _, _, _, _⟩) (v := .int .i64 (bt : Int)) rfl (by kernel_rfl) (by kernel_rfl) (by kernel_rfl) (fun _ _ _ h => h) (Or.inl ⟨by rfl, ?_⟩) hHeld ?_
  · intro ww hS
    try dsimp only at hS
    have O_12 := (hS.choose_spec).at_ 1 12 rfl (v := .int .i64 (bt : Int)) rfl
    have O_z := (hS.choose_spec).lt 1 rfl
    go_simp
    try with_reducible rfl
    try omega
  try simp only [Act.put, List.setIfInBounds_toArray, List.set_cons_zero, List.set_cons_succ]
  refine wpAnyH_ready (rs := [6]) (by kernel_rfl) (by simp) ?_
  refine AllReadyH.cons (o := ⟨some 37, _, _, _, _, _⟩) rfl (fun K0 hK => ?_) AllReadyH.nil
  go_simp
  refine ((TO _).out).mono ?_
  rintro e w' ⟨rfl, rfl⟩
  refine hK.out _ _ ⟨_, L⟩ (fun hHeld' => ?_)
  clear hHeld hK K0
  have hHeld := hHeld'
  clear hHeld'
  try simp only [Act.put, List.setIfInBounds_toArray, List.set_cons_zero, List.set_cons_succ]
  refine wpAnyH_ready (rs := [7]) (by kernel_rfl) (by simp) ?_
  refine AllReadyH.cons (o := ⟨some 38, _, _, _, _, _⟩) rfl (fun K0 hK => ?_) AllReadyH.nil
  go_simp
  refine ((TA _).out).mono ?_
  rintro e w4 ⟨rfl, K'⟩
  replace L := L.over K'
  refine hK.out _ _ ⟨_, L⟩ (fun hHeld' => ?_)
  clear hHeld hK K0
  have hHeld := hHeld'
  clear hHeld'
  clear K'
  try simp only [Act.put, List.setIfInBounds_toArray, List.set_cons_zero, List.set_cons_succ]
  refine wpAnyH_take (i := 8) (oi := ⟨some 39, _, _, _, _, _⟩) (v := .pointer (some ⟨gO, 3, none⟩)) rfl (by kernel_rfl) (by kernel_rfl) (by kernel_rfl) (fun _ _ _ h => h) (Or.inl ⟨by rfl, ?_⟩) hHeld ?_
  · intro ww hS
    try dsimp only at hS
    go_simp
    try with_reducible rfl
    try omega
  try simp only [Act.put, List.setIfInBounds_toArray, List.set_cons_zero, List.set_cons_succ]
  refine wpAnyH_take (i := 9) (oi := ⟨some 40, _, _, _, _, _⟩) (v := .pointer (some ⟨gO, 4, none⟩)) rfl (by kernel_rfl) (by kernel_rfl) (by kernel_rfl) (fun _ _ _ h => h) (Or.inl ⟨by rfl, ?_⟩) hHeld ?_
  · intro ww hS
    try dsimp only at hS
    go_simp
    try with_reducible rfl
    try omega
  try simp only [Act.put, List.setIfInBounds_toArray, List.set_cons_zero, List.set_cons_succ]
  refine wpAnyH_ready (rs := [10]) (by kernel_rfl) (by simp) ?_
  refine AllReadyH.cons (o := ⟨none, _, _, _, _, _⟩) rfl (fun K0 hK => ?_) AllReadyH.nil
  have S_d := L.at_ 1 4 rfl (v := .int .u32 aad) rfl
  have S_z := L.lt 1 rfl
  have S_f := L.fz 1 4 rfl
  go_simp
  clear S_d S_z S_f
  replace L := (L.set 1 4 rfl (.int .u32 (z : Int))).is 1 (opv ⟨A0, n0, c0, A1, n1, c1, A2, n2, c2, A3, n3, c3⟩ ⟨kind, addr, err, (z : Int), used, phase, shard, sought, (lf : Int), (bt : Int), word, full, at_, tries, item, stamp⟩) rfl
  try dsimp only [nput] at L
  refine hK.out _ _ ⟨_, L⟩ (fun hHeld' => ?_)
  clear hHeld hK K0
  have hHeld := hHeld'
  clear hHeld'
  generalize w4.setCell ⟨gO, 4, none⟩ (.int .u32 (z : Int)) = v5 at hHeld L ⊢
  try simp only [Act.put, List.setIfInBounds_toArray, List.set_cons_zero, List.set_cons_succ]
  refine wpAnyH_done (by kernel_rfl) ?_ _
  clear hHeld
  go_wp2_with fail
  refine ((TFu _).out).mono ?_
  rintro e w' ⟨rfl, rfl⟩
  go_wp2_with (first | (refine wpList_load_row rfl 27 (.tmp 3) rfl gH rfl _ _ (0, 0) _ (L.bk_ 2 rfl) Try.underlying27 rfl cf_sz ?_) | (refine wpList_load_row rfl 42 (.tmp 5) rfl gO rfl _ _ (0, 0) _ (L.bk_ 1 rfl) Try.underlying42 rfl op_sz ?_))
  have KS := L.K.size
  refine ((TG _ z (hI.below L.K) (hL.below L.K)).out).mono ?_
  rintro e w6 ⟨A0', c0', A1', c1', A2', c2', A3', c3', rfl, L', K'⟩
  have Lb := L.lts
  replace L := L.over K'
  replace L := L.lists Lb L'
  clear Lb
  try dsimp only [lF, List.cons_append, List.nil_append] at L
  clear L'
  go_wp2_with (refine wpList_store_row rfl 42 (.tmp 7) (.tmp 47) rfl gR _ rfl rfl _ _ (L.bk_ 0 rfl) op_sz rfl (opv_one _ _) ?_)
  replace L := (L.row 0 rfl (opv ⟨A0', n0, c0', A1', n1, c1', A2', n2, c2', A3', n3, c3'⟩ (gon a n0 xs (adS ⟨kind, addr, err, aad, used, phase, shard, sought, (lf : Int), (bt : Int), word, full, at_, tries, item, stamp⟩ z))))
  try dsimp only [nput] at L
  generalize (w6).setRow gR (opv ⟨A0', n0, c0', A1', n1, c1', A2', n2, c2', A3', n3, c3'⟩ (gon a n0 xs (adS ⟨kind, addr, err, aad, used, phase, shard, sought, (lf : Int), (bt : Int), word, full, at_, tries, item, stamp⟩ z))) = w7 at L ⊢
  refine bodyPost_ret (v := .tuple #[.slice (some ⟨gS, 0, none⟩) m dS, .agg (opv ⟨A0', n0, c0', A1', n1, c1', A2', n2, c2', A3', n3, c3'⟩ (gon a n0 xs (adS ⟨kind, addr, err, aad, used, phase, shard, sought, (lf : Int), (bt : Int), word, full, at_, tries, item, stamp⟩ z))), .bool true]) ?_ rfl ?_
  · exact results_tct (fn := Try.f38) Try.results38 _ _ gR _ _ (0, 0) _ rfl (L.bk_ 0 rfl) Try.underlying42 rfl op_sz
  exact ⟨_, _, _, _, _, _, _, _, _, _, _, _, _, rfl, L.us_ 4 rfl, (L.lists_at 0 rfl).lower_ (Nat.le_trans hlo KS), fun k hk _ b o e => by injection e with e; injection e with e1; omega, L.K⟩
theorem claim_stp (ha : a < 4294967296) (hM : Much a p M) (hI : IS .u32 lo2 w h.A0 h.n0 h.c0 xs) (hn : h.n0 ≤ 65536) (hin : InB a M h.n0 xs) (hlo : lo ≤ w.heap.size) (hL : Lists lo w h l) (h1 : h.n1 ≤ 65536) (h2 : h.n2 ≤ 65536) (h3 : h.n3 ≤ 65536) (hU : US w B m d ys) (hm : m ≤ 65536) (hlf : s.leaf = (lf : Int)) (hlm : lf < m) (hbt : s.bit = (bt : Int)) (hb : bt < 32) (hof : 32 * lf + bt < M) (hw : s.word < 18446744073709551616) :
    Calls Try.prog 38 #[.agg #[.int .u32 (a : Int), .int .i64 p, .slice A n c, .int .i64 sh, .int .i64 wo, .int .i64 qu, .int .i64 tr], .slice B m d, .agg (opv h s)] w (RetStp lo h.n0 (claimS a h.n0 xs (gt ys lf) s) l m (claimC ys s) (decide (gt ys lf = s.word)) B w) := by
  unfold claimS claimC
  rw [hlf, hbt, Int.toNat_natCast, Int.toNat_natCast]
  by_cases heq : gt ys lf = s.word
  · rw [if_pos heq, if_pos heq, decide_eq_true heq]
    cases hfl : fl (clm s.word bt) with
    | true => rw [if_pos rfl]; exact claim_full ha hM hI hn hin hlo hL h1 h2 h3 hU hm hlf hlm hbt hb hof hw heq hfl
    | false => rw [if_neg Bool.false_ne_true]; exact claim_go ha hM hI hn hin hlo hL h1 h2 h3 hU hm hlf hlm hbt hb hof hw heq hfl
  · rw [if_neg heq, if_neg heq, decide_eq_false heq]
    exact claim_not ha hM hI hn hin hlo hL h1 h2 h3 hU hm hlf hlm hbt hb hof hw heq
end
end Go.Proofs.Ytgpbdoegcagdaaa
