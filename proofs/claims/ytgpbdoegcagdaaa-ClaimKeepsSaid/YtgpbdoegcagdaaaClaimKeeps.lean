/-
  The walk of the law ClaimKeeps: for every configuration, cells and operation it answers true.
-/
import Derived.Test.YtgpbdoegcagdaaaClaimAwake
namespace Go.Proofs.Ytgpbdoegcagdaaa.claimKeeps
open Go.RowKit
set_option linter.unusedVariables false
section
variable {w : World} {lo a M m d lf bt : Nat} {p sh wo qu tr : Int} {A B : Option Addr} {n c : Nat} {zs xs : List Int} {ys : List Nat} {h : Hd} {s : Sc} {l : Ls}
theorem looks2 (hph : s.phase = 2) :
    Calls Try.prog 18 #[.agg (opv h s)] w (RetBo true w) := by
  rcases s with ⟨kind, addr, err, aad, used, phase, shard, sought, leaf, bit, word, full, at_, tries, item, stamp⟩
  rcases h with ⟨A0, n0, c0, A1, n1, c1, A2, n2, c2, A3, n3, c3⟩
  try dsimp only at *
  subst hph
  go_enter Try.func18, Try.ntmps18
  go_upto_region 1 with (fail)
  have L := Loc.start w
  replace L := (L).alloc (opv ⟨A0, n0, c0, A1, n1, c1, A2, n2, c2, A3, n3, c3⟩ ⟨kind, addr, err, aad, used, 2, shard, sought, leaf, bit, word, full, at_, tries, item, stamp⟩) 42
  try simp only [World.size_alloc] at L
  try dsimp only [nput] at L
  generalize (w).alloc (.cells (opv ⟨A0, n0, c0, A1, n1, c1, A2, n2, c2, A3, n3, c3⟩ ⟨kind, addr, err, aad, used, 2, shard, sought, leaf, bit, word, full, at_, tries, item, stamp⟩) 42) = w1 at L ⊢
  generalize w.heap.size = gO at L ⊢
  have O_8 := L.at_ 0 8 rfl (v := .int .i64 2) rfl
  have O_z := L.lt 0 rfl
  go_wp2_with fail
  clear O_8 O_z
  go_ret
  exact ⟨rfl, L.K⟩
theorem looks3 (hph : s.phase = 3) :
    Calls Try.prog 18 #[.agg (opv h s)] w (RetBo true w) := by
  rcases s with ⟨kind, addr, err, aad, used, phase, shard, sought, leaf, bit, word, full, at_, tries, item, stamp⟩
  rcases h with ⟨A0, n0, c0, A1, n1, c1, A2, n2, c2, A3, n3, c3⟩
  try dsimp only at *
  subst hph
  go_enter Try.func18, Try.ntmps18
  go_upto_region 1 with (fail)
  have L := Loc.start w
  replace L := (L).alloc (opv ⟨A0, n0, c0, A1, n1, c1, A2, n2, c2, A3, n3, c3⟩ ⟨kind, addr, err, aad, used, 3, shard, sought, leaf, bit, word, full, at_, tries, item, stamp⟩) 42
  try simp only [World.size_alloc] at L
  try dsimp only [nput] at L
  generalize (w).alloc (.cells (opv ⟨A0, n0, c0, A1, n1, c1, A2, n2, c2, A3, n3, c3⟩ ⟨kind, addr, err, aad, used, 3, shard, sought, leaf, bit, word, full, at_, tries, item, stamp⟩) 42) = w1 at L ⊢
  generalize w.heap.size = gO at L ⊢
  have O_8 := L.at_ 0 8 rfl (v := .int .i64 3) rfl
  have O_z := L.lt 0 rfl
  go_wp2_with fail
  clear O_8 O_z
  go_ret
  exact ⟨rfl, L.K⟩
theorem looks0 (h2 : s.phase ≠ 2) (h3 : s.phase ≠ 3) :
    Calls Try.prog 18 #[.agg (opv h s)] w (RetBo false w) := by
  rcases s with ⟨kind, addr, err, aad, used, phase, shard, sought, leaf, bit, word, full, at_, tries, item, stamp⟩
  rcases h with ⟨A0, n0, c0, A1, n1, c1, A2, n2, c2, A3, n3, c3⟩
  try dsimp only at *
  have f2 : (phase == 2) = false := by simpa using h2
  have f3 : (phase == 3) = false := by simpa using h3
  clear h2 h3
  go_enter Try.func18, Try.ntmps18
  go_upto_region 1 with (fail)
  have L := Loc.start w
  replace L := (L).alloc (opv ⟨A0, n0, c0, A1, n1, c1, A2, n2, c2, A3, n3, c3⟩ ⟨kind, addr, err, aad, used, phase, shard, sought, leaf, bit, word, full, at_, tries, item, stamp⟩) 42
  try simp only [World.size_alloc] at L
  try dsimp only [nput] at L
  generalize (w).alloc (.cells (opv ⟨A0, n0, c0, A1, n1, c1, A2, n2, c2, A3, n3, c3⟩ ⟨kind, addr, err, aad, used, phase, shard, sought, leaf, bit, word, full, at_, tries, item, stamp⟩) 42) = w1 at L ⊢
  generalize w.heap.size = gO at L ⊢
  have O_8 := L.at_ 0 8 rfl (v := .int .i64 phase) rfl
  have O_z := L.lt 0 rfl
  go_wp2_with fail
  clear O_8 O_z
  go_ret
  exact ⟨rfl, L.K⟩
set_option maxRecDepth 100000 in
set_option maxHeartbeats 4000000 in
theorem other (ha : a < 4294967296) (h0 : IS .i64 lo w A n c zs) (hU : US w B m d ys) (hI : IS .u32 0 w h.A0 h.n0 h.c0 xs) (hxs : ∀ j, j < h.n0 → ∃ x : Nat, gi xs j = (x : Int) ∧ x < 4294967296) (hL : Lists 0 w h l) (hf : ∀ x ∈ l.ses, (Lit.int .u64 x).wf = true) (hw : s.word < 18446744073709551616) (h2 : s.phase ≠ 2) (h3 : s.phase ≠ 3) :
    Calls Try.prog 5 #[.agg #[.int .u32 (a : Int), .int .i64 p, .slice A n c, .int .i64 sh, .int .i64 wo, .int .i64 qu, .int .i64 tr], .slice B m d, .agg (opv h s)] w (RetBo true w) := by
  replace hxs := Lib.hid hxs
  replace hf := Lib.hid hf
  have TK := fun w => Lib.hid (looks0 (w := w) (h := h) h2 h3)
  clear h2 h3
  rcases s with ⟨kind, addr, err, aad, used, phase, shard, sought, leaf, bit, word, full, at_, tries, item, stamp⟩
  rcases h with ⟨A0, n0, c0, A1, n1, c1, A2, n2, c2, A3, n3, c3⟩
  try dsimp only at *
  go_enter Try.func5, Try.ntmps5
  go_upto_region 1 with (fail)
  have L := Loc.start w
  replace L := ((L).alloc #[.int .u32 (a : Int), .int .i64 p, .slice A n c, .int .i64 sh, .int .i64 wo, .int .i64 qu, .int .i64 tr] 27).alloc (opv ⟨A0, n0, c0, A1, n1, c1, A2, n2, c2, A3, n3, c3⟩ ⟨kind, addr, err, aad, used, phase, shard, sought, leaf, bit, word, full, at_, tries, item, stamp⟩) 42
  try simp only [World.size_alloc] at L
  try dsimp only [nput] at L
  generalize ((w).alloc (.cells #[.int .u32 (a : Int), .int .i64 p, .slice A n c, .int .i64 sh, .int .i64 wo, .int .i64 qu, .int .i64 tr] 27)).alloc (.cells (opv ⟨A0, n0, c0, A1, n1, c1, A2, n2, c2, A3, n3, c3⟩ ⟨kind, addr, err, aad, used, phase, shard, sought, leaf, bit, word, full, at_, tries, item, stamp⟩) 42) = w1 at L ⊢
  generalize w.heap.size + 1 = gO at L ⊢
  generalize w.heap.size = gH at L ⊢
  go_wp2_with fail
  refine (awake_any _).mono ?_
  rintro e w2 ⟨rfl, K'⟩
  replace L := L.over K'
  go_wp2_with (first | (refine wpList_load_want (by rfl) 27 (.tmp 3) rfl gH rfl _ _ (0, 0) _ (L.bk_ 1 rfl) Try.underlying27 rfl cf_sz ?_) | (refine wpList_load_want (by rfl) 42 (.tmp 5) rfl gO rfl _ _ (0, 0) _ (L.bk_ 0 rfl) Try.underlying42 rfl op_sz ?_))
  refine (fits13_any ha (h0.below L.K) (hI.below L.K) hxs.out).mono ?_
  rintro e w3 ⟨bo, rfl, hB, K'⟩
  replace L := L.over K'
  rcases bo with _ | _
  · clear hB
    go_wp2_with fail
    refine (awake_any _).mono ?_
    rintro e w92 ⟨rfl, K'⟩
    replace L := L.over K'
    go_wp2
    go_ret
    exact ⟨rfl, L.K⟩
  replace hB := hB rfl
  clear hB
  go_wp2_with (refine wpList_load_want (by rfl) 42 (.tmp 5) rfl gO rfl _ _ (0, 0) _ (L.bk_ 0 rfl) Try.underlying42 rfl op_sz ?_)
  refine ((TK _).out).mono ?_
  rintro e w4 ⟨rfl, K'⟩
  replace L := L.over K'
  go_wp2_with fail
  refine (awake_any _).mono ?_
  rintro e w5 ⟨rfl, K'⟩
  replace L := L.over K'
  go_wp2
  go_ret
  exact ⟨rfl, L.K⟩
set_option maxRecDepth 100000 in
set_option maxHeartbeats 4000000 in
theorem at2 (ha : a < 4294967296) (h0 : IS .i64 lo w A n c zs) (hU : US w B m d ys) (hI : IS .u32 0 w h.A0 h.n0 h.c0 xs) (hxs : ∀ j, j < h.n0 → ∃ x : Nat, gi xs j = (x : Int) ∧ x < 4294967296) (hL : Lists 0 w h l) (hf : ∀ x ∈ l.ses, (Lit.int .u64 x).wf = true) (hw : s.word < 18446744073709551616) (hph : s.phase = 2) :
    Calls Try.prog 5 #[.agg #[.int .u32 (a : Int), .int .i64 p, .slice A n c, .int .i64 sh, .int .i64 wo, .int .i64 qu, .int .i64 tr], .slice B m d, .agg (opv h s)] w (RetBo true w) := by
  replace hxs := Lib.hid hxs
  replace hf := Lib.hid hf
  rcases s with ⟨kind, addr, err, aad, used, phase, shard, sought, leaf, bit, word, full, at_, tries, item, stamp⟩
  rcases h with ⟨A0, n0, c0, A1, n1, c1, A2, n2, c2, A3, n3, c3⟩
  try dsimp only at *
  subst hph
  go_enter Try.func5, Try.ntmps5
  go_upto_region 1 with (fail)
  have L := Loc.start w
  replace L := ((L).alloc #[.int .u32 (a : Int), .int .i64 p, .slice A n c, .int .i64 sh, .int .i64 wo, .int .i64 qu, .int .i64 tr] 27).alloc (opv ⟨A0, n0, c0, A1, n1, c1, A2, n2, c2, A3, n3, c3⟩ ⟨kind, addr, err, aad, used, 2, shard, sought, leaf, bit, word, full, at_, tries, item, stamp⟩) 42
  try simp only [World.size_alloc] at L
  try dsimp only [nput] at L
  generalize ((w).alloc (.cells #[.int .u32 (a : Int), .int .i64 p, .slice A n c, .int .i64 sh, .int .i64 wo, .int .i64 qu, .int .i64 tr] 27)).alloc (.cells (opv ⟨A0, n0, c0, A1, n1, c1, A2, n2, c2, A3, n3, c3⟩ ⟨kind, addr, err, aad, used, 2, shard, sought, leaf, bit, word, full, at_, tries, item, stamp⟩) 42) = w1 at L ⊢
  generalize w.heap.size + 1 = gO at L ⊢
  generalize w.heap.size = gH at L ⊢
  go_wp2_with fail
  refine (awake_any _).mono ?_
  rintro e w2 ⟨rfl, K'⟩
  replace L := L.over K'
  go_wp2_with (first | (refine wpList_load_want (by rfl) 27 (.tmp 3) rfl gH rfl _ _ (0, 0) _ (L.bk_ 1 rfl) Try.underlying27 rfl cf_sz ?_) | (refine wpList_load_want (by rfl) 42 (.tmp 5) rfl gO rfl _ _ (0, 0) _ (L.bk_ 0 rfl) Try.underlying42 rfl op_sz ?_))
  refine (fits13_any ha (h0.below L.K) (hI.below L.K) hxs.out).mono ?_
  rintro e w3 ⟨bo, rfl, hB, K'⟩
  replace L := L.over K'
  rcases bo with _ | _
  · clear hB
    go_wp2_with fail
    refine (awake_any _).mono ?_
    rintro e w92 ⟨rfl, K'⟩
    replace L := L.over K'
    go_wp2
    go_ret
    exact ⟨rfl, L.K⟩
  replace hB := hB rfl
  obtain ⟨M, lf, bt, hM, hm4, hmm, hW, hlf, hlv, hbt, hb5, hof, hs0, hs1⟩ := hB
  dsimp only at hlf hbt hs0 hs1
  obtain ⟨⟨q1, q2⟩, ⟨q3, q4⟩, ⟨q5, q6⟩, ⟨q7, q8, q9, q10⟩, hin⟩ := hW.out
  dsimp only at q1 q2 q3 q4 q5 q6 q7 q8 q9 q10 hin
  clear hW
  subst hlf hbt
  have hM4 := hM.most
  have hl3 := lv_le hM4
  have hm6 : m ≤ 65536 ∧ lf < m := by have : tv M = (lv M + 63) / 64 := rfl; omega
  obtain ⟨hm6, hlm⟩ := hm6
  replace hmm := Lib.hid hmm
  have hm0 : 0 < m := by omega
  have hS := hL.i3.toUS hf.out
  go_wp2_with (refine wpList_load_want (by rfl) 42 (.tmp 5) rfl gO rfl _ _ (0, 0) _ (L.bk_ 0 rfl) Try.underlying42 rfl op_sz ?_)
  refine (looks2 rfl).mono ?_
  rintro e w4 ⟨rfl, K'⟩
  replace L := L.over K'
  obtain ⟨i0, hi, hz0, hz1, hz2⟩ := info_parts u64_info
  have hown : (w4.alloc (.cells #[] 40)).ownsRow w4.heap.size 40 1 (.slice (some ⟨w4.heap.size, 0, none⟩) 0 0) 0 [] := World.ownsRow_lit w4 #[] 0 (Nat.le_refl _) (by unfold maxLen; omega) rfl
  have Ka := below_alloc w4 (.cells #[] 40)
  have hUc := hU.below L.K
  obtain ⟨gC, dC, wRC, hapC, OR, KR⟩ := run_append_us (P := Try.prog) Try.underlying28 hi hz0 hz1 hz2 hown (hUc.below Ka) hm6 (Nat.le_refl _) Ka.size 28
  have KC := Ka.trans KR
  have UC := OR.us hUc.fit
  have gC := OR.ge
  clear hown Ka KR OR hi hz0 hz1 hz2 hUc
  go_upto_region 4 with (at_builtin; refine wpList_append_run rfl (.tmp 25) (.tmp 26) 28 rfl _ _ _ _ rfl rfl hapC ?_)
  replace L := (L.over KC).us_av (fun i b e b' o e' => by injection e' with e'; injection e' with e1; have := L.lts i b e; omega) UC
  clear KC UC hapC
  obtain ⟨i0, hi, hz0, hz1, hz2⟩ := info_parts u64_info
  have hown : (wRC.alloc (.cells #[] 40)).ownsRow wRC.heap.size 40 1 (.slice (some ⟨wRC.heap.size, 0, none⟩) 0 0) 0 [] := World.ownsRow_lit wRC #[] 0 (Nat.le_refl _) (by unfold maxLen; omega) rfl
  have Ka := below_alloc wRC (.cells #[] 40)
  have hUc := hS.below L.K
  obtain ⟨gD, dD, wRD, hapD, OR, KR⟩ := run_append_us (P := Try.prog) Try.underlying28 hi hz0 hz1 hz2 hown (hUc.below Ka) (by omega) (Nat.le_refl _) Ka.size 28
  have KC := Ka.trans KR
  have UC := OR.us hUc.fit
  have gC := OR.ge
  clear hown Ka KR OR hi hz0 hz1 hz2 hUc
  have O_15 := L.at_ 0 15 rfl (v := .slice A3 n3 c3) rfl
  have O_z := L.lt 0 rfl
  go_upto_region 5 with (at_builtin; refine wpList_append_run rfl (.tmp 28) (.tmp 30) 28 rfl _ _ _ _ rfl rfl hapD ?_)
  clear O_15 O_z
  replace L := (L.over KC).us_av (fun i b e b' o e' => by injection e' with e'; injection e' with e1; have := L.lts i b e; omega) UC
  clear KC UC hapD
  go_upto_region 6 with (first | (refine wpList_load_row rfl 42 (.tmp 5) rfl gO rfl _ _ (0, 0) _ (L.bk_ 0 rfl) Try.underlying42 rfl op_sz ?_) | (refine wpList_store_row rfl 42 (.tmp 9) (.tmp 32) rfl _ _ rfl (show _ = Value.agg (opv ⟨A0, n0, c0, A1, n1, c1, A2, n2, c2, A3, n3, c3⟩ ⟨kind, addr, err, aad, used, 2, shard, sought, (lf : Int), (bt : Int), word, full, at_, tries, item, stamp⟩) from rfl) _ _ (Bk.new _ _ _) op_sz rfl (opv_one _ _) ?_))
  try rw [World.setRow_alloc_new]
  replace L := (L).alloc (opv ⟨A0, n0, c0, A1, n1, c1, A2, n2, c2, A3, n3, c3⟩ ⟨kind, addr, err, aad, used, 2, shard, sought, (lf : Int), (bt : Int), word, full, at_, tries, item, stamp⟩) 42
  try simp only [World.size_alloc] at L
  try dsimp only [nput] at L
  generalize (wRD).alloc (.cells (opv ⟨A0, n0, c0, A1, n1, c1, A2, n2, c2, A3, n3, c3⟩ ⟨kind, addr, err, aad, used, 2, shard, sought, (lf : Int), (bt : Int), word, full, at_, tries, item, stamp⟩) 42) = w5 at L ⊢
  generalize wRD.heap.size = gP at L ⊢
  have P_15 := L.at_ 0 15 rfl (v := .slice A3 n3 c3) rfl
  have P_z := L.lt 0 rfl
  have P_f15 := L.fz 0 15 rfl
  go_upto_region 7 with fail
  clear P_15 P_z P_f15
  replace L := ((L.set 0 15 rfl (.slice (some ⟨gD, 0, none⟩) n3 dD)).is 0 (opv ⟨A0, n0, c0, A1, n1, c1, A2, n2, c2, (some ⟨gD, 0, none⟩), n3, dD⟩ ⟨kind, addr, err, aad, used, 2, shard, sought, (lf : Int), (bt : Int), word, full, at_, tries, item, stamp⟩) rfl)
  try dsimp only [nput] at L
  generalize (w5).setCell ⟨gP, 15, none⟩ (.slice (some ⟨gD, 0, none⟩) n3 dD) = w6 at L ⊢
  go_wp2_with (first | (refine wpList_load_row rfl 27 (.tmp 3) rfl gH rfl _ _ (0, 0) _ (L.bk_ 2 rfl) Try.underlying27 rfl cf_sz ?_) | (refine wpList_load_row rfl 42 (.tmp 9) rfl gP rfl _ _ (0, 0) _ (L.bk_ 0 rfl) Try.underlying42 rfl op_sz ?_))
  refine (cstep_look (a := a) (p := p) (sh := sh) (wo := wo) (qu := qu) (tr := tr) (A := A) (n := n) (c := c) (w := w6) (lo := 0) (h := ⟨A0, n0, c0, A1, n1, c1, A2, n2, c2, (some ⟨gD, 0, none⟩), n3, dD⟩) (s := ⟨kind, addr, err, aad, used, 2, shard, sought, (lf : Int), (bt : Int), word, full, at_, tries, item, stamp⟩) (l := ⟨l.rqs, l.ads, l.ers, (l.ses.map Int.toNat).map Int.ofNat⟩) ⟨(hL.below L.K).i0, (hL.below L.K).i1, (hL.below L.K).i2, (L.us_ 0 rfl).toIS (Nat.zero_le _)⟩ (by show n0 ≤ 65536; omega) (by show n1 ≤ 65536; omega) (by show n2 ≤ 65536; omega) (by show n3 ≤ 65536; omega) (L.us_ 1 rfl) rfl hlm hs0 (by show sought ≤ 65536; omega) rfl).mono ?_
  rintro e w7 ⟨A0_1, c0_1, A1_1, n1_1, c1_1, A2_1, n2_1, c2_1, A3_1, n3_1, c3_1, B_1, d_1, rfl, U, L', hA, K'⟩
  have Lb := L.lts
  replace L := L.over K'
  replace L := L.us_av (fun i b e => hA b.1 (Lb i b e) (L.ap_ 1 rfl hm0 i b e)) U
  clear Lb
  try dsimp only [lF, List.cons_append, List.nil_append] at L
  clear L' U hA
  go_wp2_with fail
  refine (same_any (L.us_ 2 rfl) (hU.below L.K) hm6).mono ?_
  rintro e w8 ⟨rfl, K'⟩
  replace L := L.over K'
  have O_15 := L.at_ 1 15 rfl (v := .slice A3 n3 c3) rfl
  have O_z := L.lt 1 rfl
  go_wp2_with fail
  refine (same_any (L.us_ 1 rfl) (hS.below L.K) (by omega)).mono ?_
  rintro e w9 ⟨rfl, K'⟩
  clear O_15 O_z
  replace L := L.over K'
  go_wp2
  go_ret
  exact ⟨rfl, L.K⟩
set_option maxRecDepth 100000 in
set_option maxHeartbeats 4000000 in
theorem at3 (ha : a < 4294967296) (h0 : IS .i64 lo w A n c zs) (hU : US w B m d ys) (hI : IS .u32 0 w h.A0 h.n0 h.c0 xs) (hxs : ∀ j, j < h.n0 → ∃ x : Nat, gi xs j = (x : Int) ∧ x < 4294967296) (hL : Lists 0 w h l) (hf : ∀ x ∈ l.ses, (Lit.int .u64 x).wf = true) (hw : s.word < 18446744073709551616) (hph : s.phase = 3) :
    Calls Try.prog 5 #[.agg #[.int .u32 (a : Int), .int .i64 p, .slice A n c, .int .i64 sh, .int .i64 wo, .int .i64 qu, .int .i64 tr], .slice B m d, .agg (opv h s)] w (RetBo true w) := by
  replace hxs := Lib.hid hxs
  replace hf := Lib.hid hf
  rcases s with ⟨kind, addr, err, aad, used, phase, shard, sought, leaf, bit, word, full, at_, tries, item, stamp⟩
  rcases h with ⟨A0, n0, c0, A1, n1, c1, A2, n2, c2, A3, n3, c3⟩
  try dsimp only at *
  subst hph
  go_enter Try.func5, Try.ntmps5
  go_upto_region 1 with (fail)
  have L := Loc.start w
  replace L := ((L).alloc #[.int .u32 (a : Int), .int .i64 p, .slice A n c, .int .i64 sh, .int .i64 wo, .int .i64 qu, .int .i64 tr] 27).alloc (opv ⟨A0, n0, c0, A1, n1, c1, A2, n2, c2, A3, n3, c3⟩ ⟨kind, addr, err, aad, used, 3, shard, sought, leaf, bit, word, full, at_, tries, item, stamp⟩) 42
  try simp only [World.size_alloc] at L
  try dsimp only [nput] at L
  generalize ((w).alloc (.cells #[.int .u32 (a : Int), .int .i64 p, .slice A n c, .int .i64 sh, .int .i64 wo, .int .i64 qu, .int .i64 tr] 27)).alloc (.cells (opv ⟨A0, n0, c0, A1, n1, c1, A2, n2, c2, A3, n3, c3⟩ ⟨kind, addr, err, aad, used, 3, shard, sought, leaf, bit, word, full, at_, tries, item, stamp⟩) 42) = w1 at L ⊢
  generalize w.heap.size + 1 = gO at L ⊢
  generalize w.heap.size = gH at L ⊢
  go_wp2_with fail
  refine (awake_any _).mono ?_
  rintro e w2 ⟨rfl, K'⟩
  replace L := L.over K'
  go_wp2_with (first | (refine wpList_load_want (by rfl) 27 (.tmp 3) rfl gH rfl _ _ (0, 0) _ (L.bk_ 1 rfl) Try.underlying27 rfl cf_sz ?_) | (refine wpList_load_want (by rfl) 42 (.tmp 5) rfl gO rfl _ _ (0, 0) _ (L.bk_ 0 rfl) Try.underlying42 rfl op_sz ?_))
  refine (fits13_any ha (h0.below L.K) (hI.below L.K) hxs.out).mono ?_
  rintro e w3 ⟨bo, rfl, hB, K'⟩
  replace L := L.over K'
  rcases bo with _ | _
  · clear hB
    go_wp2_with fail
    refine (awake_any _).mono ?_
    rintro e w92 ⟨rfl, K'⟩
    replace L := L.over K'
    go_wp2
    go_ret
    exact ⟨rfl, L.K⟩
  replace hB := hB rfl
  obtain ⟨M, lf, bt, hM, hm4, hmm, hW, hlf, hlv, hbt, hb5, hof, hs0, hs1⟩ := hB
  dsimp only at hlf hbt hs0 hs1
  obtain ⟨⟨q1, q2⟩, ⟨q3, q4⟩, ⟨q5, q6⟩, ⟨q7, q8, q9, q10⟩, hin⟩ := hW.out
  dsimp only at q1 q2 q3 q4 q5 q6 q7 q8 q9 q10 hin
  clear hW
  subst hlf hbt
  have hM4 := hM.most
  have hl3 := lv_le hM4
  have hm6 : m ≤ 65536 ∧ lf < m := by have : tv M = (lv M + 63) / 64 := rfl; omega
  obtain ⟨hm6, hlm⟩ := hm6
  replace hmm := Lib.hid hmm
  have hm0 : 0 < m := by omega
  have hS := hL.i3.toUS hf.out
  go_wp2_with (refine wpList_load_want (by rfl) 42 (.tmp 5) rfl gO rfl _ _ (0, 0) _ (L.bk_ 0 rfl) Try.underlying42 rfl op_sz ?_)
  refine (looks3 rfl).mono ?_
  rintro e w4 ⟨rfl, K'⟩
  replace L := L.over K'
  obtain ⟨i0, hi, hz0, hz1, hz2⟩ := info_parts u64_info
  have hown : (w4.alloc (.cells #[] 40)).ownsRow w4.heap.size 40 1 (.slice (some ⟨w4.heap.size, 0, none⟩) 0 0) 0 [] := World.ownsRow_lit w4 #[] 0 (Nat.le_refl _) (by unfold maxLen; omega) rfl
  have Ka := below_alloc w4 (.cells #[] 40)
  have hUc := hU.below L.K
  obtain ⟨gC, dC, wRC, hapC, OR, KR⟩ := run_append_us (P := Try.prog) Try.underlying28 hi hz0 hz1 hz2 hown (hUc.below Ka) hm6 (Nat.le_refl _) Ka.size 28
  have KC := Ka.trans KR
  have UC := OR.us hUc.fit
  have gC := OR.ge
  clear hown Ka KR OR hi hz0 hz1 hz2 hUc
  go_upto_region 4 with (at_builtin; refine wpList_append_run rfl (.tmp 25) (.tmp 26) 28 rfl _ _ _ _ rfl rfl hapC ?_)
  replace L := (L.over KC).us_av (fun i b e b' o e' => by injection e' with e'; injection e' with e1; have := L.lts i b e; omega) UC
  clear KC UC hapC
  obtain ⟨i0, hi, hz0, hz1, hz2⟩ := info_parts u64_info
  have hown : (wRC.alloc (.cells #[] 40)).ownsRow wRC.heap.size 40 1 (.slice (some ⟨wRC.heap.size, 0, none⟩) 0 0) 0 [] := World.ownsRow_lit wRC #[] 0 (Nat.le_refl _) (by unfold maxLen; omega) rfl
  have Ka := below_alloc wRC (.cells #[] 40)
  have hUc := hS.below L.K
  obtain ⟨gD, dD, wRD, hapD, OR, KR⟩ := run_append_us (P := Try.prog) Try.underlying28 hi hz0 hz1 hz2 hown (hUc.below Ka) (by omega) (Nat.le_refl _) Ka.size 28
  have KC := Ka.trans KR
  have UC := OR.us hUc.fit
  have gC := OR.ge
  clear hown Ka KR OR hi hz0 hz1 hz2 hUc
  have O_15 := L.at_ 0 15 rfl (v := .slice A3 n3 c3) rfl
  have O_z := L.lt 0 rfl
  go_upto_region 5 with (at_builtin; refine wpList_append_run rfl (.tmp 28) (.tmp 30) 28 rfl _ _ _ _ rfl rfl hapD ?_)
  clear O_15 O_z
  replace L := (L.over KC).us_av (fun i b e b' o e' => by injection e' with e'; injection e' with e1; have := L.lts i b e; omega) UC
  clear KC UC hapD
  go_upto_region 6 with (first | (refine wpList_load_row rfl 42 (.tmp 5) rfl gO rfl _ _ (0, 0) _ (L.bk_ 0 rfl) Try.underlying42 rfl op_sz ?_) | (refine wpList_store_row rfl 42 (.tmp 9) (.tmp 32) rfl _ _ rfl (show _ = Value.agg (opv ⟨A0, n0, c0, A1, n1, c1, A2, n2, c2, A3, n3, c3⟩ ⟨kind, addr, err, aad, used, 3, shard, sought, (lf : Int), (bt : Int), word, full, at_, tries, item, stamp⟩) from rfl) _ _ (Bk.new _ _ _) op_sz rfl (opv_one _ _) ?_))
  try rw [World.setRow_alloc_new]
  replace L := (L).alloc (opv ⟨A0, n0, c0, A1, n1, c1, A2, n2, c2, A3, n3, c3⟩ ⟨kind, addr, err, aad, used, 3, shard, sought, (lf : Int), (bt : Int), word, full, at_, tries, item, stamp⟩) 42
  try simp only [World.size_alloc] at L
  try dsimp only [nput] at L
  generalize (wRD).alloc (.cells (opv ⟨A0, n0, c0, A1, n1, c1, A2, n2, c2, A3, n3, c3⟩ ⟨kind, addr, err, aad, used, 3, shard, sought, (lf : Int), (bt : Int), word, full, at_, tries, item, stamp⟩) 42) = w5 at L ⊢
  generalize wRD.heap.size = gP at L ⊢
  have P_15 := L.at_ 0 15 rfl (v := .slice A3 n3 c3) rfl
  have P_z := L.lt 0 rfl
  have P_f15 := L.fz 0 15 rfl
  go_upto_region 7 with fail
  clear P_15 P_z P_f15
  replace L := ((L.set 0 15 rfl (.slice (some ⟨gD, 0, none⟩) n3 dD)).is 0 (opv ⟨A0, n0, c0, A1, n1, c1, A2, n2, c2, (some ⟨gD, 0, none⟩), n3, dD⟩ ⟨kind, addr, err, aad, used, 3, shard, sought, (lf : Int), (bt : Int), word, full, at_, tries, item, stamp⟩) rfl)
  try dsimp only [nput] at L
  generalize (w5).setCell ⟨gP, 15, none⟩ (.slice (some ⟨gD, 0, none⟩) n3 dD) = w6 at L ⊢
  go_wp2_with (first | (refine wpList_load_row rfl 27 (.tmp 3) rfl gH rfl _ _ (0, 0) _ (L.bk_ 2 rfl) Try.underlying27 rfl cf_sz ?_) | (refine wpList_load_row rfl 42 (.tmp 9) rfl gP rfl _ _ (0, 0) _ (L.bk_ 0 rfl) Try.underlying42 rfl op_sz ?_))
  refine (cstep_claim (a := a) (p := p) (sh := sh) (wo := wo) (qu := qu) (tr := tr) (A := A) (n := n) (c := c) (w := w6) (lo := 0) (lo2 := 0) (h := ⟨A0, n0, c0, A1, n1, c1, A2, n2, c2, (some ⟨gD, 0, none⟩), n3, dD⟩) (s := ⟨kind, addr, err, aad, used, 3, shard, sought, (lf : Int), (bt : Int), word, full, at_, tries, item, stamp⟩) (l := ⟨l.rqs, l.ads, l.ers, (l.ses.map Int.toNat).map Int.ofNat⟩) (xs := xs) (M := M) ha hM (hI.below L.K) (by show n0 ≤ 65536; omega) hin ⟨(hL.below L.K).i0, (hL.below L.K).i1, (hL.below L.K).i2, (L.us_ 0 rfl).toIS (Nat.zero_le _)⟩ (by show n1 ≤ 65536; omega) (by show n2 ≤ 65536; omega) (by show n3 ≤ 65536; omega) (L.us_ 1 rfl) hm6 rfl hlm rfl hb5 hof hw rfl).mono ?_
  rintro e w7 ⟨A0_1, c0_1, A1_1, n1_1, c1_1, A2_1, n2_1, c2_1, A3_1, n3_1, c3_1, B_1, d_1, rfl, U, L', hA, K'⟩
  have Lb := L.lts
  replace L := L.over K'
  replace L := L.us_av (fun i b e => hA b.1 (Lb i b e) (L.ap_ 1 rfl hm0 i b e)) U
  clear Lb
  try dsimp only [lF, List.cons_append, List.nil_append] at L
  clear L' U hA
  go_wp2_with fail
  refine (same_any (L.us_ 2 rfl) (hU.below L.K) hm6).mono ?_
  rintro e w8 ⟨rfl, K'⟩
  replace L := L.over K'
  have O_15 := L.at_ 1 15 rfl (v := .slice A3 n3 c3) rfl
  have O_z := L.lt 1 rfl
  go_wp2_with fail
  refine (same_any (L.us_ 1 rfl) (hS.below L.K) (by omega)).mono ?_
  rintro e w9 ⟨rfl, K'⟩
  clear O_15 O_z
  replace L := L.over K'
  go_wp2
  go_ret
  exact ⟨rfl, L.K⟩
theorem main (ha : a < 4294967296) (h0 : IS .i64 lo w A n c zs) (hU : US w B m d ys) (hI : IS .u32 0 w h.A0 h.n0 h.c0 xs) (hxs : ∀ j, j < h.n0 → ∃ x : Nat, gi xs j = (x : Int) ∧ x < 4294967296) (hL : Lists 0 w h l) (hf : ∀ x ∈ l.ses, (Lit.int .u64 x).wf = true) (hw : s.word < 18446744073709551616) :
    Calls Try.prog 5 #[.agg #[.int .u32 (a : Int), .int .i64 p, .slice A n c, .int .i64 sh, .int .i64 wo, .int .i64 qu, .int .i64 tr], .slice B m d, .agg (opv h s)] w (RetBo true w) := by
  by_cases h2 : s.phase = 2
  · exact at2 ha h0 hU hI hxs hL hf hw h2
  · by_cases h3 : s.phase = 3
    · exact at3 ha h0 hU hI hxs hL hf hw h3
    · exact other ha h0 hU hI hxs hL hf hw h2 h3
end
theorem walk (a p : Int) (A : Option Addr) (n c : Nat) (z : List Int) (sh wo qu tr : Int) (B : Option Addr) (m d : Nat) (zb : List Int) (h : Hd) (s : Sc) (y0 y1 y2 y3 : List Int) (w : World) (wa : (Lit.int .u32 a).wf = true) (wr : IsRow .i64 w A n c z) (wb : IsRow .u64 w B m d zb) (hw : s.word < 18446744073709551616) (r0 : IsRow .u32 w h.A0 h.n0 h.c0 y0) (r1 : IsRow .u32 w h.A1 h.n1 h.c1 y1) (r2 : IsRow .i64 w h.A2 h.n2 h.c2 y2) (r3 : IsRow .u64 w h.A3 h.n3 h.c3 y3) :
    Calls Try.prog 5 #[.agg #[.int .u32 a, .int .i64 p, .slice A n c, .int .i64 sh, .int .i64 wo, .int .i64 qu, .int .i64 tr], .slice B m d, .agg (opv h s)] w fun e w' => e = .returned (.bool true) ∧ Below w.heap.size w w' := by
  obtain ⟨a, rfl, ha⟩ := wf_u32 wa
  obtain ⟨zs, h0, _⟩ := IS.of_row wr
  obtain ⟨ys, hU⟩ := US.of_row wb
  obtain ⟨xs, hI, hx⟩ := IS.of_row r0
  obtain ⟨ads, i1, _⟩ := IS.of_row r1
  obtain ⟨ers, i2, _⟩ := IS.of_row r2
  obtain ⟨ses, i3, hf⟩ := IS.of_row r3
  have hxs : ∀ j, j < h.n0 → ∃ x : Nat, gi xs j = (x : Int) ∧ x < 4294967296 := fun j hj => by
    have hl := hI.len
    obtain ⟨X, e, hX⟩ := wf_u32 (hx _ (gi_mem (show j < xs.length by omega)))
    exact ⟨X, e, hX⟩
  exact main ha h0 hU hI hxs (l := ⟨xs, ads, ers, ses⟩) ⟨hI, i1, i2, i3⟩ hf hw
end Go.Proofs.Ytgpbdoegcagdaaa.claimKeeps
