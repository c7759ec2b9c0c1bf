/-
  The walk of the law DropFails: for every configuration, cells, operation and word it answers true.
-/
import Derived.Test.YtafdlofmgefdoaaDropAwake
namespace Go.Proofs.Ytafdlofmgefdoaa.dropFails
open Go.RowKit
set_option linter.unusedVariables false
section
variable {w : World} {lo a M m d lf bt W : Nat} {p sh wo qu tr : Int} {A B : Option Addr} {n c : Nat} {zs xs : List Int} {ys : List Nat} {h : Hd} {s : Sc} {l : Ls}
theorem free_ph {a n : Nat} {xs : List Int} {s : Sc} : ((freeS a n xs s).phase == 9) = false := by
  unfold freeS gon
  split <;> rfl
set_option maxRecDepth 100000 in
set_option maxHeartbeats 4000000 in
theorem other (ha : a < 4294967296) (h0 : IS .i64 lo w A n c zs) (hU : US w B m d ys) (hI : IS .u32 0 w h.A0 h.n0 h.c0 xs) (hxs : ∀ j, j < h.n0 → ∃ x : Nat, gi xs j = (x : Int) ∧ x < 4294967296) (hL : Lists 0 w h l) (hf : ∀ x ∈ l.ses, (Lit.int .u64 x).wf = true) (hw : s.word < 18446744073709551616) (hW : W < 18446744073709551616) (hn : ¬ ((s.kind = 3 ∨ s.kind = 4) ∧ (s.phase = 8 ∨ s.phase = 9))) :
    Calls Try.prog 6 #[.agg #[.int .u32 (a : Int), .int .i64 p, .slice A n c, .int .i64 sh, .int .i64 wo, .int .i64 qu, .int .i64 tr], .slice B m d, .agg (opv h s), .int .u64 (W : Int)] w (RetBo true w) := by
  replace hxs := Lib.hid hxs
  replace hf := Lib.hid hf
  have TGv := fun w => Lib.hid (gives_no (w := w) (h := h) hn)
  clear hn
  rcases s with ⟨kind, addr, err, aad, used, phase, shard, sought, leaf, bit, word, full, at_, tries, item, stamp⟩
  rcases h with ⟨A0, n0, c0, A1, n1, c1, A2, n2, c2, A3, n3, c3⟩
  try dsimp only at *
  go_enter Try.func6, Try.ntmps6
  go_upto_region 1 with (fail)
  have L := Loc.start w
  replace L := ((L).alloc #[.int .u32 (a : Int), .int .i64 p, .slice A n c, .int .i64 sh, .int .i64 wo, .int .i64 qu, .int .i64 tr] 27).alloc (opv ⟨A0, n0, c0, A1, n1, c1, A2, n2, c2, A3, n3, c3⟩ ⟨kind, addr, err, aad, used, phase, shard, sought, leaf, bit, word, full, at_, tries, item, stamp⟩) 42
  try simp only [World.size_alloc] at L
  try dsimp only [nput] at L
  generalize ((w).alloc (.cells #[.int .u32 (a : Int), .int .i64 p, .slice A n c, .int .i64 sh, .int .i64 wo, .int .i64 qu, .int .i64 tr] 27)).alloc (.cells (opv ⟨A0, n0, c0, A1, n1, c1, A2, n2, c2, A3, n3, c3⟩ ⟨kind, addr, err, aad, used, phase, shard, sought, leaf, bit, word, full, at_, tries, item, stamp⟩) 42) = w1 at L ⊢
  generalize w.heap.size + 1 = gO at L ⊢
  generalize w.heap.size = gH at L ⊢
  go_wp2_with fail
  refine (awake_any _).mono ?_
  rintro e w2 ⟨rfl, K'⟩
  replace L := L.over K'
  go_wp2_with (first | (refine wpList_load_want (by rfl) 27 (.tmp 4) rfl gH rfl _ _ (0, 0) _ (L.bk_ 1 rfl) Try.underlying27 rfl cf_sz ?_) | (refine wpList_load_want (by rfl) 42 (.tmp 6) rfl gO rfl _ _ (0, 0) _ (L.bk_ 0 rfl) Try.underlying42 rfl op_sz ?_))
  refine (fits13_any ha (h0.below L.K) (hI.below L.K) hxs.out).mono ?_
  rintro e w3 ⟨bo, rfl, hB, K'⟩
  replace L := L.over K'
  rcases bo with _ | _
  · clear hB
    go_wp2_with fail
    refine (awake_any _).mono ?_
    rintro e w92 ⟨rfl, K'⟩
    replace L := L.over K'
    go_wp2
    go_ret
    exact ⟨rfl, L.K⟩
  replace hB := hB rfl
  clear hB
  go_wp2_with (refine wpList_load_want (by rfl) 42 (.tmp 6) rfl gO rfl _ _ (0, 0) _ (L.bk_ 0 rfl) Try.underlying42 rfl op_sz ?_)
  refine ((TGv _).out).mono ?_
  rintro e w4 ⟨rfl, K'⟩
  replace L := L.over K'
  go_wp2_with fail
  refine (awake_any _).mono ?_
  rintro e w5 ⟨rfl, K'⟩
  replace L := L.over K'
  go_wp2
  go_ret
  exact ⟨rfl, L.K⟩
set_option maxRecDepth 100000 in
set_option maxHeartbeats 4000000 in
theorem used (ha : a < 4294967296) (h0 : IS .i64 lo w A n c zs) (hU : US w B m d ys) (hI : IS .u32 0 w h.A0 h.n0 h.c0 xs) (hxs : ∀ j, j < h.n0 → ∃ x : Nat, gi xs j = (x : Int) ∧ x < 4294967296) (hL : Lists 0 w h l) (hf : ∀ x ∈ l.ses, (Lit.int .u64 x).wf = true) (hw : s.word < 18446744073709551616) (hW : W < 18446744073709551616) (hk : s.kind = 3 ∨ s.kind = 4) (hph : s.phase = 8) (hb : W.testBit s.bit.toNat = true) :
    Calls Try.prog 6 #[.agg #[.int .u32 (a : Int), .int .i64 p, .slice A n c, .int .i64 sh, .int .i64 wo, .int .i64 qu, .int .i64 tr], .slice B m d, .agg (opv h s), .int .u64 (W : Int)] w (RetBo true w) := by
  replace hxs := Lib.hid hxs
  replace hf := Lib.hid hf
  have TGv := fun w => Lib.hid (gives_at (w := w) (h := h) hk (.inl hph))
  replace hk := Lib.hid hk
  rcases s with ⟨kind, addr, err, aad, used, phase, shard, sought, leaf, bit, word, full, at_, tries, item, stamp⟩
  rcases h with ⟨A0, n0, c0, A1, n1, c1, A2, n2, c2, A3, n3, c3⟩
  try dsimp only at *
  subst hph
  go_enter Try.func6, Try.ntmps6
  go_upto_region 1 with (fail)
  have L := Loc.start w
  replace L := ((L).alloc #[.int .u32 (a : Int), .int .i64 p, .slice A n c, .int .i64 sh, .int .i64 wo, .int .i64 qu, .int .i64 tr] 27).alloc (opv ⟨A0, n0, c0, A1, n1, c1, A2, n2, c2, A3, n3, c3⟩ ⟨kind, addr, err, aad, used, 8, shard, sought, leaf, bit, word, full, at_, tries, item, stamp⟩) 42
  try simp only [World.size_alloc] at L
  try dsimp only [nput] at L
  generalize ((w).alloc (.cells #[.int .u32 (a : Int), .int .i64 p, .slice A n c, .int .i64 sh, .int .i64 wo, .int .i64 qu, .int .i64 tr] 27)).alloc (.cells (opv ⟨A0, n0, c0, A1, n1, c1, A2, n2, c2, A3, n3, c3⟩ ⟨kind, addr, err, aad, used, 8, shard, sought, leaf, bit, word, full, at_, tries, item, stamp⟩) 42) = w1 at L ⊢
  generalize w.heap.size + 1 = gO at L ⊢
  generalize w.heap.size = gH at L ⊢
  go_wp2_with fail
  refine (awake_any _).mono ?_
  rintro e w2 ⟨rfl, K'⟩
  replace L := L.over K'
  go_wp2_with (first | (refine wpList_load_want (by rfl) 27 (.tmp 4) rfl gH rfl _ _ (0, 0) _ (L.bk_ 1 rfl) Try.underlying27 rfl cf_sz ?_) | (refine wpList_load_want (by rfl) 42 (.tmp 6) rfl gO rfl _ _ (0, 0) _ (L.bk_ 0 rfl) Try.underlying42 rfl op_sz ?_))
  refine (fits13_any ha (h0.below L.K) (hI.below L.K) hxs.out).mono ?_
  rintro e w3 ⟨bo, rfl, hB, K'⟩
  replace L := L.over K'
  rcases bo with _ | _
  · clear hB
    go_wp2_with fail
    refine (awake_any _).mono ?_
    rintro e w92 ⟨rfl, K'⟩
    replace L := L.over K'
    go_wp2
    go_ret
    exact ⟨rfl, L.K⟩
  replace hB := hB rfl
  obtain ⟨M, lf, bt, hM, hm4, hmm, hW, hlf, hlv, hbt, hb5, hof, hs0, hs1⟩ := hB
  dsimp only at hlf hbt hs0 hs1
  obtain ⟨⟨q1, q2⟩, ⟨q3, q4⟩, ⟨q5, q6⟩, ⟨q7, q8, q9, q10⟩, hin⟩ := hW.out
  dsimp only at q1 q2 q3 q4 q5 q6 q7 q8 q9 q10 hin
  clear hW
  subst hlf hbt
  have hM4 := hM.most
  have hl3 := lv_le hM4
  have hm6 : m ≤ 65536 ∧ lf < m := by have : tv M = (lv M + 63) / 64 := rfl; omega
  obtain ⟨hm6, hlm⟩ := hm6
  replace hmm := Lib.hid hmm
  have hm0 : 0 < m := by omega
  have hl9 := hU.len
  have hgt : gt (ys.set lf W) lf = W := by rw [gt_set (by omega), if_pos rfl]
  have TS : ∀ w, US w B m d ys → Hid (Calls Try.prog 20 #[.slice B m d, .int .i64 (lf : Nat), .int .u64 (W : Nat)] w (RetSM m (ys.set lf W) w)) := fun w U => by have := crset_new U (lf : Int) hm6 (show W < U64 by unfold U64; omega); rw [stI_nat] at this; exact this
  have hb : W.testBit bt = true := by simpa using hb
  have TH := fun w => Lib.hid (rhas_any W bt hW (by omega) w)
  simp only [hb] at TH
  have TK : ∀ w C e, US w C m e (ys.set lf W) → Lists 0 w ⟨A0, n0, c0, A1, n1, c1, A2, n2, c2, A3, n3, c3⟩ l → IS .u32 0 w A0 n0 c0 xs → Hid (Calls Try.prog 10 #[.agg #[.int .u32 (a : Int), .int .i64 p, .slice A n c, .int .i64 sh, .int .i64 wo, .int .i64 qu, .int .i64 tr], .slice C m e, .agg (opv ⟨A0, n0, c0, A1, n1, c1, A2, n2, c2, A3, n3, c3⟩ ⟨kind, addr, err, aad, used, 8, shard, sought, (lf : Int), (bt : Int), word, full, at_, tries, item, stamp⟩)] w (RetStp w.heap.size n0 ⟨kind, addr, err, aad, used, 9, shard, sought, (lf : Int), (bt : Int), W, full, at_, tries, item, stamp⟩ l m (ys.set lf W) false C w)) := fun w C e U hL hI => by have := dstep_used (a := a) (p := p) (sh := sh) (wo := wo) (qu := qu) (tr := tr) (A := A) (n := n) (c := c) (w := w) (lo := 0) (lo2 := 0) (h := ⟨A0, n0, c0, A1, n1, c1, A2, n2, c2, A3, n3, c3⟩) (s := ⟨kind, addr, err, aad, used, 8, shard, sought, (lf : Int), (bt : Int), word, full, at_, tries, item, stamp⟩) (l := l) (xs := xs) (M := M) hL ha hM hI (by show n0 ≤ 65536; omega) hin (by show n1 ≤ 65536; omega) (by show n2 ≤ 65000; omega) (by show n3 ≤ 65536; omega) U rfl hlm rfl hb5 hk.out rfl (by rw [hgt]; exact hb); rw [hgt] at this; exact this
  clear hb hgt
  go_wp2_with (refine wpList_load_want (by rfl) 42 (.tmp 6) rfl gO rfl _ _ (0, 0) _ (L.bk_ 0 rfl) Try.underlying42 rfl op_sz ?_)
  refine ((TGv _).out).mono ?_
  rintro e w4 ⟨rfl, K'⟩
  replace L := L.over K'
  have O_11 := L.at_ 0 11 rfl (v := .int .i64 (lf : Int)) rfl
  have O_z := L.lt 0 rfl
  go_wp2_with fail
  refine ((TS _ (hU.below L.K)).out).mono ?_
  rintro e w5 ⟨gM, dM, rfl, U, hg, K'⟩
  clear O_11 O_z
  have Lb := L.lts
  replace L := L.over K'
  replace L := L.us_av (fun i b e b' o e' => by injection e' with e'; injection e' with e1; have := Lb i b e; omega) U
  clear Lb
  try dsimp only [lF, List.cons_append, List.nil_append] at L
  clear U hg
  go_wp2_with (first | (refine wpList_load_row rfl 27 (.tmp 4) rfl gH rfl _ _ (0, 0) _ (L.bk_ 1 rfl) Try.underlying27 rfl cf_sz ?_) | (refine wpList_load_row rfl 42 (.tmp 6) rfl gO rfl _ _ (0, 0) _ (L.bk_ 0 rfl) Try.underlying42 rfl op_sz ?_))
  refine ((TK _ _ _ (L.us_ 0 rfl) (hL.below L.K) (hI.below L.K)).out).mono ?_
  rintro e w6 ⟨A0_1, c0_1, A1_1, n1_1, c1_1, A2_1, n2_1, c2_1, A3_1, n3_1, c3_1, B_1, d_1, rfl, U, L', hA, K'⟩
  have Lb := L.lts
  replace L := L.over K'
  replace L := L.us_av (fun i b e => hA b.1 (Lb i b e) (L.ap_ 0 rfl hm0 i b e)) U
  clear Lb
  try dsimp only [lF, List.cons_append, List.nil_append] at L
  clear L' U hA
  go_upto_region 5 with (refine wpList_store_row rfl 42 (.tmp 11) (.tmp 40) rfl _ _ rfl (show _ = Value.agg (opv ⟨A0_1, n0, c0_1, A1_1, n1_1, c1_1, A2_1, n2_1, c2_1, A3_1, n3_1, c3_1⟩ ⟨kind, addr, err, aad, used, 9, shard, sought, (lf : Int), (bt : Int), W, full, at_, tries, item, stamp⟩) from rfl) _ _ (Bk.new _ _ _) op_sz rfl (opv_one _ _) ?_)
  try rw [World.setRow_alloc_new]
  replace L := (L).alloc (opv ⟨A0_1, n0, c0_1, A1_1, n1_1, c1_1, A2_1, n2_1, c2_1, A3_1, n3_1, c3_1⟩ ⟨kind, addr, err, aad, used, 9, shard, sought, (lf : Int), (bt : Int), W, full, at_, tries, item, stamp⟩) 42
  try simp only [World.size_alloc] at L
  try dsimp only [nput] at L
  generalize (w6).alloc (.cells (opv ⟨A0_1, n0, c0_1, A1_1, n1_1, c1_1, A2_1, n2_1, c2_1, A3_1, n3_1, c3_1⟩ ⟨kind, addr, err, aad, used, 9, shard, sought, (lf : Int), (bt : Int), W, full, at_, tries, item, stamp⟩) 42) = w7 at L ⊢
  generalize w6.heap.size = gP at L ⊢
  have O_8 := L.at_ 1 8 rfl (v := .int .i64 8) rfl
  have O_12 := L.at_ 1 12 rfl (v := .int .i64 (bt : Int)) rfl
  have O_z := L.lt 1 rfl
  go_wp2_with fail
  refine ((TH _).out).mono ?_
  rintro e w' ⟨rfl, rfl⟩
  clear O_8 O_12 O_z
  go_wp2_with fail
  refine (same_any (L.us_ 0 rfl) (L.us_ 1 rfl) hm6).mono ?_
  rintro e w8 ⟨rfl, K'⟩
  replace L := L.over K'
  have P_8 := L.at_ 0 8 rfl (v := .int .i64 9) rfl
  have P_z := L.lt 0 rfl
  go_wp2_with fail
  clear P_8 P_z
  go_ret
  exact ⟨rfl, L.K⟩
set_option maxRecDepth 100000 in
set_option maxHeartbeats 4000000 in
theorem free (ha : a < 4294967296) (h0 : IS .i64 lo w A n c zs) (hU : US w B m d ys) (hI : IS .u32 0 w h.A0 h.n0 h.c0 xs) (hxs : ∀ j, j < h.n0 → ∃ x : Nat, gi xs j = (x : Int) ∧ x < 4294967296) (hL : Lists 0 w h l) (hf : ∀ x ∈ l.ses, (Lit.int .u64 x).wf = true) (hw : s.word < 18446744073709551616) (hW : W < 18446744073709551616) (hk : s.kind = 3 ∨ s.kind = 4) (hph : s.phase = 8) (hb : W.testBit s.bit.toNat = false) :
    Calls Try.prog 6 #[.agg #[.int .u32 (a : Int), .int .i64 p, .slice A n c, .int .i64 sh, .int .i64 wo, .int .i64 qu, .int .i64 tr], .slice B m d, .agg (opv h s), .int .u64 (W : Int)] w (RetBo true w) := by
  replace hxs := Lib.hid hxs
  replace hf := Lib.hid hf
  have TGv := fun w => Lib.hid (gives_at (w := w) (h := h) hk (.inl hph))
  replace hk := Lib.hid hk
  rcases s with ⟨kind, addr, err, aad, used, phase, shard, sought, leaf, bit, word, full, at_, tries, item, stamp⟩
  rcases h with ⟨A0, n0, c0, A1, n1, c1, A2, n2, c2, A3, n3, c3⟩
  try dsimp only at *
  subst hph
  go_enter Try.func6, Try.ntmps6
  go_upto_region 1 with (fail)
  have L := Loc.start w
  replace L := ((L).alloc #[.int .u32 (a : Int), .int .i64 p, .slice A n c, .int .i64 sh, .int .i64 wo, .int .i64 qu, .int .i64 tr] 27).alloc (opv ⟨A0, n0, c0, A1, n1, c1, A2, n2, c2, A3, n3, c3⟩ ⟨kind, addr, err, aad, used, 8, shard, sought, leaf, bit, word, full, at_, tries, item, stamp⟩) 42
  try simp only [World.size_alloc] at L
  try dsimp only [nput] at L
  generalize ((w).alloc (.cells #[.int .u32 (a : Int), .int .i64 p, .slice A n c, .int .i64 sh, .int .i64 wo, .int .i64 qu, .int .i64 tr] 27)).alloc (.cells (opv ⟨A0, n0, c0, A1, n1, c1, A2, n2, c2, A3, n3, c3⟩ ⟨kind, addr, err, aad, used, 8, shard, sought, leaf, bit, word, full, at_, tries, item, stamp⟩) 42) = w1 at L ⊢
  generalize w.heap.size + 1 = gO at L ⊢
  generalize w.heap.size = gH at L ⊢
  go_wp2_with fail
  refine (awake_any _).mono ?_
  rintro e w2 ⟨rfl, K'⟩
  replace L := L.over K'
  go_wp2_with (first | (refine wpList_load_want (by rfl) 27 (.tmp 4) rfl gH rfl _ _ (0, 0) _ (L.bk_ 1 rfl) Try.underlying27 rfl cf_sz ?_) | (refine wpList_load_want (by rfl) 42 (.tmp 6) rfl gO rfl _ _ (0, 0) _ (L.bk_ 0 rfl) Try.underlying42 rfl op_sz ?_))
  refine (fits13_any ha (h0.below L.K) (hI.below L.K) hxs.out).mono ?_
  rintro e w3 ⟨bo, rfl, hB, K'⟩
  replace L := L.over K'
  rcases bo with _ | _
  · clear hB
    go_wp2_with fail
    refine (awake_any _).mono ?_
    rintro e w92 ⟨rfl, K'⟩
    replace L := L.over K'
    go_wp2
    go_ret
    exact ⟨rfl, L.K⟩
  replace hB := hB rfl
  obtain ⟨M, lf, bt, hM, hm4, hmm, hW, hlf, hlv, hbt, hb5, hof, hs0, hs1⟩ := hB
  dsimp only at hlf hbt hs0 hs1
  obtain ⟨⟨q1, q2⟩, ⟨q3, q4⟩, ⟨q5, q6⟩, ⟨q7, q8, q9, q10⟩, hin⟩ := hW.out
  dsimp only at q1 q2 q3 q4 q5 q6 q7 q8 q9 q10 hin
  clear hW
  subst hlf hbt
  have hM4 := hM.most
  have hl3 := lv_le hM4
  have hm6 : m ≤ 65536 ∧ lf < m := by have : tv M = (lv M + 63) / 64 := rfl; omega
  obtain ⟨hm6, hlm⟩ := hm6
  replace hmm := Lib.hid hmm
  have hm0 : 0 < m := by omega
  have hl9 := hU.len
  have hgt : gt (ys.set lf W) lf = W := by rw [gt_set (by omega), if_pos rfl]
  have TS : ∀ w, US w B m d ys → Hid (Calls Try.prog 20 #[.slice B m d, .int .i64 (lf : Nat), .int .u64 (W : Nat)] w (RetSM m (ys.set lf W) w)) := fun w U => by have := crset_new U (lf : Int) hm6 (show W < U64 by unfold U64; omega); rw [stI_nat] at this; exact this
  have hb : W.testBit bt = false := by simpa using hb
  have TH := fun w => Lib.hid (rhas_any W bt hW (by omega) w)
  simp only [hb] at TH
  obtain ⟨s2, hs2⟩ : ∃ s2, s2 = freeS a n0 xs ⟨kind, addr, err, aad, used, 8, shard, sought, (lf : Int), (bt : Int), word, full, at_, tries, item, stamp⟩ := ⟨_, rfl⟩
  have hp9 : (s2.phase == 9) = false := by rw [hs2]; exact free_ph
  have TK : ∀ w C e, US w C m e (ys.set lf W) → Lists 0 w ⟨A0, n0, c0, A1, n1, c1, A2, n2, c2, A3, n3, c3⟩ l → IS .u32 0 w A0 n0 c0 xs → Hid (Calls Try.prog 10 #[.agg #[.int .u32 (a : Int), .int .i64 p, .slice A n c, .int .i64 sh, .int .i64 wo, .int .i64 qu, .int .i64 tr], .slice C m e, .agg (opv ⟨A0, n0, c0, A1, n1, c1, A2, n2, c2, A3, n3, c3⟩ ⟨kind, addr, err, aad, used, 8, shard, sought, (lf : Int), (bt : Int), word, full, at_, tries, item, stamp⟩)] w (RetStp w.heap.size n0 s2 (erL ⟨kind, addr, err, aad, used, 8, shard, sought, (lf : Int), (bt : Int), word, full, at_, tries, item, stamp⟩ l 6) m (ys.set lf W) true C w)) := fun w C e U hL hI => by have := dstep_free (a := a) (p := p) (sh := sh) (wo := wo) (qu := qu) (tr := tr) (A := A) (n := n) (c := c) (w := w) (lo := 0) (lo2 := 0) (h := ⟨A0, n0, c0, A1, n1, c1, A2, n2, c2, A3, n3, c3⟩) (s := ⟨kind, addr, err, aad, used, 8, shard, sought, (lf : Int), (bt : Int), word, full, at_, tries, item, stamp⟩) (l := l) (xs := xs) (M := M) hL ha hM hI (by show n0 ≤ 65536; omega) hin (by show n1 ≤ 65536; omega) (by show n2 ≤ 65000; omega) (by show n3 ≤ 65536; omega) U rfl hlm rfl hb5 hk.out rfl (by rw [hgt]; exact hb); rw [hs2]; exact this
  clear hs2
  clear hb hgt
  go_wp2_with (refine wpList_load_want (by rfl) 42 (.tmp 6) rfl gO rfl _ _ (0, 0) _ (L.bk_ 0 rfl) Try.underlying42 rfl op_sz ?_)
  refine ((TGv _).out).mono ?_
  rintro e w4 ⟨rfl, K'⟩
  replace L := L.over K'
  have O_11 := L.at_ 0 11 rfl (v := .int .i64 (lf : Int)) rfl
  have O_z := L.lt 0 rfl
  go_wp2_with fail
  refine ((TS _ (hU.below L.K)).out).mono ?_
  rintro e w5 ⟨gM, dM, rfl, U, hg, K'⟩
  clear O_11 O_z
  have Lb := L.lts
  replace L := L.over K'
  replace L := L.us_av (fun i b e b' o e' => by injection e' with e'; injection e' with e1; have := Lb i b e; omega) U
  clear Lb
  try dsimp only [lF, List.cons_append, List.nil_append] at L
  clear U hg
  go_wp2_with (first | (refine wpList_load_row rfl 27 (.tmp 4) rfl gH rfl _ _ (0, 0) _ (L.bk_ 1 rfl) Try.underlying27 rfl cf_sz ?_) | (refine wpList_load_row rfl 42 (.tmp 6) rfl gO rfl _ _ (0, 0) _ (L.bk_ 0 rfl) Try.underlying42 rfl op_sz ?_))
  refine ((TK _ _ _ (L.us_ 0 rfl) (hL.below L.K) (hI.below L.K)).out).mono ?_
  rintro e w6 ⟨A0_1, c0_1, A1_1, n1_1, c1_1, A2_1, n2_1, c2_1, A3_1, n3_1, c3_1, B_1, d_1, rfl, U, L', hA, K'⟩
  have Lb := L.lts
  replace L := L.over K'
  replace L := L.us_av (fun i b e => hA b.1 (Lb i b e) (L.ap_ 0 rfl hm0 i b e)) U
  clear Lb
  try dsimp only [lF, List.cons_append, List.nil_append] at L
  clear L' U hA
  go_upto_region 5 with (refine wpList_store_row rfl 42 (.tmp 11) (.tmp 40) rfl _ _ rfl (show _ = Value.agg (opv ⟨A0_1, n0, c0_1, A1_1, n1_1, c1_1, A2_1, n2_1, c2_1, A3_1, n3_1, c3_1⟩ (s2)) from rfl) _ _ (Bk.new _ _ _) op_sz rfl (opv_one _ _) ?_)
  try rw [World.setRow_alloc_new]
  replace L := (L).alloc (opv ⟨A0_1, n0, c0_1, A1_1, n1_1, c1_1, A2_1, n2_1, c2_1, A3_1, n3_1, c3_1⟩ (s2)) 42
  try simp only [World.size_alloc] at L
  try dsimp only [nput] at L
  generalize (w6).alloc (.cells (opv ⟨A0_1, n0, c0_1, A1_1, n1_1, c1_1, A2_1, n2_1, c2_1, A3_1, n3_1, c3_1⟩ (s2)) 42) = w7 at L ⊢
  generalize w6.heap.size = gP at L ⊢
  have O_8 := L.at_ 1 8 rfl (v := .int .i64 8) rfl
  have O_12 := L.at_ 1 12 rfl (v := .int .i64 (bt : Int)) rfl
  have O_z := L.lt 1 rfl
  go_wp2_with fail
  refine ((TH _).out).mono ?_
  rintro e w' ⟨rfl, rfl⟩
  clear O_8 O_12 O_z
  go_wp2_with fail
  refine (same_any (L.us_ 0 rfl) (L.us_ 1 rfl) hm6).mono ?_
  rintro e w8 ⟨rfl, K'⟩
  replace L := L.over K'
  have P_8 := L.at_ 0 8 rfl (v := .int .i64 s2.phase) rfl
  have P_z := L.lt 0 rfl
  go_wp2_with fail
  clear P_8 P_z
  go_ret
  exact ⟨rfl, L.K⟩
set_option maxRecDepth 100000 in
set_option maxHeartbeats 4000000 in
theorem hit (ha : a < 4294967296) (h0 : IS .i64 lo w A n c zs) (hU : US w B m d ys) (hI : IS .u32 0 w h.A0 h.n0 h.c0 xs) (hxs : ∀ j, j < h.n0 → ∃ x : Nat, gi xs j = (x : Int) ∧ x < 4294967296) (hL : Lists 0 w h l) (hf : ∀ x ∈ l.ses, (Lit.int .u64 x).wf = true) (hw : s.word < 18446744073709551616) (hW : W < 18446744073709551616) (hk : s.kind = 3 ∨ s.kind = 4) (hph : s.phase = 9) (hq : W = s.word) :
    Calls Try.prog 6 #[.agg #[.int .u32 (a : Int), .int .i64 p, .slice A n c, .int .i64 sh, .int .i64 wo, .int .i64 qu, .int .i64 tr], .slice B m d, .agg (opv h s), .int .u64 (W : Int)] w (RetBo true w) := by
  replace hxs := Lib.hid hxs
  replace hf := Lib.hid hf
  subst hq
  have TGv := fun w => Lib.hid (gives_at (w := w) (h := h) hk (.inr hph))
  replace hk := Lib.hid hk
  rcases s with ⟨kind, addr, err, aad, used, phase, shard, sought, leaf, bit, word, full, at_, tries, item, stamp⟩
  rcases h with ⟨A0, n0, c0, A1, n1, c1, A2, n2, c2, A3, n3, c3⟩
  try dsimp only at *
  subst hph
  go_enter Try.func6, Try.ntmps6
  go_upto_region 1 with (fail)
  have L := Loc.start w
  replace L := ((L).alloc #[.int .u32 (a : Int), .int .i64 p, .slice A n c, .int .i64 sh, .int .i64 wo, .int .i64 qu, .int .i64 tr] 27).alloc (opv ⟨A0, n0, c0, A1, n1, c1, A2, n2, c2, A3, n3, c3⟩ ⟨kind, addr, err, aad, used, 9, shard, sought, leaf, bit, word, full, at_, tries, item, stamp⟩) 42
  try simp only [World.size_alloc] at L
  try dsimp only [nput] at L
  generalize ((w).alloc (.cells #[.int .u32 (a : Int), .int .i64 p, .slice A n c, .int .i64 sh, .int .i64 wo, .int .i64 qu, .int .i64 tr] 27)).alloc (.cells (opv ⟨A0, n0, c0, A1, n1, c1, A2, n2, c2, A3, n3, c3⟩ ⟨kind, addr, err, aad, used, 9, shard, sought, leaf, bit, word, full, at_, tries, item, stamp⟩) 42) = w1 at L ⊢
  generalize w.heap.size + 1 = gO at L ⊢
  generalize w.heap.size = gH at L ⊢
  go_wp2_with fail
  refine (awake_any _).mono ?_
  rintro e w2 ⟨rfl, K'⟩
  replace L := L.over K'
  go_wp2_with (first | (refine wpList_load_want (by rfl) 27 (.tmp 4) rfl gH rfl _ _ (0, 0) _ (L.bk_ 1 rfl) Try.underlying27 rfl cf_sz ?_) | (refine wpList_load_want (by rfl) 42 (.tmp 6) rfl gO rfl _ _ (0, 0) _ (L.bk_ 0 rfl) Try.underlying42 rfl op_sz ?_))
  refine (fits13_any ha (h0.below L.K) (hI.below L.K) hxs.out).mono ?_
  rintro e w3 ⟨bo, rfl, hB, K'⟩
  replace L := L.over K'
  rcases bo with _ | _
  · clear hB
    go_wp2_with fail
    refine (awake_any _).mono ?_
    rintro e w92 ⟨rfl, K'⟩
    replace L := L.over K'
    go_wp2
    go_ret
    exact ⟨rfl, L.K⟩
  replace hB := hB rfl
  obtain ⟨M, lf, bt, hM, hm4, hmm, hW, hlf, hlv, hbt, hb5, hof, hs0, hs1⟩ := hB
  dsimp only at hlf hbt hs0 hs1
  obtain ⟨⟨q1, q2⟩, ⟨q3, q4⟩, ⟨q5, q6⟩, ⟨q7, q8, q9, q10⟩, hin⟩ := hW.out
  dsimp only at q1 q2 q3 q4 q5 q6 q7 q8 q9 q10 hin
  clear hW
  subst hlf hbt
  have hM4 := hM.most
  have hl3 := lv_le hM4
  have hm6 : m ≤ 65536 ∧ lf < m := by have : tv M = (lv M + 63) / 64 := rfl; omega
  obtain ⟨hm6, hlm⟩ := hm6
  replace hmm := Lib.hid hmm
  have hm0 : 0 < m := by omega
  have hl9 := hU.len
  have hgt : gt (ys.set lf word) lf = word := by rw [gt_set (by omega), if_pos rfl]
  have TS : ∀ w, US w B m d ys → Hid (Calls Try.prog 20 #[.slice B m d, .int .i64 (lf : Nat), .int .u64 (word : Nat)] w (RetSM m (ys.set lf word) w)) := fun w U => by have := crset_new U (lf : Int) hm6 (show word < U64 by unfold U64; omega); rw [stI_nat] at this; exact this
  have hy : drp word bt < U64 := drp_lt _ _
  obtain ⟨s2, hs2⟩ : ∃ s2, s2 = hitS a n0 xs ⟨kind, addr, err, aad, used, 9, shard, sought, (lf : Int), (bt : Int), word, full, at_, tries, item, stamp⟩ := ⟨_, rfl⟩
  have TK : ∀ w C e, US w C m e (ys.set lf word) → Lists 0 w ⟨A0, n0, c0, A1, n1, c1, A2, n2, c2, A3, n3, c3⟩ l → IS .u32 0 w A0 n0 c0 xs → Hid (Calls Try.prog 10 #[.agg #[.int .u32 (a : Int), .int .i64 p, .slice A n c, .int .i64 sh, .int .i64 wo, .int .i64 qu, .int .i64 tr], .slice C m e, .agg (opv ⟨A0, n0, c0, A1, n1, c1, A2, n2, c2, A3, n3, c3⟩ ⟨kind, addr, err, aad, used, 9, shard, sought, (lf : Int), (bt : Int), word, full, at_, tries, item, stamp⟩)] w (RetStp w.heap.size n0 s2 (erL ⟨kind, addr, err, aad, used, 9, shard, sought, (lf : Int), (bt : Int), word, full, at_, tries, item, stamp⟩ l 0) m ((ys.set lf word).set lf (drp word bt)) true C w)) := fun w C e U hL hI => by have := dstep_hit (a := a) (p := p) (sh := sh) (wo := wo) (qu := qu) (tr := tr) (A := A) (n := n) (c := c) (w := w) (lo := 0) (lo2 := 0) (h := ⟨A0, n0, c0, A1, n1, c1, A2, n2, c2, A3, n3, c3⟩) (s := ⟨kind, addr, err, aad, used, 9, shard, sought, (lf : Int), (bt : Int), word, full, at_, tries, item, stamp⟩) (l := l) (xs := xs) (M := M) hL ha hM hI (by show n0 ≤ 65536; omega) hin (by show n1 ≤ 65536; omega) (by show n2 ≤ 65000; omega) (by show n3 ≤ 65536; omega) U rfl hlm rfl hb5 hk.out rfl hm6 hw hgt; rw [hs2]; exact this
  clear hs2
  have TC := fun w => Lib.hid (drop_any word bt hw (by omega) w)
  have TS2 : ∀ w C e, US w C m e ((ys.set lf word).set lf (drp word bt)) → Hid (Calls Try.prog 20 #[.slice C m e, .int .i64 (lf : Nat), .int .u64 (word : Nat)] w (RetSM m (ys.set lf word) w)) := fun w C e U => by have := crset_new U (lf : Int) hm6 (show word < U64 by unfold U64; omega); rw [stI_nat] at this; simp only [List.set_set] at this; exact this
  have hgt2 : gt ((ys.set lf word).set lf (drp word bt)) lf = drp word bt := by rw [gt_set (by rw [List.length_set]; omega), if_pos rfl]
  generalize drp word bt = y at TK TC TS2 hgt2 hy
  have hlm2 : (lf : Int) < (m : Int) := by omega
  clear hgt
  go_wp2_with (refine wpList_load_want (by rfl) 42 (.tmp 6) rfl gO rfl _ _ (0, 0) _ (L.bk_ 0 rfl) Try.underlying42 rfl op_sz ?_)
  refine ((TGv _).out).mono ?_
  rintro e w4 ⟨rfl, K'⟩
  replace L := L.over K'
  have O_11 := L.at_ 0 11 rfl (v := .int .i64 (lf : Int)) rfl
  have O_z := L.lt 0 rfl
  go_wp2_with fail
  refine ((TS _ (hU.below L.K)).out).mono ?_
  rintro e w5 ⟨gM, dM, rfl, U, hg, K'⟩
  clear O_11 O_z
  have Lb := L.lts
  replace L := L.over K'
  replace L := L.us_av (fun i b e b' o e' => by injection e' with e'; injection e' with e1; have := Lb i b e; omega) U
  clear Lb
  try dsimp only [lF, List.cons_append, List.nil_append] at L
  clear U hg
  go_wp2_with (first | (refine wpList_load_row rfl 27 (.tmp 4) rfl gH rfl _ _ (0, 0) _ (L.bk_ 1 rfl) Try.underlying27 rfl cf_sz ?_) | (refine wpList_load_row rfl 42 (.tmp 6) rfl gO rfl _ _ (0, 0) _ (L.bk_ 0 rfl) Try.underlying42 rfl op_sz ?_))
  refine ((TK _ _ _ (L.us_ 0 rfl) (hL.below L.K) (hI.below L.K)).out).mono ?_
  rintro e w6 ⟨A0_1, c0_1, A1_1, n1_1, c1_1, A2_1, n2_1, c2_1, A3_1, n3_1, c3_1, B_1, d_1, rfl, U, L', hA, K'⟩
  have Lb := L.lts
  replace L := L.over K'
  replace L := L.us_av (fun i b e => hA b.1 (Lb i b e) (L.ap_ 0 rfl hm0 i b e)) U
  clear Lb
  try dsimp only [lF, List.cons_append, List.nil_append] at L
  clear L' U hA
  obtain ⟨ba, oa, hBa, _⟩ := (L.us_ 0 rfl).get hlm
  subst hBa
  go_upto_region 5 with (refine wpList_store_row rfl 42 (.tmp 11) (.tmp 40) rfl _ _ rfl (show _ = Value.agg (opv ⟨A0_1, n0, c0_1, A1_1, n1_1, c1_1, A2_1, n2_1, c2_1, A3_1, n3_1, c3_1⟩ (s2)) from rfl) _ _ (Bk.new _ _ _) op_sz rfl (opv_one _ _) ?_)
  try rw [World.setRow_alloc_new]
  replace L := (L).alloc (opv ⟨A0_1, n0, c0_1, A1_1, n1_1, c1_1, A2_1, n2_1, c2_1, A3_1, n3_1, c3_1⟩ (s2)) 42
  try simp only [World.size_alloc] at L
  try dsimp only [nput] at L
  generalize (w6).alloc (.cells (opv ⟨A0_1, n0, c0_1, A1_1, n1_1, c1_1, A2_1, n2_1, c2_1, A3_1, n3_1, c3_1⟩ (s2)) 42) = w7 at L ⊢
  generalize w6.heap.size = gP at L ⊢
  have O_8 := L.at_ 1 8 rfl (v := .int .i64 9) rfl
  have O_13 := L.at_ 1 13 rfl (v := .int .u64 ((word : Nat) : Int)) rfl
  have O_z := L.lt 1 rfl
  go_upto_region 12 with fail
  clear O_8 O_13 O_z
  replace L := L.drew
  refine wp_region_held_drew (S := fun w' => Loc w w' [(gP, 42, opv ⟨A0_1, n0, c0_1, A1_1, n1_1, c1_1, A2_1, n2_1, c2_1, A3_1, n3_1, c3_1⟩ (s2)), (gO, 42, opv ⟨A0, n0, c0, A1, n1, c1, A2, n2, c2, A3, n3, c3⟩ ⟨kind, addr, err, aad, used, 9, shard, sought, (lf : Int), (bt : Int), word, full, at_, tries, item, stamp⟩), (gH, 27, #[.int .u32 (a : Int), .int .i64 p, .slice A n c, .int .i64 sh, .int .i64 wo, .int .i64 qu, .int .i64 tr])] [uF (some ⟨ba, oa, none⟩) m d_1 ((ys.set lf word).set lf y), uF (some ⟨gM, 0, none⟩) m dM (ys.set lf word)]) (by kernel_rfl) L (fun hHeld => ?_)
  generalize w7.drew = v8 at hHeld L ⊢
  refine wpAnyH_take (i := 0) (oi := ⟨some 80, _, _, _, _, _⟩) (v := .slice (some ⟨ba, oa, none⟩) m d_1) rfl (by kernel_rfl) (by kernel_rfl) (by kernel_rfl) (fun _ _ _ h => h) (Or.inl ⟨by rfl, ?_⟩) hHeld ?_
  · intro ww hS
    try dsimp only at hS
    go_simp
    try with_reducible rfl
    try omega
  try simp only [Act.put, List.setIfInBounds_toArray, List.set_cons_zero, List.set_cons_succ]
  refine wpAnyH_take (i := 1) (oi := ⟨some 81, _, _, _, _, _⟩) (v := .pointer (some ⟨gO, 11, none⟩)) rfl (by kernel_rfl) (by kernel_rfl) (by kernel_rfl) (fun _ _ _ h => h) (Or.inl ⟨by rfl, ?_⟩) hHeld ?_
  · intro ww hS
    try dsimp only at hS
    go_simp
    try with_reducible rfl
    try omega
  try simp only [Act.put, List.setIfInBounds_toArray, List.set_cons_zero, List.set_cons_succ]
  refine wpAnyH_take (i := 2) (oi := ⟨some 82, _, _, _, _, _⟩) (v := .int .i64 (lf : Int)) rfl (by kernel_rfl) (by kernel_rfl) (by kernel_rfl) (fun _ _ _ h => h) (Or.inl ⟨by rfl, ?_⟩) hHeld ?_
  · intro ww hS
    try dsimp only at hS
    have O_11 := (hS).at_ 1 11 rfl (v := .int .i64 (lf : Int)) rfl
    have O_z := (hS).lt 1 rfl
    go_simp
    try with_reducible rfl
    try omega
  try simp only [Act.put, List.setIfInBounds_toArray, List.set_cons_zero, List.set_cons_succ]
  refine wpAnyH_take (i := 3) (oi := ⟨some 83, _, _, _, _, _⟩) (v := .pointer (some ⟨ba, oa + lf, none⟩)) rfl (by kernel_rfl) (by kernel_rfl) (by kernel_rfl) (fun _ _ _ h => h) (Or.inl ⟨by rfl, ?_⟩) hHeld ?_
  · intro ww hS
    try dsimp only at hS
    go_simp
    try with_reducible rfl
    try omega
  try simp only [Act.put, List.setIfInBounds_toArray, List.set_cons_zero, List.set_cons_succ]
  refine wpAnyH_take (i := 4) (oi := ⟨some 84, _, _, _, _, _⟩) (v := .int .u64 ((y : Nat) : Int)) rfl (by kernel_rfl) (by kernel_rfl) (by kernel_rfl) (fun _ _ _ h => h) (Or.inl ⟨by rfl, ?_⟩) hHeld ?_
  · intro ww hS
    try dsimp only at hS
    have X := (((hS)).us_ 0 rfl).here hlm
    rw [hgt2] at X
    go_simp
    try with_reducible rfl
    try omega
  try simp only [Act.put, List.setIfInBounds_toArray, List.set_cons_zero, List.set_cons_succ]
  refine wpAnyH_take (i := 5) (oi := ⟨some 85, _, _, _, _, _⟩) (v := .int .u64 ((word : Nat) : Int)) rfl (by kernel_rfl) (by kernel_rfl) (by kernel_rfl) (fun _ _ _ h => h) (Or.inl ⟨by rfl, ?_⟩) hHeld ?_
  · intro ww hS
    try dsimp only at hS
    go_simp
    try with_reducible rfl
    try omega
  try simp only [Act.put, List.setIfInBounds_toArray, List.set_cons_zero, List.set_cons_succ]
  refine wpAnyH_take (i := 6) (oi := ⟨some 86, _, _, _, _, _⟩) (v := .pointer (some ⟨gO, 12, none⟩)) rfl (by kernel_rfl) (by kernel_rfl) (by kernel_rfl) (fun _ _ _ h => h) (Or.inl ⟨by rfl, ?_⟩) hHeld ?_
  · intro ww hS
    try dsimp only at hS
    go_simp
    try with_reducible rfl
    try omega
  try simp only [Act.put, List.setIfInBounds_toArray, List.set_cons_zero, List.set_cons_succ]
  refine wpAnyH_take (i := 7) (oi := ⟨some 87, _, _, _, _, _⟩) (v := .int .i64 (bt : Int)) rfl (by kernel_rfl) (by kernel_rfl) (by kernel_rfl) (fun _ _ _ h => h) (Or.inl ⟨by rfl, ?_⟩) hHeld ?_
  · intro ww hS
    try dsimp only at hS
    have O_12 := (hS).at_ 1 12 rfl (v := .int .i64 (bt : Int)) rfl
    have O_z := (hS).lt 1 rfl
    go_simp
    try with_reducible rfl
    try omega
  try simp only [Act.put, List.setIfInBounds_toArray, List.set_cons_zero, List.set_cons_succ]
  refine wpAnyH_ready (rs := [8]) (by kernel_rfl) (by simp) ?_
  refine AllReadyH.cons (o := ⟨some 88, _, _, _, _, _⟩) rfl (fun K0 hK => ?_) AllReadyH.nil
  go_simp
  refine ((TC _).out).mono ?_
  rintro e w' ⟨rfl, rfl⟩
  refine hK.out _ _ L (fun hHeld' => ?_)
  clear hHeld hK K0
  have hHeld := hHeld'
  clear hHeld'
  try simp only [Act.put, List.setIfInBounds_toArray, List.set_cons_zero, List.set_cons_succ]
  refine wpAnyH_take (i := 9) (oi := ⟨some 89, _, _, _, _, _⟩) (v := .bool true) rfl (by kernel_rfl) (by kernel_rfl) (by kernel_rfl) (fun _ _ _ h => h) (Or.inl ⟨by rfl, ?_⟩) hHeld ?_
  · intro ww hS
    try dsimp only at hS
    go_simp
    try with_reducible rfl
    try omega
  try simp only [Act.put, List.setIfInBounds_toArray, List.set_cons_zero, List.set_cons_succ]
  refine wpAnyH_take (i := 10) (oi := ⟨some 90, _, _, _, _, _⟩) (v := .bool true) rfl (by kernel_rfl) (by kernel_rfl) (by kernel_rfl) (fun _ _ _ h => h) (Or.inl ⟨by rfl, ?_⟩) hHeld ?_
  · intro ww hS
    try dsimp only at hS
    go_simp
    try with_reducible rfl
    try omega
  try simp only [Act.put, List.setIfInBounds_toArray, List.set_cons_zero, List.set_cons_succ]
  refine wpAnyH_take (i := 11) (oi := ⟨some 91, _, _, _, _, _⟩) (v := .slice (some ⟨ba, oa, none⟩) m d_1) rfl (by kernel_rfl) (by kernel_rfl) (by kernel_rfl) (fun _ _ _ h => h) (Or.inl ⟨by rfl, ?_⟩) hHeld ?_
  · intro ww hS
    try dsimp only at hS
    go_simp
    try with_reducible rfl
    try omega
  try simp only [Act.put, List.setIfInBounds_toArray, List.set_cons_zero, List.set_cons_succ]
  refine wpAnyH_take (i := 12) (oi := ⟨some 92, _, _, _, _, _⟩) (v := .pointer (some ⟨gO, 11, none⟩)) rfl (by kernel_rfl) (by kernel_rfl) (by kernel_rfl) (fun _ _ _ h => h) (Or.inl ⟨by rfl, ?_⟩) hHeld ?_
  · intro ww hS
    try dsimp only at hS
    go_simp
    try with_reducible rfl
    try omega
  try simp only [Act.put, List.setIfInBounds_toArray, List.set_cons_zero, List.set_cons_succ]
  refine wpAnyH_take (i := 13) (oi := ⟨some 93, _, _, _, _, _⟩) (v := .int .i64 (lf : Int)) rfl (by kernel_rfl) (by kernel_rfl) (by kernel_rfl) (fun _ _ _ h => h) (Or.inl ⟨by rfl, ?_⟩) hHeld ?_
  · intro ww hS
    try dsimp only at hS
    have O_11 := (hS).at_ 1 11 rfl (v := .int .i64 (lf : Int)) rfl
    have O_z := (hS).lt 1 rfl
    go_simp
    try with_reducible rfl
    try omega
  try simp only [Act.put, List.setIfInBounds_toArray, List.set_cons_zero, List.set_cons_succ]
  refine wpAnyH_take (i := 14) (oi := ⟨some 94, _, _, _, _, _⟩) (v := .int .u64 ((word : Nat) : Int)) rfl (by kernel_rfl) (by kernel_rfl) (by kernel_rfl) (fun _ _ _ h => h) (Or.inl ⟨by rfl, ?_⟩) hHeld ?_
  · intro ww hS
    try dsimp only at hS
    go_simp
    try with_reducible rfl
    try omega
  try simp only [Act.put, List.setIfInBounds_toArray, List.set_cons_zero, List.set_cons_succ]
  refine wpAnyH_take (i := 16) (oi := ⟨some 96, _, _, _, _, _⟩) (v := .slice (some ⟨gM, 0, none⟩) m dM) rfl (by kernel_rfl) (by kernel_rfl) (by kernel_rfl) (fun _ _ _ h => h) (Or.inl ⟨by rfl, ?_⟩) hHeld ?_
  · intro ww hS
    try dsimp only at hS
    go_simp
    try with_reducible rfl
    try omega
  try simp only [Act.put, List.setIfInBounds_toArray, List.set_cons_zero, List.set_cons_succ]
  refine wpAnyH_ready (rs := [15]) (by kernel_rfl) (by simp) ?_
  refine AllReadyH.cons (o := ⟨some 95, _, _, _, _, _⟩) rfl (fun K0 hK => ?_) AllReadyH.nil
  go_simp
  refine ((TS2 _ _ _ (L.us_ 0 rfl)).out).mono ?_
  rintro e w9 ⟨gN, dN, rfl, U, hg, K'⟩
  have Lb := L.lts
  replace L := L.over K'
  replace L := L.us_av (fun i b e b' o e' => by injection e' with e'; injection e' with e1; have := Lb i b e; omega) U
  clear Lb
  try dsimp only [lF, List.cons_append, List.nil_append] at L
  clear U hg
  refine hK.out _ _ (L.less 1) (fun hHeld' => ?_)
  clear hHeld hK K0
  have hHeld := hHeld'
  clear hHeld'
  clear K'
  try simp only [Act.put, List.setIfInBounds_toArray, List.set_cons_zero, List.set_cons_succ]
  refine wpAnyH_ready (rs := [17]) (by kernel_rfl) (by simp) ?_
  refine AllReadyH.cons (o := ⟨some 97, _, _, _, _, _⟩) rfl (fun K0 hK => ?_) AllReadyH.nil
  go_simp
  refine (same_any (L.us_ 0 rfl) (L.us_ 2 rfl) hm6).mono ?_
  rintro e w10 ⟨rfl, K'⟩
  replace L := L.over K'
  refine hK.out _ _ (L.less 1) (fun hHeld' => ?_)
  clear hHeld hK K0
  have hHeld := hHeld'
  clear hHeld'
  clear K'
  try simp only [Act.put, List.setIfInBounds_toArray, List.set_cons_zero, List.set_cons_succ]
  refine wpAnyH_take (i := 18) (oi := ⟨some 98, _, _, _, _, _⟩) (v := .bool true) rfl (by kernel_rfl) (by kernel_rfl) (by kernel_rfl) (fun _ _ _ h => h) (Or.inl ⟨by rfl, ?_⟩) hHeld ?_
  · intro ww hS
    try dsimp only at hS
    go_simp
    try with_reducible rfl
    try omega
  try simp only [Act.put, List.setIfInBounds_toArray, List.set_cons_zero, List.set_cons_succ]
  refine wpAnyH_take (i := 19) (oi := ⟨some 8, _, _, _, _, _⟩) (v := .bool true) rfl (by kernel_rfl) (by kernel_rfl) (by kernel_rfl) (fun _ _ _ h => h) (Or.inl ⟨by rfl, ?_⟩) hHeld ?_
  · intro ww hS
    try dsimp only at hS
    go_simp
    try with_reducible rfl
    try omega
  try simp only [Act.put, List.setIfInBounds_toArray, List.set_cons_zero, List.set_cons_succ]
  refine wpAnyH_done (by kernel_rfl) ?_ _
  clear hHeld
  go_wp2
  go_ret
  exact ⟨rfl, L.K⟩
set_option maxRecDepth 100000 in
set_option maxHeartbeats 4000000 in
theorem miss (ha : a < 4294967296) (h0 : IS .i64 lo w A n c zs) (hU : US w B m d ys) (hI : IS .u32 0 w h.A0 h.n0 h.c0 xs) (hxs : ∀ j, j < h.n0 → ∃ x : Nat, gi xs j = (x : Int) ∧ x < 4294967296) (hL : Lists 0 w h l) (hf : ∀ x ∈ l.ses, (Lit.int .u64 x).wf = true) (hw : s.word < 18446744073709551616) (hW : W < 18446744073709551616) (hk : s.kind = 3 ∨ s.kind = 4) (hph : s.phase = 9) (hq : W ≠ s.word) :
    Calls Try.prog 6 #[.agg #[.int .u32 (a : Int), .int .i64 p, .slice A n c, .int .i64 sh, .int .i64 wo, .int .i64 qu, .int .i64 tr], .slice B m d, .agg (opv h s), .int .u64 (W : Int)] w (RetBo true w) := by
  replace hxs := Lib.hid hxs
  replace hf := Lib.hid hf
  have TGv := fun w => Lib.hid (gives_at (w := w) (h := h) hk (.inr hph))
  replace hk := Lib.hid hk
  rcases s with ⟨kind, addr, err, aad, used, phase, shard, sought, leaf, bit, word, full, at_, tries, item, stamp⟩
  rcases h with ⟨A0, n0, c0, A1, n1, c1, A2, n2, c2, A3, n3, c3⟩
  try dsimp only at *
  subst hph
  go_enter Try.func6, Try.ntmps6
  go_upto_region 1 with (fail)
  have L := Loc.start w
  replace L := ((L).alloc #[.int .u32 (a : Int), .int .i64 p, .slice A n c, .int .i64 sh, .int .i64 wo, .int .i64 qu, .int .i64 tr] 27).alloc (opv ⟨A0, n0, c0, A1, n1, c1, A2, n2, c2, A3, n3, c3⟩ ⟨kind, addr, err, aad, used, 9, shard, sought, leaf, bit, word, full, at_, tries, item, stamp⟩) 42
  try simp only [World.size_alloc] at L
  try dsimp only [nput] at L
  generalize ((w).alloc (.cells #[.int .u32 (a : Int), .int .i64 p, .slice A n c, .int .i64 sh, .int .i64 wo, .int .i64 qu, .int .i64 tr] 27)).alloc (.cells (opv ⟨A0, n0, c0, A1, n1, c1, A2, n2, c2, A3, n3, c3⟩ ⟨kind, addr, err, aad, used, 9, shard, sought, leaf, bit, word, full, at_, tries, item, stamp⟩) 42) = w1 at L ⊢
  generalize w.heap.size + 1 = gO at L ⊢
  generalize w.heap.size = gH at L ⊢
  have f0 : ((W : Int) == (word : Int)) = false := by simp; omega
  go_wp2_with fail
  refine (awake_any _).mono ?_
  rintro e w2 ⟨rfl, K'⟩
  replace L := L.over K'
  go_wp2_with (first | (refine wpList_load_want (by rfl) 27 (.tmp 4) rfl gH rfl _ _ (0, 0) _ (L.bk_ 1 rfl) Try.underlying27 rfl cf_sz ?_) | (refine wpList_load_want (by rfl) 42 (.tmp 6) rfl gO rfl _ _ (0, 0) _ (L.bk_ 0 rfl) Try.underlying42 rfl op_sz ?_))
  refine (fits13_any ha (h0.below L.K) (hI.below L.K) hxs.out).mono ?_
  rintro e w3 ⟨bo, rfl, hB, K'⟩
  replace L := L.over K'
  rcases bo with _ | _
  · clear hB
    go_wp2_with fail
    refine (awake_any _).mono ?_
    rintro e w92 ⟨rfl, K'⟩
    replace L := L.over K'
    go_wp2
    go_ret
    exact ⟨rfl, L.K⟩
  replace hB := hB rfl
  obtain ⟨M, lf, bt, hM, hm4, hmm, hW, hlf, hlv, hbt, hb5, hof, hs0, hs1⟩ := hB
  dsimp only at hlf hbt hs0 hs1
  obtain ⟨⟨q1, q2⟩, ⟨q3, q4⟩, ⟨q5, q6⟩, ⟨q7, q8, q9, q10⟩, hin⟩ := hW.out
  dsimp only at q1 q2 q3 q4 q5 q6 q7 q8 q9 q10 hin
  clear hW
  subst hlf hbt
  have hM4 := hM.most
  have hl3 := lv_le hM4
  have hm6 : m ≤ 65536 ∧ lf < m := by have : tv M = (lv M + 63) / 64 := rfl; omega
  obtain ⟨hm6, hlm⟩ := hm6
  replace hmm := Lib.hid hmm
  have hm0 : 0 < m := by omega
  have hl9 := hU.len
  have hgt : gt (ys.set lf W) lf = W := by rw [gt_set (by omega), if_pos rfl]
  have TS : ∀ w, US w B m d ys → Hid (Calls Try.prog 20 #[.slice B m d, .int .i64 (lf : Nat), .int .u64 (W : Nat)] w (RetSM m (ys.set lf W) w)) := fun w U => by have := crset_new U (lf : Int) hm6 (show W < U64 by unfold U64; omega); rw [stI_nat] at this; exact this
  have TK : ∀ w C e, US w C m e (ys.set lf W) → Lists 0 w ⟨A0, n0, c0, A1, n1, c1, A2, n2, c2, A3, n3, c3⟩ l → IS .u32 0 w A0 n0 c0 xs → Hid (Calls Try.prog 10 #[.agg #[.int .u32 (a : Int), .int .i64 p, .slice A n c, .int .i64 sh, .int .i64 wo, .int .i64 qu, .int .i64 tr], .slice C m e, .agg (opv ⟨A0, n0, c0, A1, n1, c1, A2, n2, c2, A3, n3, c3⟩ ⟨kind, addr, err, aad, used, 9, shard, sought, (lf : Int), (bt : Int), word, full, at_, tries, item, stamp⟩)] w (RetStp w.heap.size n0 ⟨kind, addr, err, aad, used, 8, shard, sought, (lf : Int), (bt : Int), 0, full, at_, tries, item, stamp⟩ l m (ys.set lf W) false C w)) := fun w C e U hL hI => by have := dstep_miss (a := a) (p := p) (sh := sh) (wo := wo) (qu := qu) (tr := tr) (A := A) (n := n) (c := c) (w := w) (lo := 0) (lo2 := 0) (h := ⟨A0, n0, c0, A1, n1, c1, A2, n2, c2, A3, n3, c3⟩) (s := ⟨kind, addr, err, aad, used, 9, shard, sought, (lf : Int), (bt : Int), word, full, at_, tries, item, stamp⟩) (l := l) (xs := xs) (M := M) hL ha hM hI (by show n0 ≤ 65536; omega) hin (by show n1 ≤ 65536; omega) (by show n2 ≤ 65000; omega) (by show n3 ≤ 65536; omega) U rfl hlm rfl hb5 hk.out rfl hm6 hw (by rw [hgt]; exact hq); exact this
  clear hgt
  replace hq := Lib.hid hq
  go_wp2_with (refine wpList_load_want (by rfl) 42 (.tmp 6) rfl gO rfl _ _ (0, 0) _ (L.bk_ 0 rfl) Try.underlying42 rfl op_sz ?_)
  refine ((TGv _).out).mono ?_
  rintro e w4 ⟨rfl, K'⟩
  replace L := L.over K'
  have O_11 := L.at_ 0 11 rfl (v := .int .i64 (lf : Int)) rfl
  have O_z := L.lt 0 rfl
  go_wp2_with fail
  refine ((TS _ (hU.below L.K)).out).mono ?_
  rintro e w5 ⟨gM, dM, rfl, U, hg, K'⟩
  clear O_11 O_z
  have Lb := L.lts
  replace L := L.over K'
  replace L := L.us_av (fun i b e b' o e' => by injection e' with e'; injection e' with e1; have := Lb i b e; omega) U
  clear Lb
  try dsimp only [lF, List.cons_append, List.nil_append] at L
  clear U hg
  go_wp2_with (first | (refine wpList_load_row rfl 27 (.tmp 4) rfl gH rfl _ _ (0, 0) _ (L.bk_ 1 rfl) Try.underlying27 rfl cf_sz ?_) | (refine wpList_load_row rfl 42 (.tmp 6) rfl gO rfl _ _ (0, 0) _ (L.bk_ 0 rfl) Try.underlying42 rfl op_sz ?_))
  refine ((TK _ _ _ (L.us_ 0 rfl) (hL.below L.K) (hI.below L.K)).out).mono ?_
  rintro e w6 ⟨A0_1, c0_1, A1_1, n1_1, c1_1, A2_1, n2_1, c2_1, A3_1, n3_1, c3_1, B_1, d_1, rfl, U, L', hA, K'⟩
  have Lb := L.lts
  replace L := L.over K'
  replace L := L.us_av (fun i b e => hA b.1 (Lb i b e) (L.ap_ 0 rfl hm0 i b e)) U
  clear Lb
  try dsimp only [lF, List.cons_append, List.nil_append] at L
  clear L' U hA
  go_upto_region 5 with (refine wpList_store_row rfl 42 (.tmp 11) (.tmp 40) rfl _ _ rfl (show _ = Value.agg (opv ⟨A0_1, n0, c0_1, A1_1, n1_1, c1_1, A2_1, n2_1, c2_1, A3_1, n3_1, c3_1⟩ ⟨kind, addr, err, aad, used, 8, shard, sought, (lf : Int), (bt : Int), 0, full, at_, tries, item, stamp⟩) from rfl) _ _ (Bk.new _ _ _) op_sz rfl (opv_one _ _) ?_)
  try rw [World.setRow_alloc_new]
  replace L := (L).alloc (opv ⟨A0_1, n0, c0_1, A1_1, n1_1, c1_1, A2_1, n2_1, c2_1, A3_1, n3_1, c3_1⟩ ⟨kind, addr, err, aad, used, 8, shard, sought, (lf : Int), (bt : Int), 0, full, at_, tries, item, stamp⟩) 42
  try simp only [World.size_alloc] at L
  try dsimp only [nput] at L
  generalize (w6).alloc (.cells (opv ⟨A0_1, n0, c0_1, A1_1, n1_1, c1_1, A2_1, n2_1, c2_1, A3_1, n3_1, c3_1⟩ ⟨kind, addr, err, aad, used, 8, shard, sought, (lf : Int), (bt : Int), 0, full, at_, tries, item, stamp⟩) 42) = w7 at L ⊢
  generalize w6.heap.size = gP at L ⊢
  have O_8 := L.at_ 1 8 rfl (v := .int .i64 9) rfl
  have O_13 := L.at_ 1 13 rfl (v := .int .u64 ((word : Nat) : Int)) rfl
  have O_z := L.lt 1 rfl
  go_wp2_with fail
  refine (same_any (L.us_ 0 rfl) (L.us_ 1 rfl) hm6).mono ?_
  rintro e w8 ⟨rfl, K'⟩
  clear O_8 O_13 O_z
  replace L := L.over K'
  have P_8 := L.at_ 0 8 rfl (v := .int .i64 8) rfl
  have P_z := L.lt 0 rfl
  go_wp2_with fail
  clear P_8 P_z
  go_ret
  exact ⟨rfl, L.K⟩
theorem main (ha : a < 4294967296) (h0 : IS .i64 lo w A n c zs) (hU : US w B m d ys) (hI : IS .u32 0 w h.A0 h.n0 h.c0 xs) (hxs : ∀ j, j < h.n0 → ∃ x : Nat, gi xs j = (x : Int) ∧ x < 4294967296) (hL : Lists 0 w h l) (hf : ∀ x ∈ l.ses, (Lit.int .u64 x).wf = true) (hw : s.word < 18446744073709551616) (hW : W < 18446744073709551616) :
    Calls Try.prog 6 #[.agg #[.int .u32 (a : Int), .int .i64 p, .slice A n c, .int .i64 sh, .int .i64 wo, .int .i64 qu, .int .i64 tr], .slice B m d, .agg (opv h s), .int .u64 (W : Int)] w (RetBo true w) := by
  by_cases hn : (s.kind = 3 ∨ s.kind = 4) ∧ (s.phase = 8 ∨ s.phase = 9)
  · obtain ⟨hk, h8 | h9⟩ := hn
    · cases hb : W.testBit s.bit.toNat with
      | true => exact used ha h0 hU hI hxs hL hf hw hW hk h8 hb
      | false => exact free ha h0 hU hI hxs hL hf hw hW hk h8 hb
    · by_cases hq : W = s.word
      · exact hit ha h0 hU hI hxs hL hf hw hW hk h9 hq
      · exact miss ha h0 hU hI hxs hL hf hw hW hk h9 hq
  · exact other ha h0 hU hI hxs hL hf hw hW hn
end
theorem walk (a p : Int) (A : Option Addr) (n c : Nat) (z : List Int) (sh wo qu tr : Int) (B : Option Addr) (m d : Nat) (zb : List Int) (h : Hd) (s : Sc) (y0 y1 y2 y3 : List Int) (wd : Int) (w : World) (wa : (Lit.int .u32 a).wf = true) (wr : IsRow .i64 w A n c z) (wb : IsRow .u64 w B m d zb) (hw : s.word < 18446744073709551616) (r0 : IsRow .u32 w h.A0 h.n0 h.c0 y0) (r1 : IsRow .u32 w h.A1 h.n1 h.c1 y1) (r2 : IsRow .i64 w h.A2 h.n2 h.c2 y2) (r3 : IsRow .u64 w h.A3 h.n3 h.c3 y3) (wW : (Lit.int .u64 wd).wf = true) :
    Calls Try.prog 6 #[.agg #[.int .u32 a, .int .i64 p, .slice A n c, .int .i64 sh, .int .i64 wo, .int .i64 qu, .int .i64 tr], .slice B m d, .agg (opv h s), .int .u64 wd] w fun e w' => e = .returned (.bool true) ∧ Below w.heap.size w w' := by
  obtain ⟨a, rfl, ha⟩ := wf_u32 wa
  obtain ⟨zs, h0, _⟩ := IS.of_row wr
  obtain ⟨ys, hU⟩ := US.of_row wb
  obtain ⟨xs, hI, hx⟩ := IS.of_row r0
  obtain ⟨ads, i1, _⟩ := IS.of_row r1
  obtain ⟨ers, i2, _⟩ := IS.of_row r2
  obtain ⟨ses, i3, hf⟩ := IS.of_row r3
  have hxs : ∀ j, j < h.n0 → ∃ x : Nat, gi xs j = (x : Int) ∧ x < 4294967296 := fun j hj => by
    have hl := hI.len
    obtain ⟨X, e, hX⟩ := wf_u32 (hx _ (gi_mem (show j < xs.length by omega)))
    exact ⟨X, e, hX⟩
  obtain ⟨W, rfl, hW⟩ := wf_U64 wW
  exact main ha h0 hU hI hxs (l := ⟨xs, ads, ers, ses⟩) ⟨hI, i1, i2, i3⟩ hf hw hW
end Go.Proofs.Ytafdlofmgefdoaa.dropFails
