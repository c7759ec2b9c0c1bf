/-
  The walk of the law DropKeeps: for every configuration, cells and operation it answers true.
-/
import Derived.Test.YtafdlofmgefdoaaDropAwake
namespace Go.Proofs.Ytafdlofmgefdoaa.dropKeeps
open Go.RowKit
set_option linter.unusedVariables false
theorem is_front {k : IntKind} {lo : Nat} {w : World} {A : Option Addr} {n c : Nat} {xs : List Int} {x : Int} (h : IS k lo w A (n + 1) c (xs ++ [x])) : IS k lo w A n c xs := by
  have hl := h.len
  simp at hl
  refine ⟨hl, by have := h.cap; omega, h.most, h.nil_, fun hn => ?_⟩
  obtain ⟨b, o, e, hlo, hlt, hc⟩ := h.cells (by omega)
  exact ⟨b, o, e, hlo, hlt, fun j hj => by rw [hc j (by omega), gi_left (by omega)]⟩
theorem is_last {k : IntKind} {lo : Nat} {w : World} {b o n c : Nat} {xs : List Int} {x : Int} (h : IS k lo w (some ⟨b, o, none⟩) (n + 1) c (xs ++ [x])) : w.cell? ⟨b, o + n, none⟩ = some (.int k x) := by
  have hl := h.len
  simp at hl
  obtain ⟨b', o', e, _, hc⟩ := h.get (j := n) (by omega)
  cases e
  rw [hc, show gi (xs ++ [x]) n = x by unfold gi; simp [List.getD_eq_getElem?_getD, ← hl]]
/-- Onto a new row: a list, and one number more. -/
theorem two_app {P : Program} {t e : TypeId} {i : TypeInfo} {w : World} {lo : Nat} {A : Option Addr} {n c : Nat} {es : List Int} {x : Int} (ht : P.underlying t = some (.slice e)) (hi : P.info? e = some i) (hz : i.zero = some (.int .i64 0)) (hsize : i.size = 1) (hby : i.bytes = 8) (h : IS .i64 lo w A n c es) (hn : n + 1 ≤ 65536) (ty : TypeId) :
    ∃ A1 c1 w1 A2 c2 w2, (Builtin.append_ #[t, t] ty #[.slice (some ⟨w.heap.size, 0, none⟩) 0 0, .slice A n c]).run P (w.alloc (.cells #[] e)) = .ok (.slice A1 n c1) w1 ∧ (Builtin.append_ #[t, t] ty #[.slice A1 n c1, .slice (some ⟨w1.heap.size, 0, none⟩) 1 1]).run P (w1.alloc (.cells #[.int .i64 x] e)) = .ok (.slice A2 (n + 1) c2) w2 ∧ Ri .i64 e w2 w.heap.size (.slice A2 (n + 1) c2) (n + 1) (es ++ [x]) ∧ Below w.heap.size w w2 := by
  have hown : (w.alloc (.cells #[] e)).ownsRow w.heap.size e 1 (.slice (some ⟨w.heap.size, 0, none⟩) 0 0) 0 (([] : List Int).map (iv .i64)) := World.ownsRow_lit w #[] 0 (Nat.le_refl _) (by unfold maxLen; omega) rfl
  have K0 := below_alloc w (.cells #[] e)
  obtain ⟨A1, c1, w1, hap1, hR1, hg1, _⟩ := run_append_onto ht hi hz hsize hby hown (h.below K0) (by omega) K0.size ty
  rw [Nat.zero_add] at hap1 hR1
  rw [List.nil_append] at hR1
  have K1 := K0.grown hg1 K0.size (by intro j hj; simp [Value.ownBlock] at hj; omega)
  have L1 : Loc w w1 [] [rF .i64 e w.heap.size A1 n c1 es] := ((Loc.start w).over K1).ri_new (fun i b h => by cases h) hR1
  obtain ⟨A2, c2, w2, hap2, L2⟩ := L1.app1 (P := P) (x := x) SepL.nil (Nat.le_refl _) hn K1.size ht hi hz hsize hby ty
  exact ⟨A1, c1, w1, A2, c2, w2, hap1, hap2, L2.ri_ 0 rfl, L2.K⟩
section
variable {w : World} {lo a M m d lf bt : Nat} {p sh wo qu tr : Int} {A B : Option Addr} {n c : Nat} {zs xs : List Int} {ys : List Nat} {h : Hd} {s : Sc} {l : Ls}
set_option maxRecDepth 100000 in
set_option maxHeartbeats 4000000 in
theorem other (ha : a < 4294967296) (h0 : IS .i64 lo w A n c zs) (hU : US w B m d ys) (hI : IS .u32 0 w h.A0 h.n0 h.c0 xs) (hxs : ∀ j, j < h.n0 → ∃ x : Nat, gi xs j = (x : Int) ∧ x < 4294967296) (hL : Lists 0 w h l) (hf : ∀ x ∈ l.ses, (Lit.int .u64 x).wf = true) (hw : s.word < 18446744073709551616) (hn : ¬ ((s.kind = 3 ∨ s.kind = 4) ∧ (s.phase = 8 ∨ s.phase = 9))) :
    Calls Try.prog 5 #[.agg #[.int .u32 (a : Int), .int .i64 p, .slice A n c, .int .i64 sh, .int .i64 wo, .int .i64 qu, .int .i64 tr], .slice B m d, .agg (opv h s)] w (RetBo true w) := by
  replace hxs := Lib.hid hxs
  replace hf := Lib.hid hf
  have TGv := fun w => Lib.hid (gives_no (w := w) (h := h) hn)
  clear hn
  rcases s with ⟨kind, addr, err, aad, used, phase, shard, sought, leaf, bit, word, full, at_, tries, item, stamp⟩
  rcases h with ⟨A0, n0, c0, A1, n1, c1, A2, n2, c2, A3, n3, c3⟩
  try dsimp only at *
  go_enter Try.func5, Try.ntmps5
  go_upto_region 1 with (fail)
  have L := Loc.start w
  replace L := ((L).alloc #[.int .u32 (a : Int), .int .i64 p, .slice A n c, .int .i64 sh, .int .i64 wo, .int .i64 qu, .int .i64 tr] 27).alloc (opv ⟨A0, n0, c0, A1, n1, c1, A2, n2, c2, A3, n3, c3⟩ ⟨kind, addr, err, aad, used, phase, shard, sought, leaf, bit, word, full, at_, tries, item, stamp⟩) 42
  try simp only [World.size_alloc] at L
  try dsimp only [nput] at L
  generalize ((w).alloc (.cells #[.int .u32 (a : Int), .int .i64 p, .slice A n c, .int .i64 sh, .int .i64 wo, .int .i64 qu, .int .i64 tr] 27)).alloc (.cells (opv ⟨A0, n0, c0, A1, n1, c1, A2, n2, c2, A3, n3, c3⟩ ⟨kind, addr, err, aad, used, phase, shard, sought, leaf, bit, word, full, at_, tries, item, stamp⟩) 42) = w1 at L ⊢
  generalize w.heap.size + 1 = gO at L ⊢
  generalize w.heap.size = gH at L ⊢
  go_wp2_with fail
  refine (awake_any _).mono ?_
  rintro e w2 ⟨rfl, K'⟩
  replace L := L.over K'
  go_wp2_with (first | (refine wpList_load_want (by rfl) 27 (.tmp 3) rfl gH rfl _ _ (0, 0) _ (L.bk_ 1 rfl) Try.underlying27 rfl cf_sz ?_) | (refine wpList_load_want (by rfl) 42 (.tmp 5) rfl gO rfl _ _ (0, 0) _ (L.bk_ 0 rfl) Try.underlying42 rfl op_sz ?_))
  refine (fits13_any ha (h0.below L.K) (hI.below L.K) hxs.out).mono ?_
  rintro e w3 ⟨bo, rfl, hB, K'⟩
  replace L := L.over K'
  rcases bo with _ | _
  · clear hB
    go_wp2_with fail
    refine (awake_any _).mono ?_
    rintro e w92 ⟨rfl, K'⟩
    replace L := L.over K'
    go_wp2
    go_ret
    exact ⟨rfl, L.K⟩
  replace hB := hB rfl
  clear hB
  go_wp2_with (refine wpList_load_want (by rfl) 42 (.tmp 5) rfl gO rfl _ _ (0, 0) _ (L.bk_ 0 rfl) Try.underlying42 rfl op_sz ?_)
  refine ((TGv _).out).mono ?_
  rintro e w4 ⟨rfl, K'⟩
  replace L := L.over K'
  go_wp2_with fail
  refine (awake_any _).mono ?_
  rintro e w5 ⟨rfl, K'⟩
  replace L := L.over K'
  go_wp2
  go_ret
  exact ⟨rfl, L.K⟩
set_option maxRecDepth 100000 in
set_option maxHeartbeats 4000000 in
theorem used (ha : a < 4294967296) (h0 : IS .i64 lo w A n c zs) (hU : US w B m d ys) (hI : IS .u32 0 w h.A0 h.n0 h.c0 xs) (hxs : ∀ j, j < h.n0 → ∃ x : Nat, gi xs j = (x : Int) ∧ x < 4294967296) (hL : Lists 0 w h l) (hf : ∀ x ∈ l.ses, (Lit.int .u64 x).wf = true) (hw : s.word < 18446744073709551616) (hk : s.kind = 3 ∨ s.kind = 4) (hph : s.phase = 8) (hb : (gt ys s.leaf.toNat).testBit s.bit.toNat = true) :
    Calls Try.prog 5 #[.agg #[.int .u32 (a : Int), .int .i64 p, .slice A n c, .int .i64 sh, .int .i64 wo, .int .i64 qu, .int .i64 tr], .slice B m d, .agg (opv h s)] w (RetBo true w) := by
  replace hxs := Lib.hid hxs
  replace hf := Lib.hid hf
  have TGv := fun w => Lib.hid (gives_at (w := w) (h := h) hk (.inl hph))
  replace hk := Lib.hid hk
  replace hb := Lib.hid hb
  rcases s with ⟨kind, addr, err, aad, used, phase, shard, sought, leaf, bit, word, full, at_, tries, item, stamp⟩
  rcases h with ⟨A0, n0, c0, A1, n1, c1, A2, n2, c2, A3, n3, c3⟩
  try dsimp only at *
  subst hph
  go_enter Try.func5, Try.ntmps5
  go_upto_region 1 with (fail)
  have L := Loc.start w
  replace L := ((L).alloc #[.int .u32 (a : Int), .int .i64 p, .slice A n c, .int .i64 sh, .int .i64 wo, .int .i64 qu, .int .i64 tr] 27).alloc (opv ⟨A0, n0, c0, A1, n1, c1, A2, n2, c2, A3, n3, c3⟩ ⟨kind, addr, err, aad, used, 8, shard, sought, leaf, bit, word, full, at_, tries, item, stamp⟩) 42
  try simp only [World.size_alloc] at L
  try dsimp only [nput] at L
  generalize ((w).alloc (.cells #[.int .u32 (a : Int), .int .i64 p, .slice A n c, .int .i64 sh, .int .i64 wo, .int .i64 qu, .int .i64 tr] 27)).alloc (.cells (opv ⟨A0, n0, c0, A1, n1, c1, A2, n2, c2, A3, n3, c3⟩ ⟨kind, addr, err, aad, used, 8, shard, sought, leaf, bit, word, full, at_, tries, item, stamp⟩) 42) = w1 at L ⊢
  generalize w.heap.size + 1 = gO at L ⊢
  generalize w.heap.size = gH at L ⊢
  go_wp2_with fail
  refine (awake_any _).mono ?_
  rintro e w2 ⟨rfl, K'⟩
  replace L := L.over K'
  go_wp2_with (first | (refine wpList_load_want (by rfl) 27 (.tmp 3) rfl gH rfl _ _ (0, 0) _ (L.bk_ 1 rfl) Try.underlying27 rfl cf_sz ?_) | (refine wpList_load_want (by rfl) 42 (.tmp 5) rfl gO rfl _ _ (0, 0) _ (L.bk_ 0 rfl) Try.underlying42 rfl op_sz ?_))
  refine (fits13_any ha (h0.below L.K) (hI.below L.K) hxs.out).mono ?_
  rintro e w3 ⟨bo, rfl, hB, K'⟩
  replace L := L.over K'
  rcases bo with _ | _
  · clear hB
    go_wp2_with fail
    refine (awake_any _).mono ?_
    rintro e w92 ⟨rfl, K'⟩
    replace L := L.over K'
    go_wp2
    go_ret
    exact ⟨rfl, L.K⟩
  replace hB := hB rfl
  obtain ⟨M, lf, bt, hM, hm4, hmm, hW, hlf, hlv, hbt, hb5, hof, hs0, hs1⟩ := hB
  dsimp only at hlf hbt hs0 hs1
  obtain ⟨⟨q1, q2⟩, ⟨q3, q4⟩, ⟨q5, q6⟩, ⟨q7, q8, q9, q10⟩, hin⟩ := hW.out
  dsimp only at q1 q2 q3 q4 q5 q6 q7 q8 q9 q10 hin
  clear hW
  subst hlf hbt
  have hM4 := hM.most
  have hl3 := lv_le hM4
  have hm6 : m ≤ 65536 ∧ lf < m := by have : tv M = (lv M + 63) / 64 := rfl; omega
  obtain ⟨hm6, hlm⟩ := hm6
  replace hmm := Lib.hid hmm
  have hm0 : 0 < m := by omega
  replace hb := Lib.hid (by simpa using hb.out : (gt ys lf).testBit bt = true)
  go_wp2_with (refine wpList_load_want (by rfl) 42 (.tmp 5) rfl gO rfl _ _ (0, 0) _ (L.bk_ 0 rfl) Try.underlying42 rfl op_sz ?_)
  refine ((TGv _).out).mono ?_
  rintro e w4 ⟨rfl, K'⟩
  replace L := L.over K'
  obtain ⟨i0, hi, hz0, hz1, hz2⟩ := info_parts u64_info
  have hown : (w4.alloc (.cells #[] 40)).ownsRow w4.heap.size 40 1 (.slice (some ⟨w4.heap.size, 0, none⟩) 0 0) 0 [] := World.ownsRow_lit w4 #[] 0 (Nat.le_refl _) (by unfold maxLen; omega) rfl
  have Ka := below_alloc w4 (.cells #[] 40)
  have hUc := hU.below L.K
  obtain ⟨gV, dV, wRV, hapV, OR, KR⟩ := run_append_us (P := Try.prog) Try.underlying28 hi hz0 hz1 hz2 hown (hUc.below Ka) hm6 (Nat.le_refl _) Ka.size 28
  have KC := Ka.trans KR
  have UC := OR.us hUc.fit
  have gC := OR.ge
  clear hown Ka KR OR hi hz0 hz1 hz2 hUc
  go_upto_region 4 with (at_builtin; refine wpList_append_run rfl (.tmp 25) (.tmp 26) 28 rfl _ _ _ _ rfl rfl hapV ?_)
  replace L := (L.over KC).us_av (fun i b e b' o e' => by injection e' with e'; injection e' with e1; have := L.lts i b e; omega) UC
  clear KC UC hapV
  obtain ⟨i0, hi, hz0, hz1, hz2⟩ := info_parts cloneE_info
  obtain ⟨Aq, cq, wE1, AE, cE, wE2, hap1, hap2, hE, KE⟩ := two_app (P := Try.prog) (x := 77) (n := n2) Try.underlying37 hi hz0 hz1 hz2 (hL.i2.below L.K) (by show n2 + 1 ≤ 65536; omega) 37
  clear hi hz0 hz1 hz2
  have O_7 := L.at_ 0 7 rfl (v := .slice A2 n2 c2) rfl
  have O_z := L.lt 0 rfl
  go_upto_region 5 with (first | (at_builtin; refine wpList_append_run rfl (.tmp 28) (.tmp 31) 37 rfl _ _ _ _ rfl rfl hap1 ?_) | (at_builtin; refine wpList_append_run rfl (.tmp 32) (.tmp 33) 37 rfl _ _ _ _ rfl rfl hap2 ?_))
  clear O_7 O_z
  replace L := (L.over KE).ri_new L.lts hE
  clear KE hE hap1 hap2
  obtain ⟨be, oe, hAe, _, _⟩ := (L.ri_ 0 rfl).is.get (show n2 < n2 + 1 by omega)
  subst hAe
  have hcE : n2 + 1 ≤ cE := (L.ri_ 0 rfl).is.cap
  have gE1 : ¬ (cE < n2) := by omega
  have gE2 : (n2 : Int) ≤ cE := by omega
  have gE3 : ¬ (cE < n2 + 1) := by omega
  have gE4 : (n2 : Int) < ((n2 + 1 : Nat) : Int) := by omega
  clear hcE
  go_upto_region 6 with (first | (refine wpList_load_row rfl 42 (.tmp 5) rfl gO rfl _ _ (0, 0) _ (L.bk_ 0 rfl) Try.underlying42 rfl op_sz ?_) | (refine wpList_store_row rfl 42 (.tmp 9) (.tmp 35) rfl _ _ rfl (show _ = Value.agg (opv ⟨A0, n0, c0, A1, n1, c1, A2, n2, c2, A3, n3, c3⟩ ⟨kind, addr, err, aad, used, 8, shard, sought, (lf : Int), (bt : Int), word, full, at_, tries, item, stamp⟩) from rfl) _ _ (Bk.new _ _ _) op_sz rfl (opv_one _ _) ?_))
  try rw [World.setRow_alloc_new]
  replace L := (L).alloc (opv ⟨A0, n0, c0, A1, n1, c1, A2, n2, c2, A3, n3, c3⟩ ⟨kind, addr, err, aad, used, 8, shard, sought, (lf : Int), (bt : Int), word, full, at_, tries, item, stamp⟩) 42
  try simp only [World.size_alloc] at L
  try dsimp only [nput] at L
  generalize (wE2).alloc (.cells (opv ⟨A0, n0, c0, A1, n1, c1, A2, n2, c2, A3, n3, c3⟩ ⟨kind, addr, err, aad, used, 8, shard, sought, (lf : Int), (bt : Int), word, full, at_, tries, item, stamp⟩) 42) = w5 at L ⊢
  generalize wE2.heap.size = gP at L ⊢
  have O_7 := L.at_ 1 7 rfl (v := .slice A2 n2 c2) rfl
  have P_7 := L.at_ 0 7 rfl (v := .slice A2 n2 c2) rfl
  have O_z := L.lt 1 rfl
  have P_z := L.lt 0 rfl
  have P_f7 := L.fz 0 7 rfl
  have ne_P_O := L.ne_ 0 1 rfl rfl (by decide)
  go_upto_region 7 with fail
  clear O_7 P_7 O_z P_z P_f7 ne_P_O
  replace L := ((L.set 0 7 rfl (.slice (some ⟨be, oe, none⟩) n2 cE)).is 0 (opv ⟨A0, n0, c0, A1, n1, c1, (some ⟨be, oe, none⟩), n2, cE, A3, n3, c3⟩ ⟨kind, addr, err, aad, used, 8, shard, sought, (lf : Int), (bt : Int), word, full, at_, tries, item, stamp⟩) rfl)
  try dsimp only [nput] at L
  generalize (w5).setCell ⟨gP, 7, none⟩ (.slice (some ⟨be, oe, none⟩) n2 cE) = w6 at L ⊢
  go_wp2_with (first | (refine wpList_load_row rfl 27 (.tmp 3) rfl gH rfl _ _ (0, 0) _ (L.bk_ 2 rfl) Try.underlying27 rfl cf_sz ?_) | (refine wpList_load_row rfl 42 (.tmp 9) rfl gP rfl _ _ (0, 0) _ (L.bk_ 0 rfl) Try.underlying42 rfl op_sz ?_))
  refine (dstep_used (a := a) (p := p) (sh := sh) (wo := wo) (qu := qu) (tr := tr) (A := A) (n := n) (c := c) (w := w6) (lo := 0) (lo2 := 0) (h := ⟨A0, n0, c0, A1, n1, c1, (some ⟨be, oe, none⟩), n2, cE, A3, n3, c3⟩) (s := ⟨kind, addr, err, aad, used, 8, shard, sought, (lf : Int), (bt : Int), word, full, at_, tries, item, stamp⟩) (l := l) (xs := xs) (M := M) ⟨(hL.below L.K).i0, (hL.below L.K).i1, (is_front (L.ri_ 0 rfl).is).lower (Nat.zero_le _), (hL.below L.K).i3⟩ ha hM (hI.below L.K) (by show n0 ≤ 65536; omega) hin (by show n1 ≤ 65536; omega) (by show n2 ≤ 65000; omega) (by show n3 ≤ 65536; omega) (L.us_ 1 rfl) rfl hlm rfl hb5 hk.out rfl hb.out).mono ?_
  rintro e w7 ⟨A0_1, c0_1, A1_1, n1_1, c1_1, A2_1, n2_1, c2_1, A3_1, n3_1, c3_1, B_1, d_1, rfl, U, L', hA, K'⟩
  have Lb := L.lts
  replace L := L.over K'
  replace L := L.us_av (fun i b e => hA b.1 (Lb i b e) (L.ap_ 1 rfl hm0 i b e)) U
  clear Lb
  try dsimp only [lF, List.cons_append, List.nil_append] at L
  clear L' U hA
  go_upto_region 8 with (fail)
  replace L := L.drew
  refine wp_region_held_drew (S := fun w' => Loc w w' [(gP, 42, opv ⟨A0, n0, c0, A1, n1, c1, (some ⟨be, oe, none⟩), n2, cE, A3, n3, c3⟩ ⟨kind, addr, err, aad, used, 8, shard, sought, (lf : Int), (bt : Int), word, full, at_, tries, item, stamp⟩), (gO, 42, opv ⟨A0, n0, c0, A1, n1, c1, A2, n2, c2, A3, n3, c3⟩ ⟨kind, addr, err, aad, used, 8, shard, sought, (lf : Int), (bt : Int), word, full, at_, tries, item, stamp⟩), (gH, 27, #[.int .u32 (a : Int), .int .i64 p, .slice A n c, .int .i64 sh, .int .i64 wo, .int .i64 qu, .int .i64 tr])] [uF B_1 m d_1 ys, rF .i64 36 wRV.heap.size (some ⟨be, oe, none⟩) (n2 + 1) cE (l.ers ++ [77]), uF (some ⟨gV, 0, none⟩) m dV ys]) (by kernel_rfl) L (fun hHeld => ?_)
  generalize w7.drew = v8 at hHeld L ⊢
  refine wpAnyH_take (i := 0) (oi := ⟨some 48, _, _, _, _, _⟩) (v := .slice (some ⟨gV, 0, none⟩) m dV) rfl (by kernel_rfl) (by kernel_rfl) (by kernel_rfl) (fun _ _ _ h => h) (Or.inl ⟨by rfl, ?_⟩) hHeld ?_
  · intro ww hS
    try dsimp only at hS
    go_simp
    try with_reducible rfl
    try omega
  try simp only [Act.put, List.setIfInBounds_toArray, List.set_cons_zero, List.set_cons_succ]
  refine wpAnyH_take (i := 1) (oi := ⟨some 49, _, _, _, _, _⟩) (v := .slice B m d) rfl (by kernel_rfl) (by kernel_rfl) (by kernel_rfl) (fun _ _ _ h => h) (Or.inl ⟨by rfl, ?_⟩) hHeld ?_
  · intro ww hS
    try dsimp only at hS
    go_simp
    try with_reducible rfl
    try omega
  try simp only [Act.put, List.setIfInBounds_toArray, List.set_cons_zero, List.set_cons_succ]
  refine wpAnyH_ready (rs := [2]) (by kernel_rfl) (by simp) ?_
  refine AllReadyH.cons (o := ⟨some 50, _, _, _, _, _⟩) rfl (fun K0 hK => ?_) AllReadyH.nil
  go_simp
  refine (same_any (L.us_ 2 rfl) (hU.below L.K) hm6).mono ?_
  rintro e w9 ⟨rfl, K'⟩
  replace L := L.over K'
  refine hK.out _ _ L (fun hHeld' => ?_)
  clear hHeld hK K0
  have hHeld := hHeld'
  clear hHeld'
  clear K'
  try simp only [Act.put, List.setIfInBounds_toArray, List.set_cons_zero, List.set_cons_succ]
  refine wpAnyH_take (i := 3) (oi := ⟨some 51, _, _, _, _, _⟩) (v := .bool true) rfl (by kernel_rfl) (by kernel_rfl) (by kernel_rfl) (fun _ _ _ h => h) (Or.inl ⟨by rfl, ?_⟩) hHeld ?_
  · intro ww hS
    try dsimp only at hS
    go_simp
    try with_reducible rfl
    try omega
  try simp only [Act.put, List.setIfInBounds_toArray, List.set_cons_zero, List.set_cons_succ]
  refine wpAnyH_take (i := 4) (oi := ⟨some 52, _, _, _, _, _⟩) (v := .slice (some ⟨be, oe, none⟩) (n2 + 1) cE) rfl (by kernel_rfl) (by kernel_rfl) (by kernel_rfl) (fun _ _ _ h => h) (Or.inl ⟨by rfl, ?_⟩) hHeld ?_
  · intro ww hS
    try dsimp only at hS
    go_simp
    try with_reducible rfl
    try omega
  try simp only [Act.put, List.setIfInBounds_toArray, List.set_cons_zero, List.set_cons_succ]
  refine wpAnyH_take (i := 5) (oi := ⟨some 53, _, _, _, _, _⟩) (v := .pointer (some ⟨gO, 3, none⟩)) rfl (by kernel_rfl) (by kernel_rfl) (by kernel_rfl) (fun _ _ _ h => h) (Or.inl ⟨by rfl, ?_⟩) hHeld ?_
  · intro ww hS
    try dsimp only at hS
    go_simp
    try with_reducible rfl
    try omega
  try simp only [Act.put, List.setIfInBounds_toArray, List.set_cons_zero, List.set_cons_succ]
  refine wpAnyH_take (i := 6) (oi := ⟨some 54, _, _, _, _, _⟩) (v := .pointer (some ⟨gO, 7, none⟩)) rfl (by kernel_rfl) (by kernel_rfl) (by kernel_rfl) (fun _ _ _ h => h) (Or.inl ⟨by rfl, ?_⟩) hHeld ?_
  · intro ww hS
    try dsimp only at hS
    go_simp
    try with_reducible rfl
    try omega
  try simp only [Act.put, List.setIfInBounds_toArray, List.set_cons_zero, List.set_cons_succ]
  refine wpAnyH_take (i := 7) (oi := ⟨some 55, _, _, _, _, _⟩) (v := .slice A2 n2 c2) rfl (by kernel_rfl) (by kernel_rfl) (by kernel_rfl) (fun _ _ _ h => h) (Or.inl ⟨by rfl, ?_⟩) hHeld ?_
  · intro ww hS
    try dsimp only at hS
    have O_7 := (hS).at_ 1 7 rfl (v := .slice A2 n2 c2) rfl
    have O_z := (hS).lt 1 rfl
    go_simp
    try with_reducible rfl
    try omega
  try simp only [Act.put, List.setIfInBounds_toArray, List.set_cons_zero, List.set_cons_succ]
  refine wpAnyH_take (i := 8) (oi := ⟨some 56, _, _, _, _, _⟩) (v := ?_) rfl (by kernel_rfl) (by kernel_rfl) (by kernel_rfl) (fun _ _ _ h => h) (Or.inl ⟨by rfl, ?_⟩) hHeld ?_
  rotate_left
  · intro ww hS
    try dsimp only at hS
    go_simp
    try with_reducible rfl
    try omega
  try simp only [Act.put, List.setIfInBounds_toArray, List.set_cons_zero, List.set_cons_succ]
  refine wpAnyH_take (i := 9) (oi := ⟨some 57, _, _, _, _, _⟩) (v := .slice (some ⟨be, oe, none⟩) n2 cE) rfl (by kernel_rfl) (by kernel_rfl) (by kernel_rfl) (fun _ _ _ h => h) (Or.inl ⟨by rfl, ?_⟩) hHeld ?_
  · intro ww hS
    try dsimp only at hS
    go_simp
    try with_reducible rfl
    try omega
  try simp only [Act.put, List.setIfInBounds_toArray, List.set_cons_zero, List.set_cons_succ]
  refine wpAnyH_take (i := 10) (oi := ⟨some 58, _, _, _, _, _⟩) (v := .pointer (some ⟨gO, 3, none⟩)) rfl (by kernel_rfl) (by kernel_rfl) (by kernel_rfl) (fun _ _ _ h => h) (Or.inl ⟨by rfl, ?_⟩) hHeld ?_
  · intro ww hS
    try dsimp only at hS
    go_simp
    try with_reducible rfl
    try omega
  try simp only [Act.put, List.setIfInBounds_toArray, List.set_cons_zero, List.set_cons_succ]
  refine wpAnyH_take (i := 11) (oi := ⟨some 59, _, _, _, _, _⟩) (v := .pointer (some ⟨gO, 7, none⟩)) rfl (by kernel_rfl) (by kernel_rfl) (by kernel_rfl) (fun _ _ _ h => h) (Or.inl ⟨by rfl, ?_⟩) hHeld ?_
  · intro ww hS
    try dsimp only at hS
    go_simp
    try with_reducible rfl
    try omega
  try simp only [Act.put, List.setIfInBounds_toArray, List.set_cons_zero, List.set_cons_succ]
  refine wpAnyH_take (i := 12) (oi := ⟨some 60, _, _, _, _, _⟩) (v := .slice A2 n2 c2) rfl (by kernel_rfl) (by kernel_rfl) (by kernel_rfl) (fun _ _ _ h => h) (Or.inl ⟨by rfl, ?_⟩) hHeld ?_
  · intro ww hS
    try dsimp only at hS
    have O_7 := (hS).at_ 1 7 rfl (v := .slice A2 n2 c2) rfl
    have O_z := (hS).lt 1 rfl
    go_simp
    try with_reducible rfl
    try omega
  try simp only [Act.put, List.setIfInBounds_toArray, List.set_cons_zero, List.set_cons_succ]
  refine wpAnyH_ready (rs := [13]) (by kernel_rfl) (by simp) ?_
  refine AllReadyH.cons (o := ⟨some 61, _, _, _, _, _⟩) rfl (fun K0 hK => ?_) AllReadyH.nil
  go_simp
  refine (errs_same (is_front (L.ri_ 1 rfl).is) (hL.i2.below L.K) (by show n2 ≤ 65536; omega)).mono ?_
  rintro e w10 ⟨rfl, K'⟩
  replace L := L.over K'
  refine hK.out _ _ L (fun hHeld' => ?_)
  clear hHeld hK K0
  have hHeld := hHeld'
  clear hHeld'
  clear K'
  try simp only [Act.put, List.setIfInBounds_toArray, List.set_cons_zero, List.set_cons_succ]
  refine wpAnyH_take (i := 14) (oi := ⟨some 62, _, _, _, _, _⟩) (v := .bool true) rfl (by kernel_rfl) (by kernel_rfl) (by kernel_rfl) (fun _ _ _ h => h) (Or.inl ⟨by rfl, ?_⟩) hHeld ?_
  · intro ww hS
    try dsimp only at hS
    go_simp
    try with_reducible rfl
    try omega
  try simp only [Act.put, List.setIfInBounds_toArray, List.set_cons_zero, List.set_cons_succ]
  refine wpAnyH_take (i := 15) (oi := ⟨some 63, _, _, _, _, _⟩) (v := .bool true) rfl (by kernel_rfl) (by kernel_rfl) (by kernel_rfl) (fun _ _ _ h => h) (Or.inl ⟨by rfl, ?_⟩) hHeld ?_
  · intro ww hS
    try dsimp only at hS
    go_simp
    try with_reducible rfl
    try omega
  try simp only [Act.put, List.setIfInBounds_toArray, List.set_cons_zero, List.set_cons_succ]
  refine wpAnyH_take (i := 16) (oi := ⟨some 64, _, _, _, _, _⟩) (v := .slice (some ⟨be, oe, none⟩) (n2 + 1) cE) rfl (by kernel_rfl) (by kernel_rfl) (by kernel_rfl) (fun _ _ _ h => h) (Or.inl ⟨by rfl, ?_⟩) hHeld ?_
  · intro ww hS
    try dsimp only at hS
    go_simp
    try with_reducible rfl
    try omega
  try simp only [Act.put, List.setIfInBounds_toArray, List.set_cons_zero, List.set_cons_succ]
  refine wpAnyH_take (i := 17) (oi := ⟨some 65, _, _, _, _, _⟩) (v := .pointer (some ⟨gO, 3, none⟩)) rfl (by kernel_rfl) (by kernel_rfl) (by kernel_rfl) (fun _ _ _ h => h) (Or.inl ⟨by rfl, ?_⟩) hHeld ?_
  · intro ww hS
    try dsimp only at hS
    go_simp
    try with_reducible rfl
    try omega
  try simp only [Act.put, List.setIfInBounds_toArray, List.set_cons_zero, List.set_cons_succ]
  refine wpAnyH_take (i := 18) (oi := ⟨some 66, _, _, _, _, _⟩) (v := .pointer (some ⟨gO, 7, none⟩)) rfl (by kernel_rfl) (by kernel_rfl) (by kernel_rfl) (fun _ _ _ h => h) (Or.inl ⟨by rfl, ?_⟩) hHeld ?_
  · intro ww hS
    try dsimp only at hS
    go_simp
    try with_reducible rfl
    try omega
  try simp only [Act.put, List.setIfInBounds_toArray, List.set_cons_zero, List.set_cons_succ]
  refine wpAnyH_take (i := 19) (oi := ⟨some 67, _, _, _, _, _⟩) (v := .slice A2 n2 c2) rfl (by kernel_rfl) (by kernel_rfl) (by kernel_rfl) (fun _ _ _ h => h) (Or.inl ⟨by rfl, ?_⟩) hHeld ?_
  · intro ww hS
    try dsimp only at hS
    have O_7 := (hS).at_ 1 7 rfl (v := .slice A2 n2 c2) rfl
    have O_z := (hS).lt 1 rfl
    go_simp
    try with_reducible rfl
    try omega
  try simp only [Act.put, List.setIfInBounds_toArray, List.set_cons_zero, List.set_cons_succ]
  refine wpAnyH_take (i := 20) (oi := ⟨some 68, _, _, _, _, _⟩) (v := ?_) rfl (by kernel_rfl) (by kernel_rfl) (by kernel_rfl) (fun _ _ _ h => h) (Or.inl ⟨by rfl, ?_⟩) hHeld ?_
  rotate_left
  · intro ww hS
    try dsimp only at hS
    go_simp
    try with_reducible rfl
    try omega
  try simp only [Act.put, List.setIfInBounds_toArray, List.set_cons_zero, List.set_cons_succ]
  refine wpAnyH_take (i := 21) (oi := ⟨some 69, _, _, _, _, _⟩) (v := .pointer (some ⟨be, oe + n2, none⟩)) rfl (by kernel_rfl) (by kernel_rfl) (by kernel_rfl) (fun _ _ _ h => h) (Or.inl ⟨by rfl, ?_⟩) hHeld ?_
  · intro ww hS
    try dsimp only at hS
    go_simp
    try with_reducible rfl
    try omega
  try simp only [Act.put, List.setIfInBounds_toArray, List.set_cons_zero, List.set_cons_succ]
  refine wpAnyH_take (i := 22) (oi := ⟨some 70, _, _, _, _, _⟩) (v := .int .i64 77) rfl (by kernel_rfl) (by kernel_rfl) (by kernel_rfl) (fun _ _ _ h => h) (Or.inl ⟨by rfl, ?_⟩) hHeld ?_
  · intro ww hS
    try dsimp only at hS
    have X := is_last (((hS)).ri_ 1 rfl).is
    go_simp
    try with_reducible rfl
    try omega
  try simp only [Act.put, List.setIfInBounds_toArray, List.set_cons_zero, List.set_cons_succ]
  refine wpAnyH_take (i := 23) (oi := ⟨some 71, _, _, _, _, _⟩) (v := .bool true) rfl (by kernel_rfl) (by kernel_rfl) (by kernel_rfl) (fun _ _ _ h => h) (Or.inl ⟨by rfl, ?_⟩) hHeld ?_
  · intro ww hS
    try dsimp only at hS
    go_simp
    try with_reducible rfl
    try omega
  try simp only [Act.put, List.setIfInBounds_toArray, List.set_cons_zero, List.set_cons_succ]
  refine wpAnyH_take (i := 24) (oi := ⟨some 72, _, _, _, _, _⟩) (v := .bool true) rfl (by kernel_rfl) (by kernel_rfl) (by kernel_rfl) (fun _ _ _ h => h) (Or.inl ⟨by rfl, ?_⟩) hHeld ?_
  · intro ww hS
    try dsimp only at hS
    go_simp
    try with_reducible rfl
    try omega
  try simp only [Act.put, List.setIfInBounds_toArray, List.set_cons_zero, List.set_cons_succ]
  refine wpAnyH_take (i := 25) (oi := ⟨some 6, _, _, _, _, _⟩) (v := .bool true) rfl (by kernel_rfl) (by kernel_rfl) (by kernel_rfl) (fun _ _ _ h => h) (Or.inl ⟨by rfl, ?_⟩) hHeld ?_
  · intro ww hS
    try dsimp only at hS
    go_simp
    try with_reducible rfl
    try omega
  try simp only [Act.put, List.setIfInBounds_toArray, List.set_cons_zero, List.set_cons_succ]
  refine wpAnyH_done (by kernel_rfl) ?_ _
  clear hHeld
  go_wp2
  go_ret
  exact ⟨rfl, L.K⟩
set_option maxRecDepth 100000 in
set_option maxHeartbeats 4000000 in
theorem free (ha : a < 4294967296) (h0 : IS .i64 lo w A n c zs) (hU : US w B m d ys) (hI : IS .u32 0 w h.A0 h.n0 h.c0 xs) (hxs : ∀ j, j < h.n0 → ∃ x : Nat, gi xs j = (x : Int) ∧ x < 4294967296) (hL : Lists 0 w h l) (hf : ∀ x ∈ l.ses, (Lit.int .u64 x).wf = true) (hw : s.word < 18446744073709551616) (hk : s.kind = 3 ∨ s.kind = 4) (hph : s.phase = 8) (hb : (gt ys s.leaf.toNat).testBit s.bit.toNat = false) :
    Calls Try.prog 5 #[.agg #[.int .u32 (a : Int), .int .i64 p, .slice A n c, .int .i64 sh, .int .i64 wo, .int .i64 qu, .int .i64 tr], .slice B m d, .agg (opv h s)] w (RetBo true w) := by
  replace hxs := Lib.hid hxs
  replace hf := Lib.hid hf
  have TGv := fun w => Lib.hid (gives_at (w := w) (h := h) hk (.inl hph))
  replace hk := Lib.hid hk
  replace hb := Lib.hid hb
  rcases s with ⟨kind, addr, err, aad, used, phase, shard, sought, leaf, bit, word, full, at_, tries, item, stamp⟩
  rcases h with ⟨A0, n0, c0, A1, n1, c1, A2, n2, c2, A3, n3, c3⟩
  try dsimp only at *
  subst hph
  go_enter Try.func5, Try.ntmps5
  go_upto_region 1 with (fail)
  have L := Loc.start w
  replace L := ((L).alloc #[.int .u32 (a : Int), .int .i64 p, .slice A n c, .int .i64 sh, .int .i64 wo, .int .i64 qu, .int .i64 tr] 27).alloc (opv ⟨A0, n0, c0, A1, n1, c1, A2, n2, c2, A3, n3, c3⟩ ⟨kind, addr, err, aad, used, 8, shard, sought, leaf, bit, word, full, at_, tries, item, stamp⟩) 42
  try simp only [World.size_alloc] at L
  try dsimp only [nput] at L
  generalize ((w).alloc (.cells #[.int .u32 (a : Int), .int .i64 p, .slice A n c, .int .i64 sh, .int .i64 wo, .int .i64 qu, .int .i64 tr] 27)).alloc (.cells (opv ⟨A0, n0, c0, A1, n1, c1, A2, n2, c2, A3, n3, c3⟩ ⟨kind, addr, err, aad, used, 8, shard, sought, leaf, bit, word, full, at_, tries, item, stamp⟩) 42) = w1 at L ⊢
  generalize w.heap.size + 1 = gO at L ⊢
  generalize w.heap.size = gH at L ⊢
  go_wp2_with fail
  refine (awake_any _).mono ?_
  rintro e w2 ⟨rfl, K'⟩
  replace L := L.over K'
  go_wp2_with (first | (refine wpList_load_want (by rfl) 27 (.tmp 3) rfl gH rfl _ _ (0, 0) _ (L.bk_ 1 rfl) Try.underlying27 rfl cf_sz ?_) | (refine wpList_load_want (by rfl) 42 (.tmp 5) rfl gO rfl _ _ (0, 0) _ (L.bk_ 0 rfl) Try.underlying42 rfl op_sz ?_))
  refine (fits13_any ha (h0.below L.K) (hI.below L.K) hxs.out).mono ?_
  rintro e w3 ⟨bo, rfl, hB, K'⟩
  replace L := L.over K'
  rcases bo with _ | _
  · clear hB
    go_wp2_with fail
    refine (awake_any _).mono ?_
    rintro e w92 ⟨rfl, K'⟩
    replace L := L.over K'
    go_wp2
    go_ret
    exact ⟨rfl, L.K⟩
  replace hB := hB rfl
  obtain ⟨M, lf, bt, hM, hm4, hmm, hW, hlf, hlv, hbt, hb5, hof, hs0, hs1⟩ := hB
  dsimp only at hlf hbt hs0 hs1
  obtain ⟨⟨q1, q2⟩, ⟨q3, q4⟩, ⟨q5, q6⟩, ⟨q7, q8, q9, q10⟩, hin⟩ := hW.out
  dsimp only at q1 q2 q3 q4 q5 q6 q7 q8 q9 q10 hin
  clear hW
  subst hlf hbt
  have hM4 := hM.most
  have hl3 := lv_le hM4
  have hm6 : m ≤ 65536 ∧ lf < m := by have : tv M = (lv M + 63) / 64 := rfl; omega
  obtain ⟨hm6, hlm⟩ := hm6
  replace hmm := Lib.hid hmm
  have hm0 : 0 < m := by omega
  replace hb := Lib.hid (by simpa using hb.out : (gt ys lf).testBit bt = false)
  go_wp2_with (refine wpList_load_want (by rfl) 42 (.tmp 5) rfl gO rfl _ _ (0, 0) _ (L.bk_ 0 rfl) Try.underlying42 rfl op_sz ?_)
  refine ((TGv _).out).mono ?_
  rintro e w4 ⟨rfl, K'⟩
  replace L := L.over K'
  obtain ⟨i0, hi, hz0, hz1, hz2⟩ := info_parts u64_info
  have hown : (w4.alloc (.cells #[] 40)).ownsRow w4.heap.size 40 1 (.slice (some ⟨w4.heap.size, 0, none⟩) 0 0) 0 [] := World.ownsRow_lit w4 #[] 0 (Nat.le_refl _) (by unfold maxLen; omega) rfl
  have Ka := below_alloc w4 (.cells #[] 40)
  have hUc := hU.below L.K
  obtain ⟨gV, dV, wRV, hapV, OR, KR⟩ := run_append_us (P := Try.prog) Try.underlying28 hi hz0 hz1 hz2 hown (hUc.below Ka) hm6 (Nat.le_refl _) Ka.size 28
  have KC := Ka.trans KR
  have UC := OR.us hUc.fit
  have gC := OR.ge
  clear hown Ka KR OR hi hz0 hz1 hz2 hUc
  go_upto_region 4 with (at_builtin; refine wpList_append_run rfl (.tmp 25) (.tmp 26) 28 rfl _ _ _ _ rfl rfl hapV ?_)
  replace L := (L.over KC).us_av (fun i b e b' o e' => by injection e' with e'; injection e' with e1; have := L.lts i b e; omega) UC
  clear KC UC hapV
  obtain ⟨i0, hi, hz0, hz1, hz2⟩ := info_parts cloneE_info
  obtain ⟨Aq, cq, wE1, AE, cE, wE2, hap1, hap2, hE, KE⟩ := two_app (P := Try.prog) (x := 77) (n := n2) Try.underlying37 hi hz0 hz1 hz2 (hL.i2.below L.K) (by show n2 + 1 ≤ 65536; omega) 37
  clear hi hz0 hz1 hz2
  have O_7 := L.at_ 0 7 rfl (v := .slice A2 n2 c2) rfl
  have O_z := L.lt 0 rfl
  go_upto_region 5 with (first | (at_builtin; refine wpList_append_run rfl (.tmp 28) (.tmp 31) 37 rfl _ _ _ _ rfl rfl hap1 ?_) | (at_builtin; refine wpList_append_run rfl (.tmp 32) (.tmp 33) 37 rfl _ _ _ _ rfl rfl hap2 ?_))
  clear O_7 O_z
  replace L := (L.over KE).ri_new L.lts hE
  clear KE hE hap1 hap2
  obtain ⟨be, oe, hAe, _, _⟩ := (L.ri_ 0 rfl).is.get (show n2 < n2 + 1 by omega)
  subst hAe
  have hcE : n2 + 1 ≤ cE := (L.ri_ 0 rfl).is.cap
  have gE1 : ¬ (cE < n2) := by omega
  have gE2 : (n2 : Int) ≤ cE := by omega
  have gE3 : ¬ (cE < n2 + 1) := by omega
  have gE4 : (n2 : Int) < ((n2 + 1 : Nat) : Int) := by omega
  clear hcE
  go_upto_region 6 with (first | (refine wpList_load_row rfl 42 (.tmp 5) rfl gO rfl _ _ (0, 0) _ (L.bk_ 0 rfl) Try.underlying42 rfl op_sz ?_) | (refine wpList_store_row rfl 42 (.tmp 9) (.tmp 35) rfl _ _ rfl (show _ = Value.agg (opv ⟨A0, n0, c0, A1, n1, c1, A2, n2, c2, A3, n3, c3⟩ ⟨kind, addr, err, aad, used, 8, shard, sought, (lf : Int), (bt : Int), word, full, at_, tries, item, stamp⟩) from rfl) _ _ (Bk.new _ _ _) op_sz rfl (opv_one _ _) ?_))
  try rw [World.setRow_alloc_new]
  replace L := (L).alloc (opv ⟨A0, n0, c0, A1, n1, c1, A2, n2, c2, A3, n3, c3⟩ ⟨kind, addr, err, aad, used, 8, shard, sought, (lf : Int), (bt : Int), word, full, at_, tries, item, stamp⟩) 42
  try simp only [World.size_alloc] at L
  try dsimp only [nput] at L
  generalize (wE2).alloc (.cells (opv ⟨A0, n0, c0, A1, n1, c1, A2, n2, c2, A3, n3, c3⟩ ⟨kind, addr, err, aad, used, 8, shard, sought, (lf : Int), (bt : Int), word, full, at_, tries, item, stamp⟩) 42) = w5 at L ⊢
  generalize wE2.heap.size = gP at L ⊢
  have O_7 := L.at_ 1 7 rfl (v := .slice A2 n2 c2) rfl
  have P_7 := L.at_ 0 7 rfl (v := .slice A2 n2 c2) rfl
  have O_z := L.lt 1 rfl
  have P_z := L.lt 0 rfl
  have P_f7 := L.fz 0 7 rfl
  have ne_P_O := L.ne_ 0 1 rfl rfl (by decide)
  go_upto_region 7 with fail
  clear O_7 P_7 O_z P_z P_f7 ne_P_O
  replace L := ((L.set 0 7 rfl (.slice (some ⟨be, oe, none⟩) n2 cE)).is 0 (opv ⟨A0, n0, c0, A1, n1, c1, (some ⟨be, oe, none⟩), n2, cE, A3, n3, c3⟩ ⟨kind, addr, err, aad, used, 8, shard, sought, (lf : Int), (bt : Int), word, full, at_, tries, item, stamp⟩) rfl)
  try dsimp only [nput] at L
  generalize (w5).setCell ⟨gP, 7, none⟩ (.slice (some ⟨be, oe, none⟩) n2 cE) = w6 at L ⊢
  go_wp2_with (first | (refine wpList_load_row rfl 27 (.tmp 3) rfl gH rfl _ _ (0, 0) _ (L.bk_ 2 rfl) Try.underlying27 rfl cf_sz ?_) | (refine wpList_load_row rfl 42 (.tmp 9) rfl gP rfl _ _ (0, 0) _ (L.bk_ 0 rfl) Try.underlying42 rfl op_sz ?_))
  refine (dstep_free (a := a) (p := p) (sh := sh) (wo := wo) (qu := qu) (tr := tr) (A := A) (n := n) (c := c) (w := w6) (lo := 0) (lo2 := 0) (h := ⟨A0, n0, c0, A1, n1, c1, (some ⟨be, oe, none⟩), n2, cE, A3, n3, c3⟩) (s := ⟨kind, addr, err, aad, used, 8, shard, sought, (lf : Int), (bt : Int), word, full, at_, tries, item, stamp⟩) (l := l) (xs := xs) (M := M) ⟨(hL.below L.K).i0, (hL.below L.K).i1, (is_front (L.ri_ 0 rfl).is).lower (Nat.zero_le _), (hL.below L.K).i3⟩ ha hM (hI.below L.K) (by show n0 ≤ 65536; omega) hin (by show n1 ≤ 65536; omega) (by show n2 ≤ 65000; omega) (by show n3 ≤ 65536; omega) (L.us_ 1 rfl) rfl hlm rfl hb5 hk.out rfl hb.out).mono ?_
  rintro e w7 ⟨A0_1, c0_1, A1_1, n1_1, c1_1, A2_1, n2_1, c2_1, A3_1, n3_1, c3_1, B_1, d_1, rfl, U, L', hA, K'⟩
  have Lb := L.lts
  replace L := L.over K'
  replace L := L.us_av (fun i b e => hA b.1 (Lb i b e) (L.ap_ 1 rfl hm0 i b e)) U
  clear Lb
  try dsimp only [lF, List.cons_append, List.nil_append] at L
  clear L' U hA
  go_upto_region 8 with (fail)
  replace L := L.drew
  refine wp_region_held_drew (S := fun w' => Loc w w' [(gP, 42, opv ⟨A0, n0, c0, A1, n1, c1, (some ⟨be, oe, none⟩), n2, cE, A3, n3, c3⟩ ⟨kind, addr, err, aad, used, 8, shard, sought, (lf : Int), (bt : Int), word, full, at_, tries, item, stamp⟩), (gO, 42, opv ⟨A0, n0, c0, A1, n1, c1, A2, n2, c2, A3, n3, c3⟩ ⟨kind, addr, err, aad, used, 8, shard, sought, (lf : Int), (bt : Int), word, full, at_, tries, item, stamp⟩), (gH, 27, #[.int .u32 (a : Int), .int .i64 p, .slice A n c, .int .i64 sh, .int .i64 wo, .int .i64 qu, .int .i64 tr])] [uF B_1 m d_1 ys, rF .i64 36 wRV.heap.size (some ⟨be, oe, none⟩) (n2 + 1) cE (l.ers ++ [77]), uF (some ⟨gV, 0, none⟩) m dV ys]) (by kernel_rfl) L (fun hHeld => ?_)
  generalize w7.drew = v8 at hHeld L ⊢
  refine wpAnyH_take (i := 0) (oi := ⟨some 48, _, _, _, _, _⟩) (v := .slice (some ⟨gV, 0, none⟩) m dV) rfl (by kernel_rfl) (by kernel_rfl) (by kernel_rfl) (fun _ _ _ h => h) (Or.inl ⟨by rfl, ?_⟩) hHeld ?_
  · intro ww hS
    try dsimp only at hS
    go_simp
    try with_reducible rfl
    try omega
  try simp only [Act.put, List.setIfInBounds_toArray, List.set_cons_zero, List.set_cons_succ]
  refine wpAnyH_take (i := 1) (oi := ⟨some 49, _, _, _, _, _⟩) (v := .slice B m d) rfl (by kernel_rfl) (by kernel_rfl) (by kernel_rfl) (fun _ _ _ h => h) (Or.inl ⟨by rfl, ?_⟩) hHeld ?_
  · intro ww hS
    try dsimp only at hS
    go_simp
    try with_reducible rfl
    try omega
  try simp only [Act.put, List.setIfInBounds_toArray, List.set_cons_zero, List.set_cons_succ]
  refine wpAnyH_ready (rs := [2]) (by kernel_rfl) (by simp) ?_
  refine AllReadyH.cons (o := ⟨some 50, _, _, _, _, _⟩) rfl (fun K0 hK => ?_) AllReadyH.nil
  go_simp
  refine (same_any (L.us_ 2 rfl) (hU.below L.K) hm6).mono ?_
  rintro e w9 ⟨rfl, K'⟩
  replace L := L.over K'
  refine hK.out _ _ L (fun hHeld' => ?_)
  clear hHeld hK K0
  have hHeld := hHeld'
  clear hHeld'
  clear K'
  try simp only [Act.put, List.setIfInBounds_toArray, List.set_cons_zero, List.set_cons_succ]
  refine wpAnyH_take (i := 3) (oi := ⟨some 51, _, _, _, _, _⟩) (v := .bool true) rfl (by kernel_rfl) (by kernel_rfl) (by kernel_rfl) (fun _ _ _ h => h) (Or.inl ⟨by rfl, ?_⟩) hHeld ?_
  · intro ww hS
    try dsimp only at hS
    go_simp
    try with_reducible rfl
    try omega
  try simp only [Act.put, List.setIfInBounds_toArray, List.set_cons_zero, List.set_cons_succ]
  refine wpAnyH_take (i := 4) (oi := ⟨some 52, _, _, _, _, _⟩) (v := .slice (some ⟨be, oe, none⟩) (n2 + 1) cE) rfl (by kernel_rfl) (by kernel_rfl) (by kernel_rfl) (fun _ _ _ h => h) (Or.inl ⟨by rfl, ?_⟩) hHeld ?_
  · intro ww hS
    try dsimp only at hS
    go_simp
    try with_reducible rfl
    try omega
  try simp only [Act.put, List.setIfInBounds_toArray, List.set_cons_zero, List.set_cons_succ]
  refine wpAnyH_take (i := 5) (oi := ⟨some 53, _, _, _, _, _⟩) (v := .pointer (some ⟨gO, 3, none⟩)) rfl (by kernel_rfl) (by kernel_rfl) (by kernel_rfl) (fun _ _ _ h => h) (Or.inl ⟨by rfl, ?_⟩) hHeld ?_
  · intro ww hS
    try dsimp only at hS
    go_simp
    try with_reducible rfl
    try omega
  try simp only [Act.put, List.setIfInBounds_toArray, List.set_cons_zero, List.set_cons_succ]
  refine wpAnyH_take (i := 6) (oi := ⟨some 54, _, _, _, _, _⟩) (v := .pointer (some ⟨gO, 7, none⟩)) rfl (by kernel_rfl) (by kernel_rfl) (by kernel_rfl) (fun _ _ _ h => h) (Or.inl ⟨by rfl, ?_⟩) hHeld ?_
  · intro ww hS
    try dsimp only at hS
    go_simp
    try with_reducible rfl
    try omega
  try simp only [Act.put, List.setIfInBounds_toArray, List.set_cons_zero, List.set_cons_succ]
  refine wpAnyH_take (i := 7) (oi := ⟨some 55, _, _, _, _, _⟩) (v := .slice A2 n2 c2) rfl (by kernel_rfl) (by kernel_rfl) (by kernel_rfl) (fun _ _ _ h => h) (Or.inl ⟨by rfl, ?_⟩) hHeld ?_
  · intro ww hS
    try dsimp only at hS
    have O_7 := (hS).at_ 1 7 rfl (v := .slice A2 n2 c2) rfl
    have O_z := (hS).lt 1 rfl
    go_simp
    try with_reducible rfl
    try omega
  try simp only [Act.put, List.setIfInBounds_toArray, List.set_cons_zero, List.set_cons_succ]
  refine wpAnyH_take (i := 8) (oi := ⟨some 56, _, _, _, _, _⟩) (v := ?_) rfl (by kernel_rfl) (by kernel_rfl) (by kernel_rfl) (fun _ _ _ h => h) (Or.inl ⟨by rfl, ?_⟩) hHeld ?_
  rotate_left
  · intro ww hS
    try dsimp only at hS
    go_simp
    try with_reducible rfl
    try omega
  try simp only [Act.put, List.setIfInBounds_toArray, List.set_cons_zero, List.set_cons_succ]
  refine wpAnyH_take (i := 9) (oi := ⟨some 57, _, _, _, _, _⟩) (v := .slice (some ⟨be, oe, none⟩) n2 cE) rfl (by kernel_rfl) (by kernel_rfl) (by kernel_rfl) (fun _ _ _ h => h) (Or.inl ⟨by rfl, ?_⟩) hHeld ?_
  · intro ww hS
    try dsimp only at hS
    go_simp
    try with_reducible rfl
    try omega
  try simp only [Act.put, List.setIfInBounds_toArray, List.set_cons_zero, List.set_cons_succ]
  refine wpAnyH_take (i := 10) (oi := ⟨some 58, _, _, _, _, _⟩) (v := .pointer (some ⟨gO, 3, none⟩)) rfl (by kernel_rfl) (by kernel_rfl) (by kernel_rfl) (fun _ _ _ h => h) (Or.inl ⟨by rfl, ?_⟩) hHeld ?_
  · intro ww hS
    try dsimp only at hS
    go_simp
    try with_reducible rfl
    try omega
  try simp only [Act.put, List.setIfInBounds_toArray, List.set_cons_zero, List.set_cons_succ]
  refine wpAnyH_take (i := 11) (oi := ⟨some 59, _, _, _, _, _⟩) (v := .pointer (some ⟨gO, 7, none⟩)) rfl (by kernel_rfl) (by kernel_rfl) (by kernel_rfl) (fun _ _ _ h => h) (Or.inl ⟨by rfl, ?_⟩) hHeld ?_
  · intro ww hS
    try dsimp only at hS
    go_simp
    try with_reducible rfl
    try omega
  try simp only [Act.put, List.setIfInBounds_toArray, List.set_cons_zero, List.set_cons_succ]
  refine wpAnyH_take (i := 12) (oi := ⟨some 60, _, _, _, _, _⟩) (v := .slice A2 n2 c2) rfl (by kernel_rfl) (by kernel_rfl) (by kernel_rfl) (fun _ _ _ h => h) (Or.inl ⟨by rfl, ?_⟩) hHeld ?_
  · intro ww hS
    try dsimp only at hS
    have O_7 := (hS).at_ 1 7 rfl (v := .slice A2 n2 c2) rfl
    have O_z := (hS).lt 1 rfl
    go_simp
    try with_reducible rfl
    try omega
  try simp only [Act.put, List.setIfInBounds_toArray, List.set_cons_zero, List.set_cons_succ]
  refine wpAnyH_ready (rs := [13]) (by kernel_rfl) (by simp) ?_
  refine AllReadyH.cons (o := ⟨some 61, _, _, _, _, _⟩) rfl (fun K0 hK => ?_) AllReadyH.nil
  go_simp
  refine (errs_same (is_front (L.ri_ 1 rfl).is) (hL.i2.below L.K) (by show n2 ≤ 65536; omega)).mono ?_
  rintro e w10 ⟨rfl, K'⟩
  replace L := L.over K'
  refine hK.out _ _ L (fun hHeld' => ?_)
  clear hHeld hK K0
  have hHeld := hHeld'
  clear hHeld'
  clear K'
  try simp only [Act.put, List.setIfInBounds_toArray, List.set_cons_zero, List.set_cons_succ]
  refine wpAnyH_take (i := 14) (oi := ⟨some 62, _, _, _, _, _⟩) (v := .bool true) rfl (by kernel_rfl) (by kernel_rfl) (by kernel_rfl) (fun _ _ _ h => h) (Or.inl ⟨by rfl, ?_⟩) hHeld ?_
  · intro ww hS
    try dsimp only at hS
    go_simp
    try with_reducible rfl
    try omega
  try simp only [Act.put, List.setIfInBounds_toArray, List.set_cons_zero, List.set_cons_succ]
  refine wpAnyH_take (i := 15) (oi := ⟨some 63, _, _, _, _, _⟩) (v := .bool true) rfl (by kernel_rfl) (by kernel_rfl) (by kernel_rfl) (fun _ _ _ h => h) (Or.inl ⟨by rfl, ?_⟩) hHeld ?_
  · intro ww hS
    try dsimp only at hS
    go_simp
    try with_reducible rfl
    try omega
  try simp only [Act.put, List.setIfInBounds_toArray, List.set_cons_zero, List.set_cons_succ]
  refine wpAnyH_take (i := 16) (oi := ⟨some 64, _, _, _, _, _⟩) (v := .slice (some ⟨be, oe, none⟩) (n2 + 1) cE) rfl (by kernel_rfl) (by kernel_rfl) (by kernel_rfl) (fun _ _ _ h => h) (Or.inl ⟨by rfl, ?_⟩) hHeld ?_
  · intro ww hS
    try dsimp only at hS
    go_simp
    try with_reducible rfl
    try omega
  try simp only [Act.put, List.setIfInBounds_toArray, List.set_cons_zero, List.set_cons_succ]
  refine wpAnyH_take (i := 17) (oi := ⟨some 65, _, _, _, _, _⟩) (v := .pointer (some ⟨gO, 3, none⟩)) rfl (by kernel_rfl) (by kernel_rfl) (by kernel_rfl) (fun _ _ _ h => h) (Or.inl ⟨by rfl, ?_⟩) hHeld ?_
  · intro ww hS
    try dsimp only at hS
    go_simp
    try with_reducible rfl
    try omega
  try simp only [Act.put, List.setIfInBounds_toArray, List.set_cons_zero, List.set_cons_succ]
  refine wpAnyH_take (i := 18) (oi := ⟨some 66, _, _, _, _, _⟩) (v := .pointer (some ⟨gO, 7, none⟩)) rfl (by kernel_rfl) (by kernel_rfl) (by kernel_rfl) (fun _ _ _ h => h) (Or.inl ⟨by rfl, ?_⟩) hHeld ?_
  · intro ww hS
    try dsimp only at hS
    go_simp
    try with_reducible rfl
    try omega
  try simp only [Act.put, List.setIfInBounds_toArray, List.set_cons_zero, List.set_cons_succ]
  refine wpAnyH_take (i := 19) (oi := ⟨some 67, _, _, _, _, _⟩) (v := .slice A2 n2 c2) rfl (by kernel_rfl) (by kernel_rfl) (by kernel_rfl) (fun _ _ _ h => h) (Or.inl ⟨by rfl, ?_⟩) hHeld ?_
  · intro ww hS
    try dsimp only at hS
    have O_7 := (hS).at_ 1 7 rfl (v := .slice A2 n2 c2) rfl
    have O_z := (hS).lt 1 rfl
    go_simp
    try with_reducible rfl
    try omega
  try simp only [Act.put, List.setIfInBounds_toArray, List.set_cons_zero, List.set_cons_succ]
  refine wpAnyH_take (i := 20) (oi := ⟨some 68, _, _, _, _, _⟩) (v := ?_) rfl (by kernel_rfl) (by kernel_rfl) (by kernel_rfl) (fun _ _ _ h => h) (Or.inl ⟨by rfl, ?_⟩) hHeld ?_
  rotate_left
  · intro ww hS
    try dsimp only at hS
    go_simp
    try with_reducible rfl
    try omega
  try simp only [Act.put, List.setIfInBounds_toArray, List.set_cons_zero, List.set_cons_succ]
  refine wpAnyH_take (i := 21) (oi := ⟨some 69, _, _, _, _, _⟩) (v := .pointer (some ⟨be, oe + n2, none⟩)) rfl (by kernel_rfl) (by kernel_rfl) (by kernel_rfl) (fun _ _ _ h => h) (Or.inl ⟨by rfl, ?_⟩) hHeld ?_
  · intro ww hS
    try dsimp only at hS
    go_simp
    try with_reducible rfl
    try omega
  try simp only [Act.put, List.setIfInBounds_toArray, List.set_cons_zero, List.set_cons_succ]
  refine wpAnyH_take (i := 22) (oi := ⟨some 70, _, _, _, _, _⟩) (v := .int .i64 77) rfl (by kernel_rfl) (by kernel_rfl) (by kernel_rfl) (fun _ _ _ h => h) (Or.inl ⟨by rfl, ?_⟩) hHeld ?_
  · intro ww hS
    try dsimp only at hS
    have X := is_last (((hS)).ri_ 1 rfl).is
    go_simp
    try with_reducible rfl
    try omega
  try simp only [Act.put, List.setIfInBounds_toArray, List.set_cons_zero, List.set_cons_succ]
  refine wpAnyH_take (i := 23) (oi := ⟨some 71, _, _, _, _, _⟩) (v := .bool true) rfl (by kernel_rfl) (by kernel_rfl) (by kernel_rfl) (fun _ _ _ h => h) (Or.inl ⟨by rfl, ?_⟩) hHeld ?_
  · intro ww hS
    try dsimp only at hS
    go_simp
    try with_reducible rfl
    try omega
  try simp only [Act.put, List.setIfInBounds_toArray, List.set_cons_zero, List.set_cons_succ]
  refine wpAnyH_take (i := 24) (oi := ⟨some 72, _, _, _, _, _⟩) (v := .bool true) rfl (by kernel_rfl) (by kernel_rfl) (by kernel_rfl) (fun _ _ _ h => h) (Or.inl ⟨by rfl, ?_⟩) hHeld ?_
  · intro ww hS
    try dsimp only at hS
    go_simp
    try with_reducible rfl
    try omega
  try simp only [Act.put, List.setIfInBounds_toArray, List.set_cons_zero, List.set_cons_succ]
  refine wpAnyH_take (i := 25) (oi := ⟨some 6, _, _, _, _, _⟩) (v := .bool true) rfl (by kernel_rfl) (by kernel_rfl) (by kernel_rfl) (fun _ _ _ h => h) (Or.inl ⟨by rfl, ?_⟩) hHeld ?_
  · intro ww hS
    try dsimp only at hS
    go_simp
    try with_reducible rfl
    try omega
  try simp only [Act.put, List.setIfInBounds_toArray, List.set_cons_zero, List.set_cons_succ]
  refine wpAnyH_done (by kernel_rfl) ?_ _
  clear hHeld
  go_wp2
  go_ret
  exact ⟨rfl, L.K⟩
set_option maxRecDepth 100000 in
set_option maxHeartbeats 4000000 in
theorem hit (ha : a < 4294967296) (h0 : IS .i64 lo w A n c zs) (hU : US w B m d ys) (hI : IS .u32 0 w h.A0 h.n0 h.c0 xs) (hxs : ∀ j, j < h.n0 → ∃ x : Nat, gi xs j = (x : Int) ∧ x < 4294967296) (hL : Lists 0 w h l) (hf : ∀ x ∈ l.ses, (Lit.int .u64 x).wf = true) (hw : s.word < 18446744073709551616) (hk : s.kind = 3 ∨ s.kind = 4) (hph : s.phase = 9) (hq : gt ys s.leaf.toNat = s.word) :
    Calls Try.prog 5 #[.agg #[.int .u32 (a : Int), .int .i64 p, .slice A n c, .int .i64 sh, .int .i64 wo, .int .i64 qu, .int .i64 tr], .slice B m d, .agg (opv h s)] w (RetBo true w) := by
  replace hxs := Lib.hid hxs
  replace hf := Lib.hid hf
  have TGv := fun w => Lib.hid (gives_at (w := w) (h := h) hk (.inr hph))
  replace hk := Lib.hid hk
  replace hq := Lib.hid hq
  rcases s with ⟨kind, addr, err, aad, used, phase, shard, sought, leaf, bit, word, full, at_, tries, item, stamp⟩
  rcases h with ⟨A0, n0, c0, A1, n1, c1, A2, n2, c2, A3, n3, c3⟩
  try dsimp only at *
  subst hph
  go_enter Try.func5, Try.ntmps5
  go_upto_region 1 with (fail)
  have L := Loc.start w
  replace L := ((L).alloc #[.int .u32 (a : Int), .int .i64 p, .slice A n c, .int .i64 sh, .int .i64 wo, .int .i64 qu, .int .i64 tr] 27).alloc (opv ⟨A0, n0, c0, A1, n1, c1, A2, n2, c2, A3, n3, c3⟩ ⟨kind, addr, err, aad, used, 9, shard, sought, leaf, bit, word, full, at_, tries, item, stamp⟩) 42
  try simp only [World.size_alloc] at L
  try dsimp only [nput] at L
  generalize ((w).alloc (.cells #[.int .u32 (a : Int), .int .i64 p, .slice A n c, .int .i64 sh, .int .i64 wo, .int .i64 qu, .int .i64 tr] 27)).alloc (.cells (opv ⟨A0, n0, c0, A1, n1, c1, A2, n2, c2, A3, n3, c3⟩ ⟨kind, addr, err, aad, used, 9, shard, sought, leaf, bit, word, full, at_, tries, item, stamp⟩) 42) = w1 at L ⊢
  generalize w.heap.size + 1 = gO at L ⊢
  generalize w.heap.size = gH at L ⊢
  go_wp2_with fail
  refine (awake_any _).mono ?_
  rintro e w2 ⟨rfl, K'⟩
  replace L := L.over K'
  go_wp2_with (first | (refine wpList_load_want (by rfl) 27 (.tmp 3) rfl gH rfl _ _ (0, 0) _ (L.bk_ 1 rfl) Try.underlying27 rfl cf_sz ?_) | (refine wpList_load_want (by rfl) 42 (.tmp 5) rfl gO rfl _ _ (0, 0) _ (L.bk_ 0 rfl) Try.underlying42 rfl op_sz ?_))
  refine (fits13_any ha (h0.below L.K) (hI.below L.K) hxs.out).mono ?_
  rintro e w3 ⟨bo, rfl, hB, K'⟩
  replace L := L.over K'
  rcases bo with _ | _
  · clear hB
    go_wp2_with fail
    refine (awake_any _).mono ?_
    rintro e w92 ⟨rfl, K'⟩
    replace L := L.over K'
    go_wp2
    go_ret
    exact ⟨rfl, L.K⟩
  replace hB := hB rfl
  obtain ⟨M, lf, bt, hM, hm4, hmm, hW, hlf, hlv, hbt, hb5, hof, hs0, hs1⟩ := hB
  dsimp only at hlf hbt hs0 hs1
  obtain ⟨⟨q1, q2⟩, ⟨q3, q4⟩, ⟨q5, q6⟩, ⟨q7, q8, q9, q10⟩, hin⟩ := hW.out
  dsimp only at q1 q2 q3 q4 q5 q6 q7 q8 q9 q10 hin
  clear hW
  subst hlf hbt
  have hM4 := hM.most
  have hl3 := lv_le hM4
  have hm6 : m ≤ 65536 ∧ lf < m := by have : tv M = (lv M + 63) / 64 := rfl; omega
  obtain ⟨hm6, hlm⟩ := hm6
  replace hmm := Lib.hid hmm
  have hm0 : 0 < m := by omega
  replace hq := Lib.hid (by simpa using hq.out : gt ys lf = word)
  go_wp2_with (refine wpList_load_want (by rfl) 42 (.tmp 5) rfl gO rfl _ _ (0, 0) _ (L.bk_ 0 rfl) Try.underlying42 rfl op_sz ?_)
  refine ((TGv _).out).mono ?_
  rintro e w4 ⟨rfl, K'⟩
  replace L := L.over K'
  obtain ⟨i0, hi, hz0, hz1, hz2⟩ := info_parts u64_info
  have hown : (w4.alloc (.cells #[] 40)).ownsRow w4.heap.size 40 1 (.slice (some ⟨w4.heap.size, 0, none⟩) 0 0) 0 [] := World.ownsRow_lit w4 #[] 0 (Nat.le_refl _) (by unfold maxLen; omega) rfl
  have Ka := below_alloc w4 (.cells #[] 40)
  have hUc := hU.below L.K
  obtain ⟨gV, dV, wRV, hapV, OR, KR⟩ := run_append_us (P := Try.prog) Try.underlying28 hi hz0 hz1 hz2 hown (hUc.below Ka) hm6 (Nat.le_refl _) Ka.size 28
  have KC := Ka.trans KR
  have UC := OR.us hUc.fit
  have gC := OR.ge
  clear hown Ka KR OR hi hz0 hz1 hz2 hUc
  go_upto_region 4 with (at_builtin; refine wpList_append_run rfl (.tmp 25) (.tmp 26) 28 rfl _ _ _ _ rfl rfl hapV ?_)
  replace L := (L.over KC).us_av (fun i b e b' o e' => by injection e' with e'; injection e' with e1; have := L.lts i b e; omega) UC
  clear KC UC hapV
  obtain ⟨i0, hi, hz0, hz1, hz2⟩ := info_parts cloneE_info
  obtain ⟨Aq, cq, wE1, AE, cE, wE2, hap1, hap2, hE, KE⟩ := two_app (P := Try.prog) (x := 77) (n := n2) Try.underlying37 hi hz0 hz1 hz2 (hL.i2.below L.K) (by show n2 + 1 ≤ 65536; omega) 37
  clear hi hz0 hz1 hz2
  have O_7 := L.at_ 0 7 rfl (v := .slice A2 n2 c2) rfl
  have O_z := L.lt 0 rfl
  go_upto_region 5 with (first | (at_builtin; refine wpList_append_run rfl (.tmp 28) (.tmp 31) 37 rfl _ _ _ _ rfl rfl hap1 ?_) | (at_builtin; refine wpList_append_run rfl (.tmp 32) (.tmp 33) 37 rfl _ _ _ _ rfl rfl hap2 ?_))
  clear O_7 O_z
  replace L := (L.over KE).ri_new L.lts hE
  clear KE hE hap1 hap2
  obtain ⟨be, oe, hAe, _, _⟩ := (L.ri_ 0 rfl).is.get (show n2 < n2 + 1 by omega)
  subst hAe
  have hcE : n2 + 1 ≤ cE := (L.ri_ 0 rfl).is.cap
  have gE1 : ¬ (cE < n2) := by omega
  have gE2 : (n2 : Int) ≤ cE := by omega
  have gE3 : ¬ (cE < n2 + 1) := by omega
  have gE4 : (n2 : Int) < ((n2 + 1 : Nat) : Int) := by omega
  clear hcE
  go_upto_region 6 with (first | (refine wpList_load_row rfl 42 (.tmp 5) rfl gO rfl _ _ (0, 0) _ (L.bk_ 0 rfl) Try.underlying42 rfl op_sz ?_) | (refine wpList_store_row rfl 42 (.tmp 9) (.tmp 35) rfl _ _ rfl (show _ = Value.agg (opv ⟨A0, n0, c0, A1, n1, c1, A2, n2, c2, A3, n3, c3⟩ ⟨kind, addr, err, aad, used, 9, shard, sought, (lf : Int), (bt : Int), word, full, at_, tries, item, stamp⟩) from rfl) _ _ (Bk.new _ _ _) op_sz rfl (opv_one _ _) ?_))
  try rw [World.setRow_alloc_new]
  replace L := (L).alloc (opv ⟨A0, n0, c0, A1, n1, c1, A2, n2, c2, A3, n3, c3⟩ ⟨kind, addr, err, aad, used, 9, shard, sought, (lf : Int), (bt : Int), word, full, at_, tries, item, stamp⟩) 42
  try simp only [World.size_alloc] at L
  try dsimp only [nput] at L
  generalize (wE2).alloc (.cells (opv ⟨A0, n0, c0, A1, n1, c1, A2, n2, c2, A3, n3, c3⟩ ⟨kind, addr, err, aad, used, 9, shard, sought, (lf : Int), (bt : Int), word, full, at_, tries, item, stamp⟩) 42) = w5 at L ⊢
  generalize wE2.heap.size = gP at L ⊢
  have O_7 := L.at_ 1 7 rfl (v := .slice A2 n2 c2) rfl
  have P_7 := L.at_ 0 7 rfl (v := .slice A2 n2 c2) rfl
  have O_z := L.lt 1 rfl
  have P_z := L.lt 0 rfl
  have P_f7 := L.fz 0 7 rfl
  have ne_P_O := L.ne_ 0 1 rfl rfl (by decide)
  go_upto_region 7 with fail
  clear O_7 P_7 O_z P_z P_f7 ne_P_O
  replace L := ((L.set 0 7 rfl (.slice (some ⟨be, oe, none⟩) n2 cE)).is 0 (opv ⟨A0, n0, c0, A1, n1, c1, (some ⟨be, oe, none⟩), n2, cE, A3, n3, c3⟩ ⟨kind, addr, err, aad, used, 9, shard, sought, (lf : Int), (bt : Int), word, full, at_, tries, item, stamp⟩) rfl)
  try dsimp only [nput] at L
  generalize (w5).setCell ⟨gP, 7, none⟩ (.slice (some ⟨be, oe, none⟩) n2 cE) = w6 at L ⊢
  go_wp2_with (first | (refine wpList_load_row rfl 27 (.tmp 3) rfl gH rfl _ _ (0, 0) _ (L.bk_ 2 rfl) Try.underlying27 rfl cf_sz ?_) | (refine wpList_load_row rfl 42 (.tmp 9) rfl gP rfl _ _ (0, 0) _ (L.bk_ 0 rfl) Try.underlying42 rfl op_sz ?_))
  refine (dstep_hit (a := a) (p := p) (sh := sh) (wo := wo) (qu := qu) (tr := tr) (A := A) (n := n) (c := c) (w := w6) (lo := 0) (lo2 := 0) (h := ⟨A0, n0, c0, A1, n1, c1, (some ⟨be, oe, none⟩), n2, cE, A3, n3, c3⟩) (s := ⟨kind, addr, err, aad, used, 9, shard, sought, (lf : Int), (bt : Int), word, full, at_, tries, item, stamp⟩) (l := l) (xs := xs) (M := M) ⟨(hL.below L.K).i0, (hL.below L.K).i1, (is_front (L.ri_ 0 rfl).is).lower (Nat.zero_le _), (hL.below L.K).i3⟩ ha hM (hI.below L.K) (by show n0 ≤ 65536; omega) hin (by show n1 ≤ 65536; omega) (by show n2 ≤ 65000; omega) (by show n3 ≤ 65536; omega) (L.us_ 1 rfl) rfl hlm rfl hb5 hk.out rfl hm6 hw hq.out).mono ?_
  rintro e w7 ⟨A0_1, c0_1, A1_1, n1_1, c1_1, A2_1, n2_1, c2_1, A3_1, n3_1, c3_1, B_1, d_1, rfl, U, L', hA, K'⟩
  have Lb := L.lts
  replace L := L.over K'
  replace L := L.us_av (fun i b e => hA b.1 (Lb i b e) (L.ap_ 1 rfl hm0 i b e)) U
  clear Lb
  try dsimp only [lF, List.cons_append, List.nil_append] at L
  clear L' U hA
  go_upto_region 8 with (fail)
  replace L := L.drew
  refine wp_region_held_drew (S := fun w' => Loc w w' [(gP, 42, opv ⟨A0, n0, c0, A1, n1, c1, (some ⟨be, oe, none⟩), n2, cE, A3, n3, c3⟩ ⟨kind, addr, err, aad, used, 9, shard, sought, (lf : Int), (bt : Int), word, full, at_, tries, item, stamp⟩), (gO, 42, opv ⟨A0, n0, c0, A1, n1, c1, A2, n2, c2, A3, n3, c3⟩ ⟨kind, addr, err, aad, used, 9, shard, sought, (lf : Int), (bt : Int), word, full, at_, tries, item, stamp⟩), (gH, 27, #[.int .u32 (a : Int), .int .i64 p, .slice A n c, .int .i64 sh, .int .i64 wo, .int .i64 qu, .int .i64 tr])] [uF B_1 m d_1 (ys.set lf (drp word bt)), rF .i64 36 wRV.heap.size (some ⟨be, oe, none⟩) (n2 + 1) cE (l.ers ++ [77]), uF (some ⟨gV, 0, none⟩) m dV ys]) (by kernel_rfl) L (fun hHeld => ?_)
  generalize w7.drew = v8 at hHeld L ⊢
  refine wpAnyH_take (i := 0) (oi := ⟨some 48, _, _, _, _, _⟩) (v := .slice (some ⟨gV, 0, none⟩) m dV) rfl (by kernel_rfl) (by kernel_rfl) (by kernel_rfl) (fun _ _ _ h => h) (Or.inl ⟨by rfl, ?_⟩) hHeld ?_
  · intro ww hS
    try dsimp only at hS
    go_simp
    try with_reducible rfl
    try omega
  try simp only [Act.put, List.setIfInBounds_toArray, List.set_cons_zero, List.set_cons_succ]
  refine wpAnyH_take (i := 1) (oi := ⟨some 49, _, _, _, _, _⟩) (v := .slice B m d) rfl (by kernel_rfl) (by kernel_rfl) (by kernel_rfl) (fun _ _ _ h => h) (Or.inl ⟨by rfl, ?_⟩) hHeld ?_
  · intro ww hS
    try dsimp only at hS
    go_simp
    try with_reducible rfl
    try omega
  try simp only [Act.put, List.setIfInBounds_toArray, List.set_cons_zero, List.set_cons_succ]
  refine wpAnyH_ready (rs := [2]) (by kernel_rfl) (by simp) ?_
  refine AllReadyH.cons (o := ⟨some 50, _, _, _, _, _⟩) rfl (fun K0 hK => ?_) AllReadyH.nil
  go_simp
  refine (same_any (L.us_ 2 rfl) (hU.below L.K) hm6).mono ?_
  rintro e w9 ⟨rfl, K'⟩
  replace L := L.over K'
  refine hK.out _ _ L (fun hHeld' => ?_)
  clear hHeld hK K0
  have hHeld := hHeld'
  clear hHeld'
  clear K'
  try simp only [Act.put, List.setIfInBounds_toArray, List.set_cons_zero, List.set_cons_succ]
  refine wpAnyH_take (i := 3) (oi := ⟨some 51, _, _, _, _, _⟩) (v := .bool true) rfl (by kernel_rfl) (by kernel_rfl) (by kernel_rfl) (fun _ _ _ h => h) (Or.inl ⟨by rfl, ?_⟩) hHeld ?_
  · intro ww hS
    try dsimp only at hS
    go_simp
    try with_reducible rfl
    try omega
  try simp only [Act.put, List.setIfInBounds_toArray, List.set_cons_zero, List.set_cons_succ]
  refine wpAnyH_take (i := 4) (oi := ⟨some 52, _, _, _, _, _⟩) (v := .slice (some ⟨be, oe, none⟩) (n2 + 1) cE) rfl (by kernel_rfl) (by kernel_rfl) (by kernel_rfl) (fun _ _ _ h => h) (Or.inl ⟨by rfl, ?_⟩) hHeld ?_
  · intro ww hS
    try dsimp only at hS
    go_simp
    try with_reducible rfl
    try omega
  try simp only [Act.put, List.setIfInBounds_toArray, List.set_cons_zero, List.set_cons_succ]
  refine wpAnyH_take (i := 5) (oi := ⟨some 53, _, _, _, _, _⟩) (v := .pointer (some ⟨gO, 3, none⟩)) rfl (by kernel_rfl) (by kernel_rfl) (by kernel_rfl) (fun _ _ _ h => h) (Or.inl ⟨by rfl, ?_⟩) hHeld ?_
  · intro ww hS
    try dsimp only at hS
    go_simp
    try with_reducible rfl
    try omega
  try simp only [Act.put, List.setIfInBounds_toArray, List.set_cons_zero, List.set_cons_succ]
  refine wpAnyH_take (i := 6) (oi := ⟨some 54, _, _, _, _, _⟩) (v := .pointer (some ⟨gO, 7, none⟩)) rfl (by kernel_rfl) (by kernel_rfl) (by kernel_rfl) (fun _ _ _ h => h) (Or.inl ⟨by rfl, ?_⟩) hHeld ?_
  · intro ww hS
    try dsimp only at hS
    go_simp
    try with_reducible rfl
    try omega
  try simp only [Act.put, List.setIfInBounds_toArray, List.set_cons_zero, List.set_cons_succ]
  refine wpAnyH_take (i := 7) (oi := ⟨some 55, _, _, _, _, _⟩) (v := .slice A2 n2 c2) rfl (by kernel_rfl) (by kernel_rfl) (by kernel_rfl) (fun _ _ _ h => h) (Or.inl ⟨by rfl, ?_⟩) hHeld ?_
  · intro ww hS
    try dsimp only at hS
    have O_7 := (hS).at_ 1 7 rfl (v := .slice A2 n2 c2) rfl
    have O_z := (hS).lt 1 rfl
    go_simp
    try with_reducible rfl
    try omega
  try simp only [Act.put, List.setIfInBounds_toArray, List.set_cons_zero, List.set_cons_succ]
  refine wpAnyH_take (i := 8) (oi := ⟨some 56, _, _, _, _, _⟩) (v := ?_) rfl (by kernel_rfl) (by kernel_rfl) (by kernel_rfl) (fun _ _ _ h => h) (Or.inl ⟨by rfl, ?_⟩) hHeld ?_
  rotate_left
  · intro ww hS
    try dsimp only at hS
    go_simp
    try with_reducible rfl
    try omega
  try simp only [Act.put, List.setIfInBounds_toArray, List.set_cons_zero, List.set_cons_succ]
  refine wpAnyH_take (i := 9) (oi := ⟨some 57, _, _, _, _, _⟩) (v := .slice (some ⟨be, oe, none⟩) n2 cE) rfl (by kernel_rfl) (by kernel_rfl) (by kernel_rfl) (fun _ _ _ h => h) (Or.inl ⟨by rfl, ?_⟩) hHeld ?_
  · intro ww hS
    try dsimp only at hS
    go_simp
    try with_reducible rfl
    try omega
  try simp only [Act.put, List.setIfInBounds_toArray, List.set_cons_zero, List.set_cons_succ]
  refine wpAnyH_take (i := 10) (oi := ⟨some 58, _, _, _, _, _⟩) (v := .pointer (some ⟨gO, 3, none⟩)) rfl (by kernel_rfl) (by kernel_rfl) (by kernel_rfl) (fun _ _ _ h => h) (Or.inl ⟨by rfl, ?_⟩) hHeld ?_
  · intro ww hS
    try dsimp only at hS
    go_simp
    try with_reducible rfl
    try omega
  try simp only [Act.put, List.setIfInBounds_toArray, List.set_cons_zero, List.set_cons_succ]
  refine wpAnyH_take (i := 11) (oi := ⟨some 59, _, _, _, _, _⟩) (v := .pointer (some ⟨gO, 7, none⟩)) rfl (by kernel_rfl) (by kernel_rfl) (by kernel_rfl) (fun _ _ _ h => h) (Or.inl ⟨by rfl, ?_⟩) hHeld ?_
  · intro ww hS
    try dsimp only at hS
    go_simp
    try with_reducible rfl
    try omega
  try simp only [Act.put, List.setIfInBounds_toArray, List.set_cons_zero, List.set_cons_succ]
  refine wpAnyH_take (i := 12) (oi := ⟨some 60, _, _, _, _, _⟩) (v := .slice A2 n2 c2) rfl (by kernel_rfl) (by kernel_rfl) (by kernel_rfl) (fun _ _ _ h => h) (Or.inl ⟨by rfl, ?_⟩) hHeld ?_
  · intro ww hS
    try dsimp only at hS
    have O_7 := (hS).at_ 1 7 rfl (v := .slice A2 n2 c2) rfl
    have O_z := (hS).lt 1 rfl
    go_simp
    try with_reducible rfl
    try omega
  try simp only [Act.put, List.setIfInBounds_toArray, List.set_cons_zero, List.set_cons_succ]
  refine wpAnyH_ready (rs := [13]) (by kernel_rfl) (by simp) ?_
  refine AllReadyH.cons (o := ⟨some 61, _, _, _, _, _⟩) rfl (fun K0 hK => ?_) AllReadyH.nil
  go_simp
  refine (errs_same (is_front (L.ri_ 1 rfl).is) (hL.i2.below L.K) (by show n2 ≤ 65536; omega)).mono ?_
  rintro e w10 ⟨rfl, K'⟩
  replace L := L.over K'
  refine hK.out _ _ L (fun hHeld' => ?_)
  clear hHeld hK K0
  have hHeld := hHeld'
  clear hHeld'
  clear K'
  try simp only [Act.put, List.setIfInBounds_toArray, List.set_cons_zero, List.set_cons_succ]
  refine wpAnyH_take (i := 14) (oi := ⟨some 62, _, _, _, _, _⟩) (v := .bool true) rfl (by kernel_rfl) (by kernel_rfl) (by kernel_rfl) (fun _ _ _ h => h) (Or.inl ⟨by rfl, ?_⟩) hHeld ?_
  · intro ww hS
    try dsimp only at hS
    go_simp
    try with_reducible rfl
    try omega
  try simp only [Act.put, List.setIfInBounds_toArray, List.set_cons_zero, List.set_cons_succ]
  refine wpAnyH_take (i := 15) (oi := ⟨some 63, _, _, _, _, _⟩) (v := .bool true) rfl (by kernel_rfl) (by kernel_rfl) (by kernel_rfl) (fun _ _ _ h => h) (Or.inl ⟨by rfl, ?_⟩) hHeld ?_
  · intro ww hS
    try dsimp only at hS
    go_simp
    try with_reducible rfl
    try omega
  try simp only [Act.put, List.setIfInBounds_toArray, List.set_cons_zero, List.set_cons_succ]
  refine wpAnyH_take (i := 16) (oi := ⟨some 64, _, _, _, _, _⟩) (v := .slice (some ⟨be, oe, none⟩) (n2 + 1) cE) rfl (by kernel_rfl) (by kernel_rfl) (by kernel_rfl) (fun _ _ _ h => h) (Or.inl ⟨by rfl, ?_⟩) hHeld ?_
  · intro ww hS
    try dsimp only at hS
    go_simp
    try with_reducible rfl
    try omega
  try simp only [Act.put, List.setIfInBounds_toArray, List.set_cons_zero, List.set_cons_succ]
  refine wpAnyH_take (i := 17) (oi := ⟨some 65, _, _, _, _, _⟩) (v := .pointer (some ⟨gO, 3, none⟩)) rfl (by kernel_rfl) (by kernel_rfl) (by kernel_rfl) (fun _ _ _ h => h) (Or.inl ⟨by rfl, ?_⟩) hHeld ?_
  · intro ww hS
    try dsimp only at hS
    go_simp
    try with_reducible rfl
    try omega
  try simp only [Act.put, List.setIfInBounds_toArray, List.set_cons_zero, List.set_cons_succ]
  refine wpAnyH_take (i := 18) (oi := ⟨some 66, _, _, _, _, _⟩) (v := .pointer (some ⟨gO, 7, none⟩)) rfl (by kernel_rfl) (by kernel_rfl) (by kernel_rfl) (fun _ _ _ h => h) (Or.inl ⟨by rfl, ?_⟩) hHeld ?_
  · intro ww hS
    try dsimp only at hS
    go_simp
    try with_reducible rfl
    try omega
  try simp only [Act.put, List.setIfInBounds_toArray, List.set_cons_zero, List.set_cons_succ]
  refine wpAnyH_take (i := 19) (oi := ⟨some 67, _, _, _, _, _⟩) (v := .slice A2 n2 c2) rfl (by kernel_rfl) (by kernel_rfl) (by kernel_rfl) (fun _ _ _ h => h) (Or.inl ⟨by rfl, ?_⟩) hHeld ?_
  · intro ww hS
    try dsimp only at hS
    have O_7 := (hS).at_ 1 7 rfl (v := .slice A2 n2 c2) rfl
    have O_z := (hS).lt 1 rfl
    go_simp
    try with_reducible rfl
    try omega
  try simp only [Act.put, List.setIfInBounds_toArray, List.set_cons_zero, List.set_cons_succ]
  refine wpAnyH_take (i := 20) (oi := ⟨some 68, _, _, _, _, _⟩) (v := ?_) rfl (by kernel_rfl) (by kernel_rfl) (by kernel_rfl) (fun _ _ _ h => h) (Or.inl ⟨by rfl, ?_⟩) hHeld ?_
  rotate_left
  · intro ww hS
    try dsimp only at hS
    go_simp
    try with_reducible rfl
    try omega
  try simp only [Act.put, List.setIfInBounds_toArray, List.set_cons_zero, List.set_cons_succ]
  refine wpAnyH_take (i := 21) (oi := ⟨some 69, _, _, _, _, _⟩) (v := .pointer (some ⟨be, oe + n2, none⟩)) rfl (by kernel_rfl) (by kernel_rfl) (by kernel_rfl) (fun _ _ _ h => h) (Or.inl ⟨by rfl, ?_⟩) hHeld ?_
  · intro ww hS
    try dsimp only at hS
    go_simp
    try with_reducible rfl
    try omega
  try simp only [Act.put, List.setIfInBounds_toArray, List.set_cons_zero, List.set_cons_succ]
  refine wpAnyH_take (i := 22) (oi := ⟨some 70, _, _, _, _, _⟩) (v := .int .i64 77) rfl (by kernel_rfl) (by kernel_rfl) (by kernel_rfl) (fun _ _ _ h => h) (Or.inl ⟨by rfl, ?_⟩) hHeld ?_
  · intro ww hS
    try dsimp only at hS
    have X := is_last (((hS)).ri_ 1 rfl).is
    go_simp
    try with_reducible rfl
    try omega
  try simp only [Act.put, List.setIfInBounds_toArray, List.set_cons_zero, List.set_cons_succ]
  refine wpAnyH_take (i := 23) (oi := ⟨some 71, _, _, _, _, _⟩) (v := .bool true) rfl (by kernel_rfl) (by kernel_rfl) (by kernel_rfl) (fun _ _ _ h => h) (Or.inl ⟨by rfl, ?_⟩) hHeld ?_
  · intro ww hS
    try dsimp only at hS
    go_simp
    try with_reducible rfl
    try omega
  try simp only [Act.put, List.setIfInBounds_toArray, List.set_cons_zero, List.set_cons_succ]
  refine wpAnyH_take (i := 24) (oi := ⟨some 72, _, _, _, _, _⟩) (v := .bool true) rfl (by kernel_rfl) (by kernel_rfl) (by kernel_rfl) (fun _ _ _ h => h) (Or.inl ⟨by rfl, ?_⟩) hHeld ?_
  · intro ww hS
    try dsimp only at hS
    go_simp
    try with_reducible rfl
    try omega
  try simp only [Act.put, List.setIfInBounds_toArray, List.set_cons_zero, List.set_cons_succ]
  refine wpAnyH_take (i := 25) (oi := ⟨some 6, _, _, _, _, _⟩) (v := .bool true) rfl (by kernel_rfl) (by kernel_rfl) (by kernel_rfl) (fun _ _ _ h => h) (Or.inl ⟨by rfl, ?_⟩) hHeld ?_
  · intro ww hS
    try dsimp only at hS
    go_simp
    try with_reducible rfl
    try omega
  try simp only [Act.put, List.setIfInBounds_toArray, List.set_cons_zero, List.set_cons_succ]
  refine wpAnyH_done (by kernel_rfl) ?_ _
  clear hHeld
  go_wp2
  go_ret
  exact ⟨rfl, L.K⟩
set_option maxRecDepth 100000 in
set_option maxHeartbeats 4000000 in
theorem miss (ha : a < 4294967296) (h0 : IS .i64 lo w A n c zs) (hU : US w B m d ys) (hI : IS .u32 0 w h.A0 h.n0 h.c0 xs) (hxs : ∀ j, j < h.n0 → ∃ x : Nat, gi xs j = (x : Int) ∧ x < 4294967296) (hL : Lists 0 w h l) (hf : ∀ x ∈ l.ses, (Lit.int .u64 x).wf = true) (hw : s.word < 18446744073709551616) (hk : s.kind = 3 ∨ s.kind = 4) (hph : s.phase = 9) (hq : gt ys s.leaf.toNat ≠ s.word) :
    Calls Try.prog 5 #[.agg #[.int .u32 (a : Int), .int .i64 p, .slice A n c, .int .i64 sh, .int .i64 wo, .int .i64 qu, .int .i64 tr], .slice B m d, .agg (opv h s)] w (RetBo true w) := by
  replace hxs := Lib.hid hxs
  replace hf := Lib.hid hf
  have TGv := fun w => Lib.hid (gives_at (w := w) (h := h) hk (.inr hph))
  replace hk := Lib.hid hk
  replace hq := Lib.hid hq
  rcases s with ⟨kind, addr, err, aad, used, phase, shard, sought, leaf, bit, word, full, at_, tries, item, stamp⟩
  rcases h with ⟨A0, n0, c0, A1, n1, c1, A2, n2, c2, A3, n3, c3⟩
  try dsimp only at *
  subst hph
  go_enter Try.func5, Try.ntmps5
  go_upto_region 1 with (fail)
  have L := Loc.start w
  replace L := ((L).alloc #[.int .u32 (a : Int), .int .i64 p, .slice A n c, .int .i64 sh, .int .i64 wo, .int .i64 qu, .int .i64 tr] 27).alloc (opv ⟨A0, n0, c0, A1, n1, c1, A2, n2, c2, A3, n3, c3⟩ ⟨kind, addr, err, aad, used, 9, shard, sought, leaf, bit, word, full, at_, tries, item, stamp⟩) 42
  try simp only [World.size_alloc] at L
  try dsimp only [nput] at L
  generalize ((w).alloc (.cells #[.int .u32 (a : Int), .int .i64 p, .slice A n c, .int .i64 sh, .int .i64 wo, .int .i64 qu, .int .i64 tr] 27)).alloc (.cells (opv ⟨A0, n0, c0, A1, n1, c1, A2, n2, c2, A3, n3, c3⟩ ⟨kind, addr, err, aad, used, 9, shard, sought, leaf, bit, word, full, at_, tries, item, stamp⟩) 42) = w1 at L ⊢
  generalize w.heap.size + 1 = gO at L ⊢
  generalize w.heap.size = gH at L ⊢
  go_wp2_with fail
  refine (awake_any _).mono ?_
  rintro e w2 ⟨rfl, K'⟩
  replace L := L.over K'
  go_wp2_with (first | (refine wpList_load_want (by rfl) 27 (.tmp 3) rfl gH rfl _ _ (0, 0) _ (L.bk_ 1 rfl) Try.underlying27 rfl cf_sz ?_) | (refine wpList_load_want (by rfl) 42 (.tmp 5) rfl gO rfl _ _ (0, 0) _ (L.bk_ 0 rfl) Try.underlying42 rfl op_sz ?_))
  refine (fits13_any ha (h0.below L.K) (hI.below L.K) hxs.out).mono ?_
  rintro e w3 ⟨bo, rfl, hB, K'⟩
  replace L := L.over K'
  rcases bo with _ | _
  · clear hB
    go_wp2_with fail
    refine (awake_any _).mono ?_
    rintro e w92 ⟨rfl, K'⟩
    replace L := L.over K'
    go_wp2
    go_ret
    exact ⟨rfl, L.K⟩
  replace hB := hB rfl
  obtain ⟨M, lf, bt, hM, hm4, hmm, hW, hlf, hlv, hbt, hb5, hof, hs0, hs1⟩ := hB
  dsimp only at hlf hbt hs0 hs1
  obtain ⟨⟨q1, q2⟩, ⟨q3, q4⟩, ⟨q5, q6⟩, ⟨q7, q8, q9, q10⟩, hin⟩ := hW.out
  dsimp only at q1 q2 q3 q4 q5 q6 q7 q8 q9 q10 hin
  clear hW
  subst hlf hbt
  have hM4 := hM.most
  have hl3 := lv_le hM4
  have hm6 : m ≤ 65536 ∧ lf < m := by have : tv M = (lv M + 63) / 64 := rfl; omega
  obtain ⟨hm6, hlm⟩ := hm6
  replace hmm := Lib.hid hmm
  have hm0 : 0 < m := by omega
  replace hq := Lib.hid (by simpa using hq.out : gt ys lf ≠ word)
  go_wp2_with (refine wpList_load_want (by rfl) 42 (.tmp 5) rfl gO rfl _ _ (0, 0) _ (L.bk_ 0 rfl) Try.underlying42 rfl op_sz ?_)
  refine ((TGv _).out).mono ?_
  rintro e w4 ⟨rfl, K'⟩
  replace L := L.over K'
  obtain ⟨i0, hi, hz0, hz1, hz2⟩ := info_parts u64_info
  have hown : (w4.alloc (.cells #[] 40)).ownsRow w4.heap.size 40 1 (.slice (some ⟨w4.heap.size, 0, none⟩) 0 0) 0 [] := World.ownsRow_lit w4 #[] 0 (Nat.le_refl _) (by unfold maxLen; omega) rfl
  have Ka := below_alloc w4 (.cells #[] 40)
  have hUc := hU.below L.K
  obtain ⟨gV, dV, wRV, hapV, OR, KR⟩ := run_append_us (P := Try.prog) Try.underlying28 hi hz0 hz1 hz2 hown (hUc.below Ka) hm6 (Nat.le_refl _) Ka.size 28
  have KC := Ka.trans KR
  have UC := OR.us hUc.fit
  have gC := OR.ge
  clear hown Ka KR OR hi hz0 hz1 hz2 hUc
  go_upto_region 4 with (at_builtin; refine wpList_append_run rfl (.tmp 25) (.tmp 26) 28 rfl _ _ _ _ rfl rfl hapV ?_)
  replace L := (L.over KC).us_av (fun i b e b' o e' => by injection e' with e'; injection e' with e1; have := L.lts i b e; omega) UC
  clear KC UC hapV
  obtain ⟨i0, hi, hz0, hz1, hz2⟩ := info_parts cloneE_info
  obtain ⟨Aq, cq, wE1, AE, cE, wE2, hap1, hap2, hE, KE⟩ := two_app (P := Try.prog) (x := 77) (n := n2) Try.underlying37 hi hz0 hz1 hz2 (hL.i2.below L.K) (by show n2 + 1 ≤ 65536; omega) 37
  clear hi hz0 hz1 hz2
  have O_7 := L.at_ 0 7 rfl (v := .slice A2 n2 c2) rfl
  have O_z := L.lt 0 rfl
  go_upto_region 5 with (first | (at_builtin; refine wpList_append_run rfl (.tmp 28) (.tmp 31) 37 rfl _ _ _ _ rfl rfl hap1 ?_) | (at_builtin; refine wpList_append_run rfl (.tmp 32) (.tmp 33) 37 rfl _ _ _ _ rfl rfl hap2 ?_))
  clear O_7 O_z
  replace L := (L.over KE).ri_new L.lts hE
  clear KE hE hap1 hap2
  obtain ⟨be, oe, hAe, _, _⟩ := (L.ri_ 0 rfl).is.get (show n2 < n2 + 1 by omega)
  subst hAe
  have hcE : n2 + 1 ≤ cE := (L.ri_ 0 rfl).is.cap
  have gE1 : ¬ (cE < n2) := by omega
  have gE2 : (n2 : Int) ≤ cE := by omega
  have gE3 : ¬ (cE < n2 + 1) := by omega
  have gE4 : (n2 : Int) < ((n2 + 1 : Nat) : Int) := by omega
  clear hcE
  go_upto_region 6 with (first | (refine wpList_load_row rfl 42 (.tmp 5) rfl gO rfl _ _ (0, 0) _ (L.bk_ 0 rfl) Try.underlying42 rfl op_sz ?_) | (refine wpList_store_row rfl 42 (.tmp 9) (.tmp 35) rfl _ _ rfl (show _ = Value.agg (opv ⟨A0, n0, c0, A1, n1, c1, A2, n2, c2, A3, n3, c3⟩ ⟨kind, addr, err, aad, used, 9, shard, sought, (lf : Int), (bt : Int), word, full, at_, tries, item, stamp⟩) from rfl) _ _ (Bk.new _ _ _) op_sz rfl (opv_one _ _) ?_))
  try rw [World.setRow_alloc_new]
  replace L := (L).alloc (opv ⟨A0, n0, c0, A1, n1, c1, A2, n2, c2, A3, n3, c3⟩ ⟨kind, addr, err, aad, used, 9, shard, sought, (lf : Int), (bt : Int), word, full, at_, tries, item, stamp⟩) 42
  try simp only [World.size_alloc] at L
  try dsimp only [nput] at L
  generalize (wE2).alloc (.cells (opv ⟨A0, n0, c0, A1, n1, c1, A2, n2, c2, A3, n3, c3⟩ ⟨kind, addr, err, aad, used, 9, shard, sought, (lf : Int), (bt : Int), word, full, at_, tries, item, stamp⟩) 42) = w5 at L ⊢
  generalize wE2.heap.size = gP at L ⊢
  have O_7 := L.at_ 1 7 rfl (v := .slice A2 n2 c2) rfl
  have P_7 := L.at_ 0 7 rfl (v := .slice A2 n2 c2) rfl
  have O_z := L.lt 1 rfl
  have P_z := L.lt 0 rfl
  have P_f7 := L.fz 0 7 rfl
  have ne_P_O := L.ne_ 0 1 rfl rfl (by decide)
  go_upto_region 7 with fail
  clear O_7 P_7 O_z P_z P_f7 ne_P_O
  replace L := ((L.set 0 7 rfl (.slice (some ⟨be, oe, none⟩) n2 cE)).is 0 (opv ⟨A0, n0, c0, A1, n1, c1, (some ⟨be, oe, none⟩), n2, cE, A3, n3, c3⟩ ⟨kind, addr, err, aad, used, 9, shard, sought, (lf : Int), (bt : Int), word, full, at_, tries, item, stamp⟩) rfl)
  try dsimp only [nput] at L
  generalize (w5).setCell ⟨gP, 7, none⟩ (.slice (some ⟨be, oe, none⟩) n2 cE) = w6 at L ⊢
  go_wp2_with (first | (refine wpList_load_row rfl 27 (.tmp 3) rfl gH rfl _ _ (0, 0) _ (L.bk_ 2 rfl) Try.underlying27 rfl cf_sz ?_) | (refine wpList_load_row rfl 42 (.tmp 9) rfl gP rfl _ _ (0, 0) _ (L.bk_ 0 rfl) Try.underlying42 rfl op_sz ?_))
  refine (dstep_miss (a := a) (p := p) (sh := sh) (wo := wo) (qu := qu) (tr := tr) (A := A) (n := n) (c := c) (w := w6) (lo := 0) (lo2 := 0) (h := ⟨A0, n0, c0, A1, n1, c1, (some ⟨be, oe, none⟩), n2, cE, A3, n3, c3⟩) (s := ⟨kind, addr, err, aad, used, 9, shard, sought, (lf : Int), (bt : Int), word, full, at_, tries, item, stamp⟩) (l := l) (xs := xs) (M := M) ⟨(hL.below L.K).i0, (hL.below L.K).i1, (is_front (L.ri_ 0 rfl).is).lower (Nat.zero_le _), (hL.below L.K).i3⟩ ha hM (hI.below L.K) (by show n0 ≤ 65536; omega) hin (by show n1 ≤ 65536; omega) (by show n2 ≤ 65000; omega) (by show n3 ≤ 65536; omega) (L.us_ 1 rfl) rfl hlm rfl hb5 hk.out rfl hm6 hw hq.out).mono ?_
  rintro e w7 ⟨A0_1, c0_1, A1_1, n1_1, c1_1, A2_1, n2_1, c2_1, A3_1, n3_1, c3_1, B_1, d_1, rfl, U, L', hA, K'⟩
  have Lb := L.lts
  replace L := L.over K'
  replace L := L.us_av (fun i b e => hA b.1 (Lb i b e) (L.ap_ 1 rfl hm0 i b e)) U
  clear Lb
  try dsimp only [lF, List.cons_append, List.nil_append] at L
  clear L' U hA
  go_upto_region 8 with (fail)
  replace L := L.drew
  refine wp_region_held_drew (S := fun w' => Loc w w' [(gP, 42, opv ⟨A0, n0, c0, A1, n1, c1, (some ⟨be, oe, none⟩), n2, cE, A3, n3, c3⟩ ⟨kind, addr, err, aad, used, 9, shard, sought, (lf : Int), (bt : Int), word, full, at_, tries, item, stamp⟩), (gO, 42, opv ⟨A0, n0, c0, A1, n1, c1, A2, n2, c2, A3, n3, c3⟩ ⟨kind, addr, err, aad, used, 9, shard, sought, (lf : Int), (bt : Int), word, full, at_, tries, item, stamp⟩), (gH, 27, #[.int .u32 (a : Int), .int .i64 p, .slice A n c, .int .i64 sh, .int .i64 wo, .int .i64 qu, .int .i64 tr])] [uF B_1 m d_1 ys, rF .i64 36 wRV.heap.size (some ⟨be, oe, none⟩) (n2 + 1) cE (l.ers ++ [77]), uF (some ⟨gV, 0, none⟩) m dV ys]) (by kernel_rfl) L (fun hHeld => ?_)
  generalize w7.drew = v8 at hHeld L ⊢
  refine wpAnyH_take (i := 0) (oi := ⟨some 48, _, _, _, _, _⟩) (v := .slice (some ⟨gV, 0, none⟩) m dV) rfl (by kernel_rfl) (by kernel_rfl) (by kernel_rfl) (fun _ _ _ h => h) (Or.inl ⟨by rfl, ?_⟩) hHeld ?_
  · intro ww hS
    try dsimp only at hS
    go_simp
    try with_reducible rfl
    try omega
  try simp only [Act.put, List.setIfInBounds_toArray, List.set_cons_zero, List.set_cons_succ]
  refine wpAnyH_take (i := 1) (oi := ⟨some 49, _, _, _, _, _⟩) (v := .slice B m d) rfl (by kernel_rfl) (by kernel_rfl) (by kernel_rfl) (fun _ _ _ h => h) (Or.inl ⟨by rfl, ?_⟩) hHeld ?_
  · intro ww hS
    try dsimp only at hS
    go_simp
    try with_reducible rfl
    try omega
  try simp only [Act.put, List.setIfInBounds_toArray, List.set_cons_zero, List.set_cons_succ]
  refine wpAnyH_ready (rs := [2]) (by kernel_rfl) (by simp) ?_
  refine AllReadyH.cons (o := ⟨some 50, _, _, _, _, _⟩) rfl (fun K0 hK => ?_) AllReadyH.nil
  go_simp
  refine (same_any (L.us_ 2 rfl) (hU.below L.K) hm6).mono ?_
  rintro e w9 ⟨rfl, K'⟩
  replace L := L.over K'
  refine hK.out _ _ L (fun hHeld' => ?_)
  clear hHeld hK K0
  have hHeld := hHeld'
  clear hHeld'
  clear K'
  try simp only [Act.put, List.setIfInBounds_toArray, List.set_cons_zero, List.set_cons_succ]
  refine wpAnyH_take (i := 3) (oi := ⟨some 51, _, _, _, _, _⟩) (v := .bool true) rfl (by kernel_rfl) (by kernel_rfl) (by kernel_rfl) (fun _ _ _ h => h) (Or.inl ⟨by rfl, ?_⟩) hHeld ?_
  · intro ww hS
    try dsimp only at hS
    go_simp
    try with_reducible rfl
    try omega
  try simp only [Act.put, List.setIfInBounds_toArray, List.set_cons_zero, List.set_cons_succ]
  refine wpAnyH_take (i := 4) (oi := ⟨some 52, _, _, _, _, _⟩) (v := .slice (some ⟨be, oe, none⟩) (n2 + 1) cE) rfl (by kernel_rfl) (by kernel_rfl) (by kernel_rfl) (fun _ _ _ h => h) (Or.inl ⟨by rfl, ?_⟩) hHeld ?_
  · intro ww hS
    try dsimp only at hS
    go_simp
    try with_reducible rfl
    try omega
  try simp only [Act.put, List.setIfInBounds_toArray, List.set_cons_zero, List.set_cons_succ]
  refine wpAnyH_take (i := 5) (oi := ⟨some 53, _, _, _, _, _⟩) (v := .pointer (some ⟨gO, 3, none⟩)) rfl (by kernel_rfl) (by kernel_rfl) (by kernel_rfl) (fun _ _ _ h => h) (Or.inl ⟨by rfl, ?_⟩) hHeld ?_
  · intro ww hS
    try dsimp only at hS
    go_simp
    try with_reducible rfl
    try omega
  try simp only [Act.put, List.setIfInBounds_toArray, List.set_cons_zero, List.set_cons_succ]
  refine wpAnyH_take (i := 6) (oi := ⟨some 54, _, _, _, _, _⟩) (v := .pointer (some ⟨gO, 7, none⟩)) rfl (by kernel_rfl) (by kernel_rfl) (by kernel_rfl) (fun _ _ _ h => h) (Or.inl ⟨by rfl, ?_⟩) hHeld ?_
  · intro ww hS
    try dsimp only at hS
    go_simp
    try with_reducible rfl
    try omega
  try simp only [Act.put, List.setIfInBounds_toArray, List.set_cons_zero, List.set_cons_succ]
  refine wpAnyH_take (i := 7) (oi := ⟨some 55, _, _, _, _, _⟩) (v := .slice A2 n2 c2) rfl (by kernel_rfl) (by kernel_rfl) (by kernel_rfl) (fun _ _ _ h => h) (Or.inl ⟨by rfl, ?_⟩) hHeld ?_
  · intro ww hS
    try dsimp only at hS
    have O_7 := (hS).at_ 1 7 rfl (v := .slice A2 n2 c2) rfl
    have O_z := (hS).lt 1 rfl
    go_simp
    try with_reducible rfl
    try omega
  try simp only [Act.put, List.setIfInBounds_toArray, List.set_cons_zero, List.set_cons_succ]
  refine wpAnyH_take (i := 8) (oi := ⟨some 56, _, _, _, _, _⟩) (v := ?_) rfl (by kernel_rfl) (by kernel_rfl) (by kernel_rfl) (fun _ _ _ h => h) (Or.inl ⟨by rfl, ?_⟩) hHeld ?_
  rotate_left
  · intro ww hS
    try dsimp only at hS
    go_simp
    try with_reducible rfl
    try omega
  try simp only [Act.put, List.setIfInBounds_toArray, List.set_cons_zero, List.set_cons_succ]
  refine wpAnyH_take (i := 9) (oi := ⟨some 57, _, _, _, _, _⟩) (v := .slice (some ⟨be, oe, none⟩) n2 cE) rfl (by kernel_rfl) (by kernel_rfl) (by kernel_rfl) (fun _ _ _ h => h) (Or.inl ⟨by rfl, ?_⟩) hHeld ?_
  · intro ww hS
    try dsimp only at hS
    go_simp
    try with_reducible rfl
    try omega
  try simp only [Act.put, List.setIfInBounds_toArray, List.set_cons_zero, List.set_cons_succ]
  refine wpAnyH_take (i := 10) (oi := ⟨some 58, _, _, _, _, _⟩) (v := .pointer (some ⟨gO, 3, none⟩)) rfl (by kernel_rfl) (by kernel_rfl) (by kernel_rfl) (fun _ _ _ h => h) (Or.inl ⟨by rfl, ?_⟩) hHeld ?_
  · intro ww hS
    try dsimp only at hS
    go_simp
    try with_reducible rfl
    try omega
  try simp only [Act.put, List.setIfInBounds_toArray, List.set_cons_zero, List.set_cons_succ]
  refine wpAnyH_take (i := 11) (oi := ⟨some 59, _, _, _, _, _⟩) (v := .pointer (some ⟨gO, 7, none⟩)) rfl (by kernel_rfl) (by kernel_rfl) (by kernel_rfl) (fun _ _ _ h => h) (Or.inl ⟨by rfl, ?_⟩) hHeld ?_
  · intro ww hS
    try dsimp only at hS
    go_simp
    try with_reducible rfl
    try omega
  try simp only [Act.put, List.setIfInBounds_toArray, List.set_cons_zero, List.set_cons_succ]
  refine wpAnyH_take (i := 12) (oi := ⟨some 60, _, _, _, _, _⟩) (v := .slice A2 n2 c2) rfl (by kernel_rfl) (by kernel_rfl) (by kernel_rfl) (fun _ _ _ h => h) (Or.inl ⟨by rfl, ?_⟩) hHeld ?_
  · intro ww hS
    try dsimp only at hS
    have O_7 := (hS).at_ 1 7 rfl (v := .slice A2 n2 c2) rfl
    have O_z := (hS).lt 1 rfl
    go_simp
    try with_reducible rfl
    try omega
  try simp only [Act.put, List.setIfInBounds_toArray, List.set_cons_zero, List.set_cons_succ]
  refine wpAnyH_ready (rs := [13]) (by kernel_rfl) (by simp) ?_
  refine AllReadyH.cons (o := ⟨some 61, _, _, _, _, _⟩) rfl (fun K0 hK => ?_) AllReadyH.nil
  go_simp
  refine (errs_same (is_front (L.ri_ 1 rfl).is) (hL.i2.below L.K) (by show n2 ≤ 65536; omega)).mono ?_
  rintro e w10 ⟨rfl, K'⟩
  replace L := L.over K'
  refine hK.out _ _ L (fun hHeld' => ?_)
  clear hHeld hK K0
  have hHeld := hHeld'
  clear hHeld'
  clear K'
  try simp only [Act.put, List.setIfInBounds_toArray, List.set_cons_zero, List.set_cons_succ]
  refine wpAnyH_take (i := 14) (oi := ⟨some 62, _, _, _, _, _⟩) (v := .bool true) rfl (by kernel_rfl) (by kernel_rfl) (by kernel_rfl) (fun _ _ _ h => h) (Or.inl ⟨by rfl, ?_⟩) hHeld ?_
  · intro ww hS
    try dsimp only at hS
    go_simp
    try with_reducible rfl
    try omega
  try simp only [Act.put, List.setIfInBounds_toArray, List.set_cons_zero, List.set_cons_succ]
  refine wpAnyH_take (i := 15) (oi := ⟨some 63, _, _, _, _, _⟩) (v := .bool true) rfl (by kernel_rfl) (by kernel_rfl) (by kernel_rfl) (fun _ _ _ h => h) (Or.inl ⟨by rfl, ?_⟩) hHeld ?_
  · intro ww hS
    try dsimp only at hS
    go_simp
    try with_reducible rfl
    try omega
  try simp only [Act.put, List.setIfInBounds_toArray, List.set_cons_zero, List.set_cons_succ]
  refine wpAnyH_take (i := 16) (oi := ⟨some 64, _, _, _, _, _⟩) (v := .slice (some ⟨be, oe, none⟩) (n2 + 1) cE) rfl (by kernel_rfl) (by kernel_rfl) (by kernel_rfl) (fun _ _ _ h => h) (Or.inl ⟨by rfl, ?_⟩) hHeld ?_
  · intro ww hS
    try dsimp only at hS
    go_simp
    try with_reducible rfl
    try omega
  try simp only [Act.put, List.setIfInBounds_toArray, List.set_cons_zero, List.set_cons_succ]
  refine wpAnyH_take (i := 17) (oi := ⟨some 65, _, _, _, _, _⟩) (v := .pointer (some ⟨gO, 3, none⟩)) rfl (by kernel_rfl) (by kernel_rfl) (by kernel_rfl) (fun _ _ _ h => h) (Or.inl ⟨by rfl, ?_⟩) hHeld ?_
  · intro ww hS
    try dsimp only at hS
    go_simp
    try with_reducible rfl
    try omega
  try simp only [Act.put, List.setIfInBounds_toArray, List.set_cons_zero, List.set_cons_succ]
  refine wpAnyH_take (i := 18) (oi := ⟨some 66, _, _, _, _, _⟩) (v := .pointer (some ⟨gO, 7, none⟩)) rfl (by kernel_rfl) (by kernel_rfl) (by kernel_rfl) (fun _ _ _ h => h) (Or.inl ⟨by rfl, ?_⟩) hHeld ?_
  · intro ww hS
    try dsimp only at hS
    go_simp
    try with_reducible rfl
    try omega
  try simp only [Act.put, List.setIfInBounds_toArray, List.set_cons_zero, List.set_cons_succ]
  refine wpAnyH_take (i := 19) (oi := ⟨some 67, _, _, _, _, _⟩) (v := .slice A2 n2 c2) rfl (by kernel_rfl) (by kernel_rfl) (by kernel_rfl) (fun _ _ _ h => h) (Or.inl ⟨by rfl, ?_⟩) hHeld ?_
  · intro ww hS
    try dsimp only at hS
    have O_7 := (hS).at_ 1 7 rfl (v := .slice A2 n2 c2) rfl
    have O_z := (hS).lt 1 rfl
    go_simp
    try with_reducible rfl
    try omega
  try simp only [Act.put, List.setIfInBounds_toArray, List.set_cons_zero, List.set_cons_succ]
  refine wpAnyH_take (i := 20) (oi := ⟨some 68, _, _, _, _, _⟩) (v := ?_) rfl (by kernel_rfl) (by kernel_rfl) (by kernel_rfl) (fun _ _ _ h => h) (Or.inl ⟨by rfl, ?_⟩) hHeld ?_
  rotate_left
  · intro ww hS
    try dsimp only at hS
    go_simp
    try with_reducible rfl
    try omega
  try simp only [Act.put, List.setIfInBounds_toArray, List.set_cons_zero, List.set_cons_succ]
  refine wpAnyH_take (i := 21) (oi := ⟨some 69, _, _, _, _, _⟩) (v := .pointer (some ⟨be, oe + n2, none⟩)) rfl (by kernel_rfl) (by kernel_rfl) (by kernel_rfl) (fun _ _ _ h => h) (Or.inl ⟨by rfl, ?_⟩) hHeld ?_
  · intro ww hS
    try dsimp only at hS
    go_simp
    try with_reducible rfl
    try omega
  try simp only [Act.put, List.setIfInBounds_toArray, List.set_cons_zero, List.set_cons_succ]
  refine wpAnyH_take (i := 22) (oi := ⟨some 70, _, _, _, _, _⟩) (v := .int .i64 77) rfl (by kernel_rfl) (by kernel_rfl) (by kernel_rfl) (fun _ _ _ h => h) (Or.inl ⟨by rfl, ?_⟩) hHeld ?_
  · intro ww hS
    try dsimp only at hS
    have X := is_last (((hS)).ri_ 1 rfl).is
    go_simp
    try with_reducible rfl
    try omega
  try simp only [Act.put, List.setIfInBounds_toArray, List.set_cons_zero, List.set_cons_succ]
  refine wpAnyH_take (i := 23) (oi := ⟨some 71, _, _, _, _, _⟩) (v := .bool true) rfl (by kernel_rfl) (by kernel_rfl) (by kernel_rfl) (fun _ _ _ h => h) (Or.inl ⟨by rfl, ?_⟩) hHeld ?_
  · intro ww hS
    try dsimp only at hS
    go_simp
    try with_reducible rfl
    try omega
  try simp only [Act.put, List.setIfInBounds_toArray, List.set_cons_zero, List.set_cons_succ]
  refine wpAnyH_take (i := 24) (oi := ⟨some 72, _, _, _, _, _⟩) (v := .bool true) rfl (by kernel_rfl) (by kernel_rfl) (by kernel_rfl) (fun _ _ _ h => h) (Or.inl ⟨by rfl, ?_⟩) hHeld ?_
  · intro ww hS
    try dsimp only at hS
    go_simp
    try with_reducible rfl
    try omega
  try simp only [Act.put, List.setIfInBounds_toArray, List.set_cons_zero, List.set_cons_succ]
  refine wpAnyH_take (i := 25) (oi := ⟨some 6, _, _, _, _, _⟩) (v := .bool true) rfl (by kernel_rfl) (by kernel_rfl) (by kernel_rfl) (fun _ _ _ h => h) (Or.inl ⟨by rfl, ?_⟩) hHeld ?_
  · intro ww hS
    try dsimp only at hS
    go_simp
    try with_reducible rfl
    try omega
  try simp only [Act.put, List.setIfInBounds_toArray, List.set_cons_zero, List.set_cons_succ]
  refine wpAnyH_done (by kernel_rfl) ?_ _
  clear hHeld
  go_wp2
  go_ret
  exact ⟨rfl, L.K⟩
theorem main (ha : a < 4294967296) (h0 : IS .i64 lo w A n c zs) (hU : US w B m d ys) (hI : IS .u32 0 w h.A0 h.n0 h.c0 xs) (hxs : ∀ j, j < h.n0 → ∃ x : Nat, gi xs j = (x : Int) ∧ x < 4294967296) (hL : Lists 0 w h l) (hf : ∀ x ∈ l.ses, (Lit.int .u64 x).wf = true) (hw : s.word < 18446744073709551616) :
    Calls Try.prog 5 #[.agg #[.int .u32 (a : Int), .int .i64 p, .slice A n c, .int .i64 sh, .int .i64 wo, .int .i64 qu, .int .i64 tr], .slice B m d, .agg (opv h s)] w (RetBo true w) := by
  by_cases hn : (s.kind = 3 ∨ s.kind = 4) ∧ (s.phase = 8 ∨ s.phase = 9)
  · obtain ⟨hk, h8 | h9⟩ := hn
    · cases hb : (gt ys s.leaf.toNat).testBit s.bit.toNat with
      | true => exact used ha h0 hU hI hxs hL hf hw hk h8 hb
      | false => exact free ha h0 hU hI hxs hL hf hw hk h8 hb
    · by_cases hq : gt ys s.leaf.toNat = s.word
      · exact hit ha h0 hU hI hxs hL hf hw hk h9 hq
      · exact miss ha h0 hU hI hxs hL hf hw hk h9 hq
  · exact other ha h0 hU hI hxs hL hf hw hn
end
theorem walk (a p : Int) (A : Option Addr) (n c : Nat) (z : List Int) (sh wo qu tr : Int) (B : Option Addr) (m d : Nat) (zb : List Int) (h : Hd) (s : Sc) (y0 y1 y2 y3 : List Int) (w : World) (wa : (Lit.int .u32 a).wf = true) (wr : IsRow .i64 w A n c z) (wb : IsRow .u64 w B m d zb) (hw : s.word < 18446744073709551616) (r0 : IsRow .u32 w h.A0 h.n0 h.c0 y0) (r1 : IsRow .u32 w h.A1 h.n1 h.c1 y1) (r2 : IsRow .i64 w h.A2 h.n2 h.c2 y2) (r3 : IsRow .u64 w h.A3 h.n3 h.c3 y3) :
    Calls Try.prog 5 #[.agg #[.int .u32 a, .int .i64 p, .slice A n c, .int .i64 sh, .int .i64 wo, .int .i64 qu, .int .i64 tr], .slice B m d, .agg (opv h s)] w fun e w' => e = .returned (.bool true) ∧ Below w.heap.size w w' := by
  obtain ⟨a, rfl, ha⟩ := wf_u32 wa
  obtain ⟨zs, h0, _⟩ := IS.of_row wr
  obtain ⟨ys, hU⟩ := US.of_row wb
  obtain ⟨xs, hI, hx⟩ := IS.of_row r0
  obtain ⟨ads, i1, _⟩ := IS.of_row r1
  obtain ⟨ers, i2, _⟩ := IS.of_row r2
  obtain ⟨ses, i3, hf⟩ := IS.of_row r3
  have hxs : ∀ j, j < h.n0 → ∃ x : Nat, gi xs j = (x : Int) ∧ x < 4294967296 := fun j hj => by
    have hl := hI.len
    obtain ⟨X, e, hX⟩ := wf_u32 (hx _ (gi_mem (show j < xs.length by omega)))
    exact ⟨X, e, hX⟩
  exact main ha h0 hU hI hxs (l := ⟨xs, ads, ers, ses⟩) ⟨hI, i1, i2, i3⟩ hf hw
end Go.Proofs.Ytafdlofmgefdoaa.dropKeeps
