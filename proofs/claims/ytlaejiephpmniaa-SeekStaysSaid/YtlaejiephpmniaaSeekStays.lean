/-
  The walk of the law SeekStays: for every configuration, cells and operation it answers true.
-/
import Derived.Test.YtlaejiephpmniaaSeekFits
import Derived.Test.YtlaejiephpmniaaSeekMath2
import Derived.Test.YtlaejiephpmniaaHintSame
namespace Go.Proofs.Ytlaejiephpmniaa.seekStays
open Go.RowKit
set_option linter.unusedVariables false
section
variable {w : World} {lo a M m d ns : Nat} {p sh wo qu tr : Int} {A B : Option Addr} {n c : Nat} {zs : List Int} {ys : List Nat} {h : Hd} {s : Sc} {l : Ls}
set_option maxRecDepth 100000 in
set_option maxHeartbeats 4000000 in
theorem main (ha : a < 4294967296) (h0 : IS .i64 lo w A n c zs) (hU : US w B m d ys) (hL : Lists 0 w h l) (hf : ∀ x ∈ l.ses, (Lit.int .u64 x).wf = true) (hw : s.word < 18446744073709551616) :
    Calls Try.prog 5 #[.agg #[.int .u32 (a : Int), .int .i64 p, .slice A n c, .int .i64 sh, .int .i64 wo, .int .i64 qu, .int .i64 tr], .slice B m d, .agg (opv h s)] w (RetBo true w) := by
  replace hf := Lib.hid hf
  rcases s with ⟨kind, addr, err, aad, used, phase, shard, sought, leaf, bit, word, full, at_, tries, item, stamp⟩
  rcases h with ⟨A0, n0, c0, A1, n1, c1, A2, n2, c2, A3, n3, c3⟩
  try dsimp only at *
  go_enter Try.func5, Try.ntmps5
  go_upto_region 1 with (fail)
  have L := Loc.start w
  replace L := ((L).alloc #[.int .u32 (a : Int), .int .i64 p, .slice A n c, .int .i64 sh, .int .i64 wo, .int .i64 qu, .int .i64 tr] 27).alloc (opv ⟨A0, n0, c0, A1, n1, c1, A2, n2, c2, A3, n3, c3⟩ ⟨kind, addr, err, aad, used, phase, shard, sought, leaf, bit, word, full, at_, tries, item, stamp⟩) 41
  try simp only [World.size_alloc] at L
  try dsimp only [nput] at L
  generalize ((w).alloc (.cells #[.int .u32 (a : Int), .int .i64 p, .slice A n c, .int .i64 sh, .int .i64 wo, .int .i64 qu, .int .i64 tr] 27)).alloc (.cells (opv ⟨A0, n0, c0, A1, n1, c1, A2, n2, c2, A3, n3, c3⟩ ⟨kind, addr, err, aad, used, phase, shard, sought, leaf, bit, word, full, at_, tries, item, stamp⟩) 41) = w1 at L ⊢
  generalize w.heap.size + 1 = gO at L ⊢
  generalize w.heap.size = gH at L ⊢
  go_wp2_with fail
  refine (awake_any _).mono ?_
  rintro e w2 ⟨rfl, K'⟩
  replace L := L.over K'
  go_wp2_with (first | (refine wpList_load_want (by rfl) 27 (.tmp 3) rfl gH rfl _ _ (0, 0) _ (L.bk_ 1 rfl) Try.underlying27 rfl cf_sz ?_) | (refine wpList_load_want (by rfl) 41 (.tmp 5) rfl gO rfl _ _ (0, 0) _ (L.bk_ 0 rfl) Try.underlying41 rfl op_sz ?_))
  refine (fits15_any ha (h0.below L.K)).mono ?_
  rintro e w3 ⟨bo, rfl, hB, K'⟩
  replace L := L.over K'
  rcases bo with _ | _
  · clear hB
    go_wp2_with fail
    refine (awake_any _).mono ?_
    rintro e w92 ⟨rfl, K'⟩
    replace L := L.over K'
    go_wp2
    go_ret
    exact ⟨rfl, L.K⟩
  replace hB := hB rfl
  obtain ⟨M, hM, hm4, hmm, q1, q2, q3, q4, q5, q6, q7, q8, q9, q10, q11, q12, q13⟩ := hB
  dsimp only at q1 q2 q3 q4 q5 q6 q7 q8 q9 q10 q11
  subst q1
  obtain ⟨ns, hns⟩ : ∃ ns : Nat, sh = (ns : Int) := ⟨sh.toNat, by omega⟩
  obtain ⟨hd, hhd⟩ : ∃ k : Nat, shard = (k : Int) := ⟨shard.toNat, by omega⟩
  obtain ⟨k, hk⟩ : ∃ k : Nat, sought = (k : Int) := ⟨sought.toNat, by omega⟩
  obtain ⟨tt, htt⟩ : ∃ k : Nat, at_ = (k : Int) := ⟨at_.toNat, by omega⟩
  subst hns
  have hM4 := hM.most
  have hl3 := lv_le hM4
  have ht3 := tv_le hM4
  have hm6 : m ≤ 65536 ∧ lv M + tv M < m := by omega
  obtain ⟨hm6, hmt⟩ := hm6
  replace hmm := Lib.hid hmm
  have hm0 : 0 < m := by omega
  obtain ⟨s2, hs2⟩ : ∃ s2, s2 = skS (ns : Int) M ys (ct (lv M) ns ((hd + k) % ns)) (ct (lv M) ns ((hd + k) % ns + 1)) ⟨kind, addr, err, aad, used, 1, shard, sought, leaf, bit, word, full, at_, tries, item, stamp⟩ := ⟨_, rfl⟩
  obtain ⟨l2, hl2⟩ : ∃ l2, l2 = skL (ns : Int) M ys (ct (lv M) ns ((hd + k) % ns)) (ct (lv M) ns ((hd + k) % ns + 1)) ⟨kind, addr, err, aad, used, 1, shard, sought, leaf, bit, word, full, at_, tries, item, stamp⟩ l := ⟨_, rfl⟩
  have TK : ∀ w C e, US w C m e ys → Lists 0 w ⟨A0, n0, c0, A1, n1, c1, A2, n2, c2, A3, n3, c3⟩ l → Hid (Calls Try.prog 11 #[.agg #[.int .u32 (a : Int), .int .i64 p, .slice A n c, .int .i64 (ns : Int), .int .i64 wo, .int .i64 qu, .int .i64 tr], .slice C m e, .agg (opv ⟨A0, n0, c0, A1, n1, c1, A2, n2, c2, A3, n3, c3⟩ ⟨kind, addr, err, aad, used, 1, shard, sought, leaf, bit, word, full, at_, tries, item, stamp⟩)] w (RetSk s2 l2 w)) := fun w C e U hL => by have := sstep_any (w := w) (lo := 0) (a := a) (M := M) (ns := ns) (hd := hd) (k := k) (tt := tt) (p := p) (wo := wo) (qu := qu) (tr := tr) (A := A) (n := n) (c := c) (h := ⟨A0, n0, c0, A1, n1, c1, A2, n2, c2, A3, n3, c3⟩) (s := ⟨kind, addr, err, aad, used, 1, shard, sought, leaf, bit, word, full, at_, tries, item, stamp⟩) (l := l) hL (by show n0 ≤ 65536; omega) (by show n1 ≤ 65536; omega) (by show n2 ≤ 65536; omega) (by show n3 ≤ 65536; omega) U hmt hw rfl ha hM (by omega) (by omega) hhd (by omega) hk (by omega) htt (by omega); rw [hs2, hl2]; exact this
  have hkp := skS_keep (sh := (ns : Int)) (M := M) (ys := ys) (a := ct (lv M) ns ((hd + k) % ns)) (b := ct (lv M) ns ((hd + k) % ns + 1)) (s := ⟨kind, addr, err, aad, used, 1, shard, sought, leaf, bit, word, full, at_, tries, item, stamp⟩) rfl
  rw [← hs2] at hkp
  have hlk := skL_keep (sh := (ns : Int)) (M := M) (ys := ys) (a := ct (lv M) ns ((hd + k) % ns)) (b := ct (lv M) ns ((hd + k) % ns + 1)) (s := ⟨kind, addr, err, aad, used, 1, shard, sought, leaf, bit, word, full, at_, tries, item, stamp⟩) (l := l)
  rw [← hl2] at hlk
  obtain ⟨hq1, hq2⟩ := hkp
  dsimp only at hq1 hq2
  clear hs2 hl2
  have e1 : IntKind.i64.wrap (sought + 1) = sought + 1 := IntWalk.i64_in _ (by omega)
  clear hhd hk htt
  replace hq1 := Lib.hid hq1
  replace hlk := Lib.hid hlk
  obtain ⟨i0, hi, hz0, hz1, hz2⟩ := info_parts u64_info
  have hown : (w3.alloc (.cells #[] 39)).ownsRow w3.heap.size 39 1 (.slice (some ⟨w3.heap.size, 0, none⟩) 0 0) 0 [] := World.ownsRow_lit w3 #[] 0 (Nat.le_refl _) (by unfold maxLen; omega) rfl
  have Ka := below_alloc w3 (.cells #[] 39)
  have hUc := hU.below L.K
  obtain ⟨gV, dV, wRV, hapV, OR, KR⟩ := run_append_us (P := Try.prog) Try.underlying28 hi hz0 hz1 hz2 hown (hUc.below Ka) hm6 (Nat.le_refl _) Ka.size 28
  have KC := Ka.trans KR
  have UC := OR.us hUc.fit
  have gC := OR.ge
  clear hown Ka KR OR hi hz0 hz1 hz2 hUc
  go_upto_region 4 with (at_builtin; refine wpList_append_run rfl (.tmp 20) (.tmp 21) 28 rfl _ _ _ _ rfl rfl hapV ?_)
  replace L := (L.over KC).us_av (fun i b e b' o e' => by injection e' with e'; injection e' with e1; have := L.lts i b e; omega) UC
  clear KC UC hapV
  go_wp2_with (first | (refine wpList_load_row rfl 27 (.tmp 3) rfl gH rfl _ _ (0, 0) _ (L.bk_ 1 rfl) Try.underlying27 rfl cf_sz ?_) | (refine wpList_load_row rfl 41 (.tmp 5) rfl gO rfl _ _ (0, 0) _ (L.bk_ 0 rfl) Try.underlying41 rfl op_sz ?_))
  refine ((TK _ _ _ (L.us_ 0 rfl) (hL.below L.K)).out).mono ?_
  rintro e w4 ⟨⟨B0, m0, d0, B1, m1, d1, B2, m2, d2, B3, m3, d3⟩, rfl, L', K'⟩
  have L2' := L'
  have z0 : n0 = m0 := by have x1 := L'.i0.len; have x2 := hL.i0.len; dsimp only at x1 x2; rw [hlk.out.1] at x1; omega
  have z1 : n1 = m1 := by have x1 := L'.i1.len; have x2 := hL.i1.len; dsimp only at x1 x2; rw [hlk.out.2.1] at x1; omega
  have z2 : n2 = m2 := by have x1 := L'.i2.len; have x2 := hL.i2.len; dsimp only at x1 x2; rw [hlk.out.2.2] at x1; omega
  subst z0 z1 z2
  have L2' : Lists _ _ ⟨B0, n0, d0, B1, n1, d1, B2, n2, d2, B3, m3, d3⟩ ⟨l.rqs, l.ads, l.ers, l2.ses⟩ := ⟨hlk.out.1 ▸ L'.i0, hlk.out.2.1 ▸ L'.i1, hlk.out.2.2 ▸ L'.i2, L'.i3⟩
  have Lb := L.lts
  replace L := L.over K'
  replace L := L.lists Lb (show Lists _ _ ⟨B0, n0, d0, B1, n1, d1, B2, n2, d2, B3, m3, d3⟩ ⟨l.rqs, l.ads, l.ers, l2.ses⟩ from L2')
  clear Lb
  try dsimp only [lF, List.cons_append, List.nil_append] at L
  clear L' L2'
  go_upto_region 5 with (refine wpList_store_row rfl 41 (.tmp 8) (.tmp 26) rfl _ _ rfl (show _ = Value.agg (opv ⟨B0, n0, d0, B1, n1, d1, B2, n2, d2, B3, m3, d3⟩ s2) from rfl) _ _ (Bk.new _ _ _) op_sz rfl (opv_one _ _) ?_)
  try rw [World.setRow_alloc_new]
  replace L := (L).alloc (opv ⟨B0, n0, d0, B1, n1, d1, B2, n2, d2, B3, m3, d3⟩ s2) 41
  try simp only [World.size_alloc] at L
  try dsimp only [nput] at L
  generalize (w4).alloc (.cells (opv ⟨B0, n0, d0, B1, n1, d1, B2, n2, d2, B3, m3, d3⟩ s2) 41) = w5 at L ⊢
  generalize w4.heap.size = gP at L ⊢
  go_upto_region 6 with (first | (refine wpList_load_row rfl 41 (.tmp 8) rfl gP rfl _ _ (0, 0) _ (L.bk_ 0 rfl) Try.underlying41 rfl op_sz ?_) | (refine wpList_store_row rfl 41 (.tmp 9) (.tmp 27) rfl _ _ rfl (show _ = Value.agg (opv ⟨B0, n0, d0, B1, n1, d1, B2, n2, d2, B3, m3, d3⟩ s2) from rfl) _ _ (Bk.new _ _ _) op_sz rfl (opv_one _ _) ?_))
  try rw [World.setRow_alloc_new]
  replace L := (L).alloc (opv ⟨B0, n0, d0, B1, n1, d1, B2, n2, d2, B3, m3, d3⟩ s2) 41
  try simp only [World.size_alloc] at L
  try dsimp only [nput] at L
  generalize (w5).alloc (.cells (opv ⟨B0, n0, d0, B1, n1, d1, B2, n2, d2, B3, m3, d3⟩ s2) 41) = w6 at L ⊢
  generalize w5.heap.size = gQ at L ⊢
  have O_8 := L.at_ 2 8 rfl (v := .int .i64 1) rfl
  have Q_8 := L.at_ 0 8 rfl (v := .int .i64 s2.phase) rfl
  have O_z := L.lt 2 rfl
  have Q_z := L.lt 0 rfl
  have Q_f8 := L.fz 0 8 rfl
  have ne_Q_O := L.ne_ 0 2 rfl rfl (by decide)
  go_upto_region 7 with fail
  clear O_8 Q_8 O_z Q_z Q_f8 ne_Q_O
  replace L := ((L.set 0 8 rfl (.int .i64 1)).is 0 (opv ⟨B0, n0, d0, B1, n1, d1, B2, n2, d2, B3, m3, d3⟩ ⟨s2.kind, s2.addr, s2.err, s2.aad, s2.used, 1, s2.shard, s2.sought, s2.leaf, s2.bit, s2.word, s2.full, s2.at_, s2.tries, s2.item, s2.stamp⟩) rfl)
  try dsimp only [nput] at L
  generalize (w6).setCell ⟨gQ, 8, none⟩ (.int .i64 1) = w7 at L ⊢
  have O_10 := L.at_ 2 10 rfl (v := .int .i64 sought) rfl
  have Q_10 := L.at_ 0 10 rfl (v := .int .i64 s2.sought) rfl
  have O_z := L.lt 2 rfl
  have Q_z := L.lt 0 rfl
  have Q_f10 := L.fz 0 10 rfl
  have ne_Q_O := L.ne_ 0 2 rfl rfl (by decide)
  go_upto_region 8 with fail
  clear O_10 Q_10 O_z Q_z Q_f10 ne_Q_O
  replace L := ((L.set 0 10 rfl (.int .i64 sought)).is 0 (opv ⟨B0, n0, d0, B1, n1, d1, B2, n2, d2, B3, m3, d3⟩ ⟨s2.kind, s2.addr, s2.err, s2.aad, s2.used, 1, s2.shard, sought, s2.leaf, s2.bit, s2.word, s2.full, s2.at_, s2.tries, s2.item, s2.stamp⟩) rfl)
  try dsimp only [nput] at L
  generalize (w7).setCell ⟨gQ, 10, none⟩ (.int .i64 sought) = w8 at L ⊢
  have O_11 := L.at_ 2 11 rfl (v := .int .i64 leaf) rfl
  have Q_11 := L.at_ 0 11 rfl (v := .int .i64 s2.leaf) rfl
  have O_z := L.lt 2 rfl
  have Q_z := L.lt 0 rfl
  have Q_f11 := L.fz 0 11 rfl
  have ne_Q_O := L.ne_ 0 2 rfl rfl (by decide)
  go_upto_region 9 with fail
  clear O_11 Q_11 O_z Q_z Q_f11 ne_Q_O
  replace L := ((L.set 0 11 rfl (.int .i64 leaf)).is 0 (opv ⟨B0, n0, d0, B1, n1, d1, B2, n2, d2, B3, m3, d3⟩ ⟨s2.kind, s2.addr, s2.err, s2.aad, s2.used, 1, s2.shard, sought, leaf, s2.bit, s2.word, s2.full, s2.at_, s2.tries, s2.item, s2.stamp⟩) rfl)
  try dsimp only [nput] at L
  generalize (w8).setCell ⟨gQ, 11, none⟩ (.int .i64 leaf) = w9 at L ⊢
  have O_13 := L.at_ 2 13 rfl (v := .int .u64 ((word : Nat) : Int)) rfl
  have Q_13 := L.at_ 0 13 rfl (v := .int .u64 ((s2.word : Nat) : Int)) rfl
  have O_z := L.lt 2 rfl
  have Q_z := L.lt 0 rfl
  have Q_f13 := L.fz 0 13 rfl
  have ne_Q_O := L.ne_ 0 2 rfl rfl (by decide)
  go_upto_region 10 with fail
  clear O_13 Q_13 O_z Q_z Q_f13 ne_Q_O
  replace L := ((L.set 0 13 rfl (.int .u64 ((word : Nat) : Int))).is 0 (opv ⟨B0, n0, d0, B1, n1, d1, B2, n2, d2, B3, m3, d3⟩ ⟨s2.kind, s2.addr, s2.err, s2.aad, s2.used, 1, s2.shard, sought, leaf, s2.bit, word, s2.full, s2.at_, s2.tries, s2.item, s2.stamp⟩) rfl)
  try dsimp only [nput] at L
  generalize (w9).setCell ⟨gQ, 13, none⟩ (.int .u64 ((word : Nat) : Int)) = w10 at L ⊢
  have O_16 := L.at_ 2 16 rfl (v := .int .i64 at_) rfl
  have Q_16 := L.at_ 0 16 rfl (v := .int .i64 s2.at_) rfl
  have O_z := L.lt 2 rfl
  have Q_z := L.lt 0 rfl
  have Q_f16 := L.fz 0 16 rfl
  have ne_Q_O := L.ne_ 0 2 rfl rfl (by decide)
  go_upto_region 11 with fail
  clear O_16 Q_16 O_z Q_z Q_f16 ne_Q_O
  replace L := ((L.set 0 16 rfl (.int .i64 at_)).is 0 (opv ⟨B0, n0, d0, B1, n1, d1, B2, n2, d2, B3, m3, d3⟩ ⟨s2.kind, s2.addr, s2.err, s2.aad, s2.used, 1, s2.shard, sought, leaf, s2.bit, word, s2.full, at_, s2.tries, s2.item, s2.stamp⟩) rfl)
  try dsimp only [nput] at L
  generalize (w10).setCell ⟨gQ, 16, none⟩ (.int .i64 at_) = w11 at L ⊢
  have O_15 := L.at_ 2 15 rfl (v := .slice A3 n3 c3) rfl
  have Q_15 := L.at_ 0 15 rfl (v := .slice B3 m3 d3) rfl
  have O_z := L.lt 2 rfl
  have Q_z := L.lt 0 rfl
  have Q_f15 := L.fz 0 15 rfl
  have ne_Q_O := L.ne_ 0 2 rfl rfl (by decide)
  go_wp2_with fail
  clear O_15 Q_15 O_z Q_z Q_f15 ne_Q_O
  replace L := ((L.set 0 15 rfl (.slice A3 n3 c3)).is 0 (opv ⟨B0, n0, d0, B1, n1, d1, B2, n2, d2, A3, n3, c3⟩ ⟨s2.kind, s2.addr, s2.err, s2.aad, s2.used, 1, s2.shard, sought, leaf, s2.bit, word, s2.full, at_, s2.tries, s2.item, s2.stamp⟩) rfl)
  try dsimp only [nput] at L
  generalize (w11).setCell ⟨gQ, 15, none⟩ (.slice A3 n3 c3) = w12 at L ⊢
  rw [hq1.out] at L
  rcases hq2 with ⟨hs, hp⟩ | ⟨hs, hp⟩
  · have f1 : (s2.sought == sought) = true := by simp [hs]
    have f3 : (s2.phase == 6) = false := by simp [hp]
    have f4 : decide ((ns : Int) ≤ s2.sought) = false := by simp; omega
    clear hs hp
    go_wp2_with fail
    refine (same_any (L.us_ 4 rfl) (hU.below L.K) hm6).mono ?_
    rintro e w13 ⟨rfl, K'⟩
    replace L := L.over K'
    go_wp2_with (first | (refine wpList_load_want (by rfl) 41 (.tmp 9) rfl gQ rfl _ _ (0, 0) _ (L.bk_ 0 rfl) Try.underlying41 rfl op_sz ?_) | (refine wpList_load_want (by rfl) 41 (.tmp 5) rfl gO rfl _ _ (0, 0) _ (L.bk_ 2 rfl) Try.underlying41 rfl op_sz ?_))
    refine (sameop_any (s := ⟨kind, addr, err, aad, used, 1, shard, sought, leaf, bit, word, full, at_, tries, item, stamp⟩) (l := l) (xs := l.rqs) ((L.is_ 0 rfl).lower (Nat.zero_le _)) (hL.below L.K).i0 ⟨(L.is_ 0 rfl).lower (Nat.zero_le _), (L.is_ 1 rfl).lower (Nat.zero_le _), (L.is_ 2 rfl).lower (Nat.zero_le _), (hL.below L.K).i3⟩ (hL.below L.K) hf.out (by omega) (by omega) (by omega) (by omega)).mono ?_
    rintro e w14 ⟨rfl, K'⟩
    replace L := L.over K'
    have P_10 := L.at_ 1 10 rfl (v := .int .i64 s2.sought) rfl
    have O_10 := L.at_ 2 10 rfl (v := .int .i64 sought) rfl
    have P_8 := L.at_ 1 8 rfl (v := .int .i64 s2.phase) rfl
    have H_3 := L.at_ 3 3 rfl (v := .int .i64 (ns : Int)) rfl
    have P_z := L.lt 1 rfl
    have O_z := L.lt 2 rfl
    have H_z := L.lt 3 rfl
    go_wp2_with fail
    clear P_10 O_10 P_8 H_3 P_z O_z H_z
    go_ret
    exact ⟨rfl, L.K⟩
  · have f1 : (s2.sought == sought) = false := by simp [hs]; omega
    have f2 : (s2.sought == sought + 1) = true := by simp [hs]
    obtain ⟨bo, f4⟩ : ∃ bo, decide ((ns : Int) ≤ s2.sought) = bo := ⟨_, rfl⟩
    rw [f4] at hp
    have f5 : (bo == bo) = true := by simp
    clear hs
    go_wp2_with fail
    refine (same_any (L.us_ 4 rfl) (hU.below L.K) hm6).mono ?_
    rintro e w13 ⟨rfl, K'⟩
    replace L := L.over K'
    go_wp2_with (first | (refine wpList_load_want (by rfl) 41 (.tmp 9) rfl gQ rfl _ _ (0, 0) _ (L.bk_ 0 rfl) Try.underlying41 rfl op_sz ?_) | (refine wpList_load_want (by rfl) 41 (.tmp 5) rfl gO rfl _ _ (0, 0) _ (L.bk_ 2 rfl) Try.underlying41 rfl op_sz ?_))
    refine (sameop_any (s := ⟨kind, addr, err, aad, used, 1, shard, sought, leaf, bit, word, full, at_, tries, item, stamp⟩) (l := l) (xs := l.rqs) ((L.is_ 0 rfl).lower (Nat.zero_le _)) (hL.below L.K).i0 ⟨(L.is_ 0 rfl).lower (Nat.zero_le _), (L.is_ 1 rfl).lower (Nat.zero_le _), (L.is_ 2 rfl).lower (Nat.zero_le _), (hL.below L.K).i3⟩ (hL.below L.K) hf.out (by omega) (by omega) (by omega) (by omega)).mono ?_
    rintro e w14 ⟨rfl, K'⟩
    replace L := L.over K'
    have P_10 := L.at_ 1 10 rfl (v := .int .i64 s2.sought) rfl
    have O_10 := L.at_ 2 10 rfl (v := .int .i64 sought) rfl
    have P_8 := L.at_ 1 8 rfl (v := .int .i64 s2.phase) rfl
    have H_3 := L.at_ 3 3 rfl (v := .int .i64 (ns : Int)) rfl
    have P_z := L.lt 1 rfl
    have O_z := L.lt 2 rfl
    have H_z := L.lt 3 rfl
    go_wp2_with fail
    clear P_10 O_10 P_8 H_3 P_z O_z H_z
    go_ret
    exact ⟨rfl, L.K⟩
end
theorem walk (a p : Int) (A : Option Addr) (n c : Nat) (z : List Int) (sh wo qu tr : Int) (B : Option Addr) (m d : Nat) (zb : List Int) (h : Hd) (s : Sc) (y0 y1 y2 y3 : List Int) (w : World) (wa : (Lit.int .u32 a).wf = true) (wr : IsRow .i64 w A n c z) (wb : IsRow .u64 w B m d zb) (hw : s.word < 18446744073709551616) (r0 : IsRow .u32 w h.A0 h.n0 h.c0 y0) (r1 : IsRow .u32 w h.A1 h.n1 h.c1 y1) (r2 : IsRow .i64 w h.A2 h.n2 h.c2 y2) (r3 : IsRow .u64 w h.A3 h.n3 h.c3 y3) :
    Calls Try.prog 5 #[.agg #[.int .u32 a, .int .i64 p, .slice A n c, .int .i64 sh, .int .i64 wo, .int .i64 qu, .int .i64 tr], .slice B m d, .agg (opv h s)] w fun e w' => e = .returned (.bool true) ∧ Below w.heap.size w w' := by
  obtain ⟨a, rfl, ha⟩ := wf_u32 wa
  obtain ⟨zs, h0, _⟩ := IS.of_row wr
  obtain ⟨ys, hU⟩ := US.of_row wb
  obtain ⟨xs, hI, _⟩ := IS.of_row r0
  obtain ⟨ads, i1, _⟩ := IS.of_row r1
  obtain ⟨ers, i2, _⟩ := IS.of_row r2
  obtain ⟨ses, i3, hf⟩ := IS.of_row r3
  exact main ha h0 hU (l := ⟨xs, ads, ers, ses⟩) ⟨hI, i1, i2, i3⟩ hf hw
end Go.Proofs.Ytlaejiephpmniaa.seekStays
