/-
  What op.Own answers, the errors as a row of the call's own. Conditions: at most 65536 items a list.
-/
import Derived.Test.YtafdlofmgefdoaaDropMath
namespace Go.Proofs.Ytafdlofmgefdoaa
open Go.RowKit
set_option linter.unusedVariables false
set_option maxRecDepth 100000 in
set_option maxHeartbeats 2000000 in
theorem own_row {w : World} {lo : Nat} {h : Hd} {s : Sc} {l : Ls} (hL : Lists lo w h l) (h0 : h.n0 ≤ 65536) (h1 : h.n1 ≤ 65536) (h2 : h.n2 ≤ 65536) (h3 : h.n3 ≤ 65536) :
    Calls Try.prog 24 #[.agg (opv h s)] w (RetOwnR h s l w) := by
  rcases s with ⟨kind, addr, err, aad, used, phase, shard, sought, leaf, bit, word, full, at_, tries, item, stamp⟩
  rcases h with ⟨A0, n0, c0, A1, n1, c1, A2, n2, c2, A3, n3, c3⟩
  try dsimp only at *
  go_enter Try.func24, Try.ntmps24
  go_upto_region 1 with (fail)
  have L := Loc.start w
  replace L := ((L).alloc (opv ⟨A0, n0, c0, A1, n1, c1, A2, n2, c2, A3, n3, c3⟩ ⟨kind, addr, err, aad, used, phase, shard, sought, leaf, bit, word, full, at_, tries, item, stamp⟩) 42).alloc #[.int .i64 0, .int .u32 0, .slice none 0 0, .int .i64 0, .int .u32 0, .bool false, .slice none 0 0, .slice none 0 0, .int .i64 0, .int .i64 0, .int .i64 0, .int .i64 0, .int .i64 0, .int .u64 0, .bool false, .slice none 0 0, .int .i64 0, .int .i64 0, .int .i64 0, .int .i64 0] 42
  try simp only [World.size_alloc] at L
  replace L := L.is 0 (opv hd0 sc0) rfl
  try dsimp only [nput] at L
  generalize ((w).alloc (.cells (opv ⟨A0, n0, c0, A1, n1, c1, A2, n2, c2, A3, n3, c3⟩ ⟨kind, addr, err, aad, used, phase, shard, sought, leaf, bit, word, full, at_, tries, item, stamp⟩) 42)).alloc (.cells #[.int .i64 0, .int .u32 0, .slice none 0 0, .int .i64 0, .int .u32 0, .bool false, .slice none 0 0, .slice none 0 0, .int .i64 0, .int .i64 0, .int .i64 0, .int .i64 0, .int .i64 0, .int .u64 0, .bool false, .slice none 0 0, .int .i64 0, .int .i64 0, .int .i64 0, .int .i64 0] 42) = w1 at L ⊢
  generalize w.heap.size + 1 = gR at L ⊢
  generalize w.heap.size = gO at L ⊢
  have O_2 := L.at_ 1 2 rfl (v := .slice A0 n0 c0) rfl
  have O_z := L.lt 1 rfl
  go_wp2_with fail
  have KSi0 := L.K.size
  refine (clone32_any (hL.i0.below L.K) h0).mono ?_
  rintro e w2 ⟨A0', c0', rfl, I', K'⟩
  clear O_2 O_z
  have Lb := L.lts
  replace L := L.over K'
  replace L := L.is_new Lb I'
  clear Lb
  try dsimp only [lF, List.cons_append, List.nil_append] at L
  clear I'
  have O_2 := L.at_ 1 2 rfl (v := .slice A0 n0 c0) rfl
  have O_z := L.lt 1 rfl
  have O_f2 := L.fz 1 2 rfl
  go_upto_region 2 with fail
  clear O_2 O_z O_f2
  replace L := ((L.set 1 2 rfl (.slice A0' n0 c0')).is 1 (opv ⟨A0', n0, c0', A1, n1, c1, A2, n2, c2, A3, n3, c3⟩ ⟨kind, addr, err, aad, used, phase, shard, sought, leaf, bit, word, full, at_, tries, item, stamp⟩) rfl)
  try dsimp only [nput] at L
  generalize (w2).setCell ⟨gO, 2, none⟩ (.slice A0' n0 c0') = w3 at L ⊢
  have O_6 := L.at_ 1 6 rfl (v := .slice A1 n1 c1) rfl
  have O_z := L.lt 1 rfl
  go_wp2_with fail
  have KSi1 := L.K.size
  refine (clone32_any (hL.i1.below L.K) h1).mono ?_
  rintro e w4 ⟨A1', c1', rfl, I', K'⟩
  clear O_6 O_z
  have Lb := L.lts
  replace L := L.over K'
  replace L := L.is_new Lb I'
  clear Lb
  try dsimp only [lF, List.cons_append, List.nil_append] at L
  clear I'
  have O_6 := L.at_ 1 6 rfl (v := .slice A1 n1 c1) rfl
  have O_z := L.lt 1 rfl
  have O_f6 := L.fz 1 6 rfl
  go_upto_region 3 with fail
  clear O_6 O_z O_f6
  replace L := ((L.set 1 6 rfl (.slice A1' n1 c1')).is 1 (opv ⟨A0', n0, c0', A1', n1, c1', A2, n2, c2, A3, n3, c3⟩ ⟨kind, addr, err, aad, used, phase, shard, sought, leaf, bit, word, full, at_, tries, item, stamp⟩) rfl)
  try dsimp only [nput] at L
  generalize (w4).setCell ⟨gO, 6, none⟩ (.slice A1' n1 c1') = w5 at L ⊢
  have O_7 := L.at_ 1 7 rfl (v := .slice A2 n2 c2) rfl
  have O_z := L.lt 1 rfl
  go_wp2_with fail
  have KSr2 := L.K.size
  have I0 := L.is_ 0 rfl
  have J0 := L.is_ 1 rfl
  refine (cloneE_row (hL.i2.below L.K) h2).mono ?_
  rintro e w6 ⟨A2', c2', rfl, R', K'⟩
  clear O_7 O_z
  have Lb := L.lts
  replace L := L.over K'
  replace L := L.ri_new Lb R'
  clear Lb
  try dsimp only [lF, List.cons_append, List.nil_append] at L
  have sep0 := R'.sep_old (lo' := w.heap.size) J0 (Nat.le_refl _)
  have sep1 := R'.sep_old (lo' := w.heap.size) I0 (Nat.le_refl _)
  clear I0 J0 R'
  have O_7 := L.at_ 1 7 rfl (v := .slice A2 n2 c2) rfl
  have O_z := L.lt 1 rfl
  have O_f7 := L.fz 1 7 rfl
  go_upto_region 4 with fail
  clear O_7 O_z O_f7
  replace L := ((L.set 1 7 rfl (.slice A2' n2 c2')).is 1 (opv ⟨A0', n0, c0', A1', n1, c1', A2', n2, c2', A3, n3, c3⟩ ⟨kind, addr, err, aad, used, phase, shard, sought, leaf, bit, word, full, at_, tries, item, stamp⟩) rfl)
  try dsimp only [nput] at L
  generalize (w6).setCell ⟨gO, 7, none⟩ (.slice A2' n2 c2') = w7 at L ⊢
  have O_15 := L.at_ 1 15 rfl (v := .slice A3 n3 c3) rfl
  have O_z := L.lt 1 rfl
  go_wp2_with fail
  have KSi3 := L.K.size
  have R0 := L.ri_ 0 rfl
  refine (clone64_any (hL.i3.below L.K) h3).mono ?_
  rintro e w8 ⟨A3', c3', rfl, I', K'⟩
  clear O_15 O_z
  have Lb := L.lts
  replace L := L.over K'
  replace L := L.is_new Lb I'
  clear Lb
  try dsimp only [lF, List.cons_append, List.nil_append] at L
  have sep3 := R0.sep_new (lo' := w.heap.size) I' (Nat.le_refl _)
  clear I' R0
  have O_15 := L.at_ 1 15 rfl (v := .slice A3 n3 c3) rfl
  have O_z := L.lt 1 rfl
  have O_f15 := L.fz 1 15 rfl
  go_upto_region 5 with fail
  clear O_15 O_z O_f15
  replace L := ((L.set 1 15 rfl (.slice A3' n3 c3')).is 1 (opv ⟨A0', n0, c0', A1', n1, c1', A2', n2, c2', A3', n3, c3'⟩ ⟨kind, addr, err, aad, used, phase, shard, sought, leaf, bit, word, full, at_, tries, item, stamp⟩) rfl)
  try dsimp only [nput] at L
  generalize (w8).setCell ⟨gO, 15, none⟩ (.slice A3' n3 c3') = w9 at L ⊢
  go_wp2_with (first | (refine wpList_load_row rfl 42 (.tmp 1) rfl gO rfl _ _ (0, 0) _ (L.bk_ 1 rfl) Try.underlying42 rfl op_sz ?_) | (refine wpList_store_row rfl 42 (.tmp 2) (.tmp 25) rfl gR _ rfl rfl _ _ (L.bk_ 0 rfl) op_sz rfl (opv_one _ _) ?_))
  replace L := (L.row 0 rfl (opv ⟨A0', n0, c0', A1', n1, c1', A2', n2, c2', A3', n3, c3'⟩ ⟨kind, addr, err, aad, used, phase, shard, sought, leaf, bit, word, full, at_, tries, item, stamp⟩))
  try dsimp only [nput] at L
  generalize (w9).setRow gR (opv ⟨A0', n0, c0', A1', n1, c1', A2', n2, c2', A3', n3, c3'⟩ ⟨kind, addr, err, aad, used, phase, shard, sought, leaf, bit, word, full, at_, tries, item, stamp⟩) = w10 at L ⊢
  refine bodyPost_ret (v := .agg (opv ⟨A0', n0, c0', A1', n1, c1', A2', n2, c2', A3', n3, c3'⟩ ⟨kind, addr, err, aad, used, phase, shard, sought, leaf, bit, word, full, at_, tries, item, stamp⟩)) ?_ rfl ?_
  · exact results_cell_row (fn := Try.f24) Try.results24 _ _ gR _ _ (0, 0) _ rfl (L.bk_ 0 rfl) Try.underlying42 rfl op_sz
  exact ⟨_, _, _, _, _, _, _, _, rfl, (L.is_ 3 rfl).lower KSi0, (L.is_ 2 rfl).lower KSi1, (L.ri_ 1 rfl).lower KSr2, (L.is_ 0 rfl).lower KSi3, sep0, sep1, sep3, L.K⟩
end Go.Proofs.Ytafdlofmgefdoaa
