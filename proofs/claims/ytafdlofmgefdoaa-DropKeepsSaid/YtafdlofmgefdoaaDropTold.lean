/-
  What the closure told answers. Conditions: at most 65000 errors, in a row of the call's own.
-/
import Derived.Test.YtafdlofmgefdoaaDropOwn
namespace Go.Proofs.Ytafdlofmgefdoaa
open Go.RowKit
set_option linter.unusedVariables false
section
variable {w w1 : World} {lo gO gK0 gK1 gK2 gK3 gK5 : Nat} {tK0 tK1 tK2 tK3 tK5 : TypeId} {dK0 dK1 dK2 dK3 dK5 : Array Value} {fs : List Fct} {h : Hd} {s : Sc} {es : List Int} {x : Int}
set_option maxRecDepth 100000 in
set_option maxHeartbeats 2000000 in
theorem told_bat (L : Loc w w1 [(gK0, tK0, dK0), (gK1, tK1, dK1), (gK2, tK2, dK2), (gK3, tK3, dK3), (gO, 42, opv h s), (gK5, tK5, dK5)] (rF .i64 36 lo h.A2 h.n2 h.c2 es :: fs)) (hsep : SepL (.slice h.A2 h.n2 h.c2) fs) (hlo : w.heap.size ≤ lo) (hlw : lo ≤ w1.heap.size) (hn : h.n2 ≤ 65000) (hk : s.kind = 4) :
    Calls Try.prog 26 #[.int .i64 x, .pointer (some ⟨gO, 0, none⟩)] w1 (RetTold h s (es ++ [x]) lo gO w (gK0, tK0, dK0) (gK1, tK1, dK1) (gK2, tK2, dK2) (gK3, tK3, dK3) (gK5, tK5, dK5) fs) := by
  obtain ⟨i0, hi, hz0, hz1, hz2⟩ := info_parts cloneE_info
  rcases s with ⟨kind, addr, err, aad, used, phase, shard, sought, leaf, bit, word, full, at_, tries, item, stamp⟩
  rcases h with ⟨A0, n0, c0, A1, n1, c1, A2, n2, c2, A3, n3, c3⟩
  try dsimp only at *
  subst hk
  go_enter Try.func26, Try.ntmps26
  go_upto_region 1 with (fail)
  replace L := (L).alloc #[.int .i64 0, .int .u32 0, .slice none 0 0, .int .i64 0, .int .u32 0, .bool false, .slice none 0 0, .slice none 0 0, .int .i64 0, .int .i64 0, .int .i64 0, .int .i64 0, .int .i64 0, .int .u64 0, .bool false, .slice none 0 0, .int .i64 0, .int .i64 0, .int .i64 0, .int .i64 0] 42
  try simp only [World.size_alloc] at L
  replace L := L.is 0 (opv hd0 sc0) rfl
  try dsimp only [nput] at L
  generalize (w1).alloc (.cells #[.int .i64 0, .int .u32 0, .slice none 0 0, .int .i64 0, .int .u32 0, .bool false, .slice none 0 0, .slice none 0 0, .int .i64 0, .int .i64 0, .int .i64 0, .int .i64 0, .int .i64 0, .int .u64 0, .bool false, .slice none 0 0, .int .i64 0, .int .i64 0, .int .i64 0, .int .i64 0] 42) = w6 at L ⊢
  generalize w1.heap.size = gR at L hlw ⊢
  obtain ⟨AE, cE, wAE, hapE, LA⟩ := L.app1 (P := Try.prog) (x := x) hsep hlo (by omega) (Nat.le_of_lt (Nat.lt_of_le_of_lt hlw (L.lt 0 rfl))) Try.underlying37 hi hz0 hz1 hz2 37
  have O_0 := L.at_ 5 0 rfl (v := .int .i64 4) rfl
  have O_7 := L.at_ 5 7 rfl (v := .slice A2 n2 c2) rfl
  have O_z := L.lt 5 rfl
  have Oa_f7 := LA.fz 5 7 rfl
  have Oa_7 := LA.at_ 5 7 rfl (v := .slice A2 n2 c2) rfl
  have Oa_z7 := LA.lt 5 rfl
  go_upto_region 4 with (at_builtin; refine wpList_append_run rfl (.tmp 10) (.tmp 12) 37 rfl _ _ _ _ rfl rfl hapE ?_)
  clear O_0 O_7 O_z Oa_f7 Oa_7 Oa_z7
  replace L := ((LA.set 5 7 rfl (.slice AE (n2 + 1) cE)).is 5 (opv ⟨A0, n0, c0, A1, n1, c1, AE, (n2 + 1), cE, A3, n3, c3⟩ ⟨4, addr, err, aad, used, phase, shard, sought, leaf, bit, word, full, at_, tries, item, stamp⟩) rfl)
  clear LA hapE
  try dsimp only [nput] at L
  generalize (wAE).setCell ⟨gO, 7, none⟩ (.slice AE (n2 + 1) cE) = w7 at L ⊢
  go_wp2_with (first | (refine wpList_load_row rfl 42 (.tmp 1) rfl gO rfl _ _ (0, 0) _ (L.bk_ 5 rfl) Try.underlying42 rfl op_sz ?_) | (refine wpList_store_row rfl 42 (.tmp 3) (.tmp 19) rfl gR _ rfl rfl _ _ (L.bk_ 0 rfl) op_sz rfl (opv_one _ _) ?_))
  replace L := (L.row 0 rfl (opv ⟨A0, n0, c0, A1, n1, c1, AE, (n2 + 1), cE, A3, n3, c3⟩ ⟨4, addr, err, aad, used, phase, shard, sought, leaf, bit, word, full, at_, tries, item, stamp⟩))
  try dsimp only [nput] at L
  generalize (w7).setRow gR (opv ⟨A0, n0, c0, A1, n1, c1, AE, (n2 + 1), cE, A3, n3, c3⟩ ⟨4, addr, err, aad, used, phase, shard, sought, leaf, bit, word, full, at_, tries, item, stamp⟩) = w8 at L ⊢
  refine bodyPost_ret (v := .agg (opv ⟨A0, n0, c0, A1, n1, c1, AE, (n2 + 1), cE, A3, n3, c3⟩ ⟨4, addr, err, aad, used, phase, shard, sought, leaf, bit, word, full, at_, tries, item, stamp⟩)) ?_ rfl ?_
  · exact results_cell_row (fn := Try.f26) Try.results26 _ _ gR _ _ (0, 0) _ rfl (L.bk_ 0 rfl) Try.underlying42 rfl op_sz
  exact ⟨_, _, _, rfl, Nat.le_refl _, L.del 0⟩
set_option maxRecDepth 100000 in
set_option maxHeartbeats 2000000 in
theorem told_one (L : Loc w w1 [(gK0, tK0, dK0), (gK1, tK1, dK1), (gK2, tK2, dK2), (gK3, tK3, dK3), (gO, 42, opv h s), (gK5, tK5, dK5)] (rF .i64 36 lo h.A2 h.n2 h.c2 es :: fs)) (hsep : SepL (.slice h.A2 h.n2 h.c2) fs) (hlo : w.heap.size ≤ lo) (hlw : lo ≤ w1.heap.size) (hn : h.n2 ≤ 65000) (hk : s.kind ≠ 4) :
    Calls Try.prog 26 #[.int .i64 x, .pointer (some ⟨gO, 0, none⟩)] w1 (RetTold h (erO s x) es lo gO w (gK0, tK0, dK0) (gK1, tK1, dK1) (gK2, tK2, dK2) (gK3, tK3, dK3) (gK5, tK5, dK5) fs) := by
  have e0 : (s.kind == 4) = false := by simp [hk]
  clear hk
  rcases s with ⟨kind, addr, err, aad, used, phase, shard, sought, leaf, bit, word, full, at_, tries, item, stamp⟩
  rcases h with ⟨A0, n0, c0, A1, n1, c1, A2, n2, c2, A3, n3, c3⟩
  try dsimp only at *
  go_enter Try.func26, Try.ntmps26
  go_upto_region 1 with (fail)
  replace L := (L).alloc #[.int .i64 0, .int .u32 0, .slice none 0 0, .int .i64 0, .int .u32 0, .bool false, .slice none 0 0, .slice none 0 0, .int .i64 0, .int .i64 0, .int .i64 0, .int .i64 0, .int .i64 0, .int .u64 0, .bool false, .slice none 0 0, .int .i64 0, .int .i64 0, .int .i64 0, .int .i64 0] 42
  try simp only [World.size_alloc] at L
  replace L := L.is 0 (opv hd0 sc0) rfl
  try dsimp only [nput] at L
  generalize (w1).alloc (.cells #[.int .i64 0, .int .u32 0, .slice none 0 0, .int .i64 0, .int .u32 0, .bool false, .slice none 0 0, .slice none 0 0, .int .i64 0, .int .i64 0, .int .i64 0, .int .i64 0, .int .i64 0, .int .u64 0, .bool false, .slice none 0 0, .int .i64 0, .int .i64 0, .int .i64 0, .int .i64 0] 42) = w6 at L ⊢
  generalize w1.heap.size = gR at L hlw ⊢
  have O_0 := L.at_ 5 0 rfl (v := .int .i64 kind) rfl
  have O_3 := L.at_ 5 3 rfl (v := .int .i64 err) rfl
  have O_z := L.lt 5 rfl
  have O_f3 := L.fz 5 3 rfl
  go_upto_region 4 with fail
  clear O_0 O_3 O_z O_f3
  replace L := ((L.set 5 3 rfl (.int .i64 x)).is 5 (opv ⟨A0, n0, c0, A1, n1, c1, A2, n2, c2, A3, n3, c3⟩ ⟨kind, addr, x, aad, used, phase, shard, sought, leaf, bit, word, full, at_, tries, item, stamp⟩) rfl)
  try dsimp only [nput] at L
  generalize (w6).setCell ⟨gO, 3, none⟩ (.int .i64 x) = w7 at L ⊢
  go_wp2_with (first | (refine wpList_load_row rfl 42 (.tmp 1) rfl gO rfl _ _ (0, 0) _ (L.bk_ 5 rfl) Try.underlying42 rfl op_sz ?_) | (refine wpList_store_row rfl 42 (.tmp 3) (.tmp 19) rfl gR _ rfl rfl _ _ (L.bk_ 0 rfl) op_sz rfl (opv_one _ _) ?_))
  replace L := (L.row 0 rfl (opv ⟨A0, n0, c0, A1, n1, c1, A2, n2, c2, A3, n3, c3⟩ ⟨kind, addr, x, aad, used, phase, shard, sought, leaf, bit, word, full, at_, tries, item, stamp⟩))
  try dsimp only [nput] at L
  generalize (w7).setRow gR (opv ⟨A0, n0, c0, A1, n1, c1, A2, n2, c2, A3, n3, c3⟩ ⟨kind, addr, x, aad, used, phase, shard, sought, leaf, bit, word, full, at_, tries, item, stamp⟩) = w8 at L ⊢
  refine bodyPost_ret (v := .agg (opv ⟨A0, n0, c0, A1, n1, c1, A2, n2, c2, A3, n3, c3⟩ ⟨kind, addr, x, aad, used, phase, shard, sought, leaf, bit, word, full, at_, tries, item, stamp⟩)) ?_ rfl ?_
  · exact results_cell_row (fn := Try.f26) Try.results26 _ _ gR _ _ (0, 0) _ rfl (L.bk_ 0 rfl) Try.underlying42 rfl op_sz
  exact ⟨_, _, _, rfl, Nat.le_succ _, L.del 0⟩
theorem told_any (L : Loc w w1 [(gK0, tK0, dK0), (gK1, tK1, dK1), (gK2, tK2, dK2), (gK3, tK3, dK3), (gO, 42, opv h s), (gK5, tK5, dK5)] (rF .i64 36 lo h.A2 h.n2 h.c2 es :: fs)) (hsep : SepL (.slice h.A2 h.n2 h.c2) fs) (hlo : w.heap.size ≤ lo) (hlw : lo ≤ w1.heap.size) (hn : h.n2 ≤ 65000) :
    Calls Try.prog 26 #[.int .i64 x, .pointer (some ⟨gO, 0, none⟩)] w1 (RetTold h (erS s x) (erE s es x) lo gO w (gK0, tK0, dK0) (gK1, tK1, dK1) (gK2, tK2, dK2) (gK3, tK3, dK3) (gK5, tK5, dK5) fs) := by
  by_cases hk : s.kind = 4
  · rw [erS_bat hk, erE_bat hk]; exact told_bat L hsep hlo hlw hn hk
  · rw [erS_one hk, erE_one hk]; exact told_one L hsep hlo hlw hn hk
end
end Go.Proofs.Ytafdlofmgefdoaa
