/-
  What op.Elsewhere answers: the operation in the next shard, or at the beginning of a sweep. Conditions: numbers that fit.
-/
import Derived.Test.YtgpbdoegcagdaaaHintOpen
namespace Go.Proofs.Ytgpbdoegcagdaaa
open Go.RowKit
set_option linter.unusedVariables false
/-- The operation whose shard has nothing: in the next one, or at the beginning of a sweep. -/
def seekS (s : Sc) : Sc := ⟨s.kind, s.addr, s.err, s.aad, s.used, 1, s.shard, s.sought + 1, s.leaf, s.bit, 0, s.full, 0, s.tries, s.item, s.stamp⟩
def firstS (s : Sc) : Sc := ⟨s.kind, s.addr, s.err, s.aad, s.used, 6, s.shard, s.sought + 1, s.leaf, s.bit, 0, s.full, 0, s.tries, s.item, s.stamp⟩
def elsS (sh : Int) (s : Sc) : Sc := if s.sought + 1 < sh then seekS s else firstS s
def elsH (sh : Int) (s : Sc) (h : Hd) : Hd := if s.sought + 1 < sh then h else ⟨h.A0, h.n0, h.c0, h.A1, h.n1, h.c1, h.A2, h.n2, h.c2, none, 0, 0⟩
def elsL (sh : Int) (s : Sc) (l : Ls) : Ls := if s.sought + 1 < sh then l else ⟨l.rqs, l.ads, l.ers, []⟩
theorem elsLists {sh : Int} {s : Sc} {lo : Nat} {w : World} {h : Hd} {l : Ls} (H : Lists lo w h l) : Lists lo w (elsH sh s h) (elsL sh s l) := by
  unfold elsH elsL
  split
  · exact H
  · exact ⟨H.i0, H.i1, H.i2, IS.none_ _ _ _⟩
section
variable {w : World} {lo a M m d lf bt : Nat} {p sh wo qu tr : Int} {A B : Option Addr} {n c : Nat} {xs : List Int} {ys : List Nat} {h : Hd} {s : Sc} {l : Ls}
set_option maxRecDepth 100000 in
set_option maxHeartbeats 2000000 in
theorem else_seek (hs0 : 0 ≤ s.sought) (hs1 : s.sought ≤ 65536) (hlt : s.sought + 1 < sh) :
    Calls Try.prog 44 #[.agg #[.int .u32 (a : Int), .int .i64 p, .slice A n c, .int .i64 sh, .int .i64 wo, .int .i64 qu, .int .i64 tr], .agg (opv h s)] w (RetOp h (seekS s) w) := by
  rcases s with ⟨kind, addr, err, aad, used, phase, shard, sought, leaf, bit, word, full, at_, tries, item, stamp⟩
  rcases h with ⟨A0, n0, c0, A1, n1, c1, A2, n2, c2, A3, n3, c3⟩
  dsimp only at *
  have e1 : IntKind.i64.wrap (sought + 1) = sought + 1 := IntWalk.i64_in _ (by omega)
  have e2 : decide (sought + 1 < sh) = true := by simp; omega
  clear hlt
  go_enter Try.func44, Try.ntmps44
  go_upto_region 1 with (fail)
  have L := Loc.start w
  replace L := (((L).alloc #[.int .u32 (a : Int), .int .i64 p, .slice A n c, .int .i64 sh, .int .i64 wo, .int .i64 qu, .int .i64 tr] 27).alloc (opv ⟨A0, n0, c0, A1, n1, c1, A2, n2, c2, A3, n3, c3⟩ ⟨kind, addr, err, aad, used, phase, shard, sought, leaf, bit, word, full, at_, tries, item, stamp⟩) 42).alloc #[.int .i64 0, .int .u32 0, .slice none 0 0, .int .i64 0, .int .u32 0, .bool false, .slice none 0 0, .slice none 0 0, .int .i64 0, .int .i64 0, .int .i64 0, .int .i64 0, .int .i64 0, .int .u64 0, .bool false, .slice none 0 0, .int .i64 0, .int .i64 0, .int .i64 0, .int .i64 0] 42
  try simp only [World.size_alloc] at L
  replace L := L.is 0 (opv hd0 sc0) rfl
  try dsimp only [nput] at L
  generalize (((w).alloc (.cells #[.int .u32 (a : Int), .int .i64 p, .slice A n c, .int .i64 sh, .int .i64 wo, .int .i64 qu, .int .i64 tr] 27)).alloc (.cells (opv ⟨A0, n0, c0, A1, n1, c1, A2, n2, c2, A3, n3, c3⟩ ⟨kind, addr, err, aad, used, phase, shard, sought, leaf, bit, word, full, at_, tries, item, stamp⟩) 42)).alloc (.cells #[.int .i64 0, .int .u32 0, .slice none 0 0, .int .i64 0, .int .u32 0, .bool false, .slice none 0 0, .slice none 0 0, .int .i64 0, .int .i64 0, .int .i64 0, .int .i64 0, .int .i64 0, .int .u64 0, .bool false, .slice none 0 0, .int .i64 0, .int .i64 0, .int .i64 0, .int .i64 0] 42) = w1 at L ⊢
  generalize w.heap.size + 1 + 1 = gR at L ⊢
  generalize w.heap.size + 1 = gO at L ⊢
  generalize w.heap.size = gH at L ⊢
  have O_10 := L.at_ 1 10 rfl (v := .int .i64 sought) rfl
  have O_13 := L.at_ 1 13 rfl (v := .int .u64 ((word : Nat) : Int)) rfl
  have O_16 := L.at_ 1 16 rfl (v := .int .i64 at_) rfl
  have O_z := L.lt 1 rfl
  have O_f10 := L.fz 1 10 rfl
  have O_f13 := L.fz 1 13 rfl
  have O_f16 := L.fz 1 16 rfl
  go_upto_region 2 with fail
  clear O_10 O_13 O_16 O_z O_f10 O_f13 O_f16
  replace L := ((((L.set 1 10 rfl (.int .i64 (sought + 1))).set 1 13 rfl (.int .u64 0)).set 1 16 rfl (.int .i64 0)).is 1 (opv ⟨A0, n0, c0, A1, n1, c1, A2, n2, c2, A3, n3, c3⟩ ⟨kind, addr, err, aad, used, phase, shard, sought + 1, leaf, bit, 0, full, 0, tries, item, stamp⟩) rfl)
  try dsimp only [nput] at L
  generalize (((w1).setCell ⟨gO, 10, none⟩ (.int .i64 (sought + 1))).setCell ⟨gO, 13, none⟩ (.int .u64 0)).setCell ⟨gO, 16, none⟩ (.int .i64 0) = w2 at L ⊢
  have O_10 := L.at_ 1 10 rfl (v := .int .i64 (sought + 1)) rfl
  have H_3 := L.at_ 2 3 rfl (v := .int .i64 sh) rfl
  have O_8 := L.at_ 1 8 rfl (v := .int .i64 phase) rfl
  have O_z := L.lt 1 rfl
  have H_z := L.lt 2 rfl
  have O_f8 := L.fz 1 8 rfl
  have ne_O_H := L.ne_ 1 2 rfl rfl (by decide)
  go_upto_region 4 with fail
  clear O_10 H_3 O_8 O_z H_z O_f8 ne_O_H
  replace L := ((L.set 1 8 rfl (.int .i64 1)).is 1 (opv ⟨A0, n0, c0, A1, n1, c1, A2, n2, c2, A3, n3, c3⟩ ⟨kind, addr, err, aad, used, 1, shard, sought + 1, leaf, bit, 0, full, 0, tries, item, stamp⟩) rfl)
  try dsimp only [nput] at L
  generalize (w2).setCell ⟨gO, 8, none⟩ (.int .i64 1) = w3 at L ⊢
  go_wp2_with (first | (refine wpList_load_row rfl 42 (.tmp 3) rfl gO rfl _ _ (0, 0) _ (L.bk_ 1 rfl) Try.underlying42 rfl op_sz ?_) | (refine wpList_store_row rfl 42 (.tmp 4) (.tmp 17) rfl gR _ rfl rfl _ _ (L.bk_ 0 rfl) op_sz rfl (opv_one _ _) ?_))
  replace L := (L.row 0 rfl (opv ⟨A0, n0, c0, A1, n1, c1, A2, n2, c2, A3, n3, c3⟩ ⟨kind, addr, err, aad, used, 1, shard, sought + 1, leaf, bit, 0, full, 0, tries, item, stamp⟩))
  try dsimp only [nput] at L
  generalize (w3).setRow gR (opv ⟨A0, n0, c0, A1, n1, c1, A2, n2, c2, A3, n3, c3⟩ ⟨kind, addr, err, aad, used, 1, shard, sought + 1, leaf, bit, 0, full, 0, tries, item, stamp⟩) = w4 at L ⊢
  refine bodyPost_ret (v := .agg (opv ⟨A0, n0, c0, A1, n1, c1, A2, n2, c2, A3, n3, c3⟩ ⟨kind, addr, err, aad, used, 1, shard, sought + 1, leaf, bit, 0, full, 0, tries, item, stamp⟩)) ?_ rfl ?_
  · exact results_cell_row (fn := Try.f44) Try.results44 _ _ gR _ _ (0, 0) _ rfl (L.bk_ 0 rfl) Try.underlying42 rfl op_sz
  exact ⟨rfl, L.K⟩
set_option maxRecDepth 100000 in
set_option maxHeartbeats 2000000 in
theorem else_first (hs0 : 0 ≤ s.sought) (hs1 : s.sought ≤ 65536) (hlt : ¬ s.sought + 1 < sh) :
    Calls Try.prog 44 #[.agg #[.int .u32 (a : Int), .int .i64 p, .slice A n c, .int .i64 sh, .int .i64 wo, .int .i64 qu, .int .i64 tr], .agg (opv h s)] w (RetOp ⟨h.A0, h.n0, h.c0, h.A1, h.n1, h.c1, h.A2, h.n2, h.c2, none, 0, 0⟩ (firstS s) w) := by
  rcases s with ⟨kind, addr, err, aad, used, phase, shard, sought, leaf, bit, word, full, at_, tries, item, stamp⟩
  rcases h with ⟨A0, n0, c0, A1, n1, c1, A2, n2, c2, A3, n3, c3⟩
  dsimp only at *
  have e1 : IntKind.i64.wrap (sought + 1) = sought + 1 := IntWalk.i64_in _ (by omega)
  have e2 : decide (sought + 1 < sh) = false := by simp; omega
  clear hlt
  go_enter Try.func44, Try.ntmps44
  go_upto_region 1 with (fail)
  have L := Loc.start w
  replace L := (((L).alloc #[.int .u32 (a : Int), .int .i64 p, .slice A n c, .int .i64 sh, .int .i64 wo, .int .i64 qu, .int .i64 tr] 27).alloc (opv ⟨A0, n0, c0, A1, n1, c1, A2, n2, c2, A3, n3, c3⟩ ⟨kind, addr, err, aad, used, phase, shard, sought, leaf, bit, word, full, at_, tries, item, stamp⟩) 42).alloc #[.int .i64 0, .int .u32 0, .slice none 0 0, .int .i64 0, .int .u32 0, .bool false, .slice none 0 0, .slice none 0 0, .int .i64 0, .int .i64 0, .int .i64 0, .int .i64 0, .int .i64 0, .int .u64 0, .bool false, .slice none 0 0, .int .i64 0, .int .i64 0, .int .i64 0, .int .i64 0] 42
  try simp only [World.size_alloc] at L
  replace L := L.is 0 (opv hd0 sc0) rfl
  try dsimp only [nput] at L
  generalize (((w).alloc (.cells #[.int .u32 (a : Int), .int .i64 p, .slice A n c, .int .i64 sh, .int .i64 wo, .int .i64 qu, .int .i64 tr] 27)).alloc (.cells (opv ⟨A0, n0, c0, A1, n1, c1, A2, n2, c2, A3, n3, c3⟩ ⟨kind, addr, err, aad, used, phase, shard, sought, leaf, bit, word, full, at_, tries, item, stamp⟩) 42)).alloc (.cells #[.int .i64 0, .int .u32 0, .slice none 0 0, .int .i64 0, .int .u32 0, .bool false, .slice none 0 0, .slice none 0 0, .int .i64 0, .int .i64 0, .int .i64 0, .int .i64 0, .int .i64 0, .int .u64 0, .bool false, .slice none 0 0, .int .i64 0, .int .i64 0, .int .i64 0, .int .i64 0] 42) = w1 at L ⊢
  generalize w.heap.size + 1 + 1 = gR at L ⊢
  generalize w.heap.size + 1 = gO at L ⊢
  generalize w.heap.size = gH at L ⊢
  have O_10 := L.at_ 1 10 rfl (v := .int .i64 sought) rfl
  have O_13 := L.at_ 1 13 rfl (v := .int .u64 ((word : Nat) : Int)) rfl
  have O_16 := L.at_ 1 16 rfl (v := .int .i64 at_) rfl
  have O_z := L.lt 1 rfl
  have O_f10 := L.fz 1 10 rfl
  have O_f13 := L.fz 1 13 rfl
  have O_f16 := L.fz 1 16 rfl
  go_upto_region 2 with fail
  clear O_10 O_13 O_16 O_z O_f10 O_f13 O_f16
  replace L := ((((L.set 1 10 rfl (.int .i64 (sought + 1))).set 1 13 rfl (.int .u64 0)).set 1 16 rfl (.int .i64 0)).is 1 (opv ⟨A0, n0, c0, A1, n1, c1, A2, n2, c2, A3, n3, c3⟩ ⟨kind, addr, err, aad, used, phase, shard, sought + 1, leaf, bit, 0, full, 0, tries, item, stamp⟩) rfl)
  try dsimp only [nput] at L
  generalize (((w1).setCell ⟨gO, 10, none⟩ (.int .i64 (sought + 1))).setCell ⟨gO, 13, none⟩ (.int .u64 0)).setCell ⟨gO, 16, none⟩ (.int .i64 0) = w2 at L ⊢
  have O_10 := L.at_ 1 10 rfl (v := .int .i64 (sought + 1)) rfl
  have H_3 := L.at_ 2 3 rfl (v := .int .i64 sh) rfl
  have O_8 := L.at_ 1 8 rfl (v := .int .i64 phase) rfl
  have O_15 := L.at_ 1 15 rfl (v := .slice A3 n3 c3) rfl
  have O_z := L.lt 1 rfl
  have H_z := L.lt 2 rfl
  have O_f8 := L.fz 1 8 rfl
  have O_f15 := L.fz 1 15 rfl
  have ne_O_H := L.ne_ 1 2 rfl rfl (by decide)
  go_upto_region 6 with fail
  clear O_10 H_3 O_8 O_15 O_z H_z O_f8 O_f15 ne_O_H
  replace L := (((L.set 1 8 rfl (.int .i64 6)).set 1 15 rfl (.slice none 0 0)).is 1 (opv ⟨A0, n0, c0, A1, n1, c1, A2, n2, c2, none, 0, 0⟩ ⟨kind, addr, err, aad, used, 6, shard, sought + 1, leaf, bit, 0, full, 0, tries, item, stamp⟩) rfl)
  try dsimp only [nput] at L
  generalize ((w2).setCell ⟨gO, 8, none⟩ (.int .i64 6)).setCell ⟨gO, 15, none⟩ (.slice none 0 0) = w3 at L ⊢
  go_wp2_with (first | (refine wpList_load_row rfl 42 (.tmp 3) rfl gO rfl _ _ (0, 0) _ (L.bk_ 1 rfl) Try.underlying42 rfl op_sz ?_) | (refine wpList_store_row rfl 42 (.tmp 4) (.tmp 20) rfl gR _ rfl rfl _ _ (L.bk_ 0 rfl) op_sz rfl (opv_one _ _) ?_))
  replace L := (L.row 0 rfl (opv ⟨A0, n0, c0, A1, n1, c1, A2, n2, c2, none, 0, 0⟩ ⟨kind, addr, err, aad, used, 6, shard, sought + 1, leaf, bit, 0, full, 0, tries, item, stamp⟩))
  try dsimp only [nput] at L
  generalize (w3).setRow gR (opv ⟨A0, n0, c0, A1, n1, c1, A2, n2, c2, none, 0, 0⟩ ⟨kind, addr, err, aad, used, 6, shard, sought + 1, leaf, bit, 0, full, 0, tries, item, stamp⟩) = w4 at L ⊢
  refine bodyPost_ret (v := .agg (opv ⟨A0, n0, c0, A1, n1, c1, A2, n2, c2, none, 0, 0⟩ ⟨kind, addr, err, aad, used, 6, shard, sought + 1, leaf, bit, 0, full, 0, tries, item, stamp⟩)) ?_ rfl ?_
  · exact results_cell_row (fn := Try.f44) Try.results44 _ _ gR _ _ (0, 0) _ rfl (L.bk_ 0 rfl) Try.underlying42 rfl op_sz
  exact ⟨rfl, L.K⟩
theorem else_any (hs0 : 0 ≤ s.sought) (hs1 : s.sought ≤ 65536) :
    Calls Try.prog 44 #[.agg #[.int .u32 (a : Int), .int .i64 p, .slice A n c, .int .i64 sh, .int .i64 wo, .int .i64 qu, .int .i64 tr], .agg (opv h s)] w (RetOp (elsH sh s h) (elsS sh s) w) := by
  unfold elsH elsS
  by_cases hlt : s.sought + 1 < sh
  · rw [if_pos hlt, if_pos hlt]; exact else_seek hs0 hs1 hlt
  · rw [if_neg hlt, if_neg hlt]; exact else_first hs0 hs1 hlt
end
end Go.Proofs.Ytgpbdoegcagdaaa

