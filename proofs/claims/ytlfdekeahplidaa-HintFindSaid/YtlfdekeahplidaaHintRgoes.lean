/-
  What the document's Goes answers of an operation: gone on. Conditions: at most 65536 addresses, all the block's; Item from 0 to 65536.
-/
import Derived.Test.YtlfdekeahplidaaHintOn
namespace Go.Proofs.Ytlfdekeahplidaa
open Go.RowKit
set_option linter.unusedVariables false
theorem onward_any {w : World} {lo a M : Nat} {p sh wo qu tr : Int} {A : Option Addr} {n c : Nat} {xs : List Int} {h : Hd} {s : Sc} (ha : a < 4294967296) (hM : Much a p M) (hn : h.n0 ≤ 65536) (hI : IS .u32 lo w h.A0 h.n0 h.c0 xs) (hin : InB a M h.n0 xs) :
    Calls Try.prog 35 #[.agg #[.int .u32 a, .int .i64 p, .slice A n c, .int .i64 sh, .int .i64 wo, .int .i64 qu, .int .i64 tr], .agg (opv h s)] w (RetOp h (gon a h.n0 xs s) w) := by
  cases hf : fur h.n0 s with
  | true => unfold gon; rw [if_pos hf]; exact onward_more ha hM hn hI hin hf
  | false => unfold gon; rw [if_neg (by simp [hf])]; exact onward_end hn hf
section
variable {w : World} {lo a M : Nat} {p sh wo qu tr : Int} {A : Option Addr} {n c : Nat} {xs : List Int} {h : Hd} {s : Sc}
set_option maxHeartbeats 1000000 in
theorem rgoes_end0 (h0 : s.kind ≠ 4) :
    Calls Try.prog 16 #[.agg #[.int .u32 a, .int .i64 p, .slice A n c, .int .i64 sh, .int .i64 wo, .int .i64 qu, .int .i64 tr], .agg (opv h s)] w (RetOp h (ende s) w) := by
  rcases s with ⟨kind, addr, err, aad, used, phase, shard, sought, leaf, bit, word, full, at_, tries, item, stamp⟩
  rcases h with ⟨A0, n0, c0, A1, n1, c1, A2, n2, c2, A3, n3, c3⟩
  dsimp only at *
  have e0 : (kind == 4) = false := by simpa using h0
  clear h0
  go_enter Try.func16, Try.ntmps16
  go_upto_region 1 with (fail)
  have K := below_alloc w (.cells #[.int .u32 a, .int .i64 p, .slice A n c, .int .i64 sh, .int .i64 wo, .int .i64 qu, .int .i64 tr] 27)
  have H : Bk (World.alloc (w) (.cells #[.int .u32 a, .int .i64 p, .slice A n c, .int .i64 sh, .int .i64 wo, .int .i64 qu, .int .i64 tr] 27)) (World.heap (w)).size 27 (#[.int .u32 a, .int .i64 p, .slice A n c, .int .i64 sh, .int .i64 wo, .int .i64 qu, .int .i64 tr]) := Bk.new _ _ _
  replace H := H.alloc (.cells (opv ⟨A0, n0, c0, A1, n1, c1, A2, n2, c2, A3, n3, c3⟩ ⟨kind, addr, err, aad, used, phase, shard, sought, leaf, bit, word, full, at_, tries, item, stamp⟩) 38)
  replace K := Below.then_ K (below_alloc _ (.cells (opv ⟨A0, n0, c0, A1, n1, c1, A2, n2, c2, A3, n3, c3⟩ ⟨kind, addr, err, aad, used, phase, shard, sought, leaf, bit, word, full, at_, tries, item, stamp⟩) 38))
  have O : Bk (World.alloc ((w).alloc (.cells #[.int .u32 a, .int .i64 p, .slice A n c, .int .i64 sh, .int .i64 wo, .int .i64 qu, .int .i64 tr] 27)) (.cells (opv ⟨A0, n0, c0, A1, n1, c1, A2, n2, c2, A3, n3, c3⟩ ⟨kind, addr, err, aad, used, phase, shard, sought, leaf, bit, word, full, at_, tries, item, stamp⟩) 38)) (World.heap ((w).alloc (.cells #[.int .u32 a, .int .i64 p, .slice A n c, .int .i64 sh, .int .i64 wo, .int .i64 qu, .int .i64 tr] 27))).size 38 (opv ⟨A0, n0, c0, A1, n1, c1, A2, n2, c2, A3, n3, c3⟩ ⟨kind, addr, err, aad, used, phase, shard, sought, leaf, bit, word, full, at_, tries, item, stamp⟩) := Bk.new _ _ _
  replace H := H.alloc (.cells #[.int .i64 0, .int .u32 0, .slice none 0 0, .int .i64 0, .int .u32 0, .bool false, .slice none 0 0, .slice none 0 0, .int .i64 0, .int .i64 0, .int .i64 0, .int .i64 0, .int .i64 0, .int .u64 0, .bool false, .slice none 0 0, .int .i64 0, .int .i64 0, .int .i64 0, .int .i64 0] 38)
  replace O := O.alloc (.cells #[.int .i64 0, .int .u32 0, .slice none 0 0, .int .i64 0, .int .u32 0, .bool false, .slice none 0 0, .slice none 0 0, .int .i64 0, .int .i64 0, .int .i64 0, .int .i64 0, .int .i64 0, .int .u64 0, .bool false, .slice none 0 0, .int .i64 0, .int .i64 0, .int .i64 0, .int .i64 0] 38)
  replace K := Below.then_ K (below_alloc _ (.cells #[.int .i64 0, .int .u32 0, .slice none 0 0, .int .i64 0, .int .u32 0, .bool false, .slice none 0 0, .slice none 0 0, .int .i64 0, .int .i64 0, .int .i64 0, .int .i64 0, .int .i64 0, .int .u64 0, .bool false, .slice none 0 0, .int .i64 0, .int .i64 0, .int .i64 0, .int .i64 0] 38))
  have R : Bk (World.alloc (((w).alloc (.cells #[.int .u32 a, .int .i64 p, .slice A n c, .int .i64 sh, .int .i64 wo, .int .i64 qu, .int .i64 tr] 27)).alloc (.cells (opv ⟨A0, n0, c0, A1, n1, c1, A2, n2, c2, A3, n3, c3⟩ ⟨kind, addr, err, aad, used, phase, shard, sought, leaf, bit, word, full, at_, tries, item, stamp⟩) 38)) (.cells #[.int .i64 0, .int .u32 0, .slice none 0 0, .int .i64 0, .int .u32 0, .bool false, .slice none 0 0, .slice none 0 0, .int .i64 0, .int .i64 0, .int .i64 0, .int .i64 0, .int .i64 0, .int .u64 0, .bool false, .slice none 0 0, .int .i64 0, .int .i64 0, .int .i64 0, .int .i64 0] 38)) (World.heap (((w).alloc (.cells #[.int .u32 a, .int .i64 p, .slice A n c, .int .i64 sh, .int .i64 wo, .int .i64 qu, .int .i64 tr] 27)).alloc (.cells (opv ⟨A0, n0, c0, A1, n1, c1, A2, n2, c2, A3, n3, c3⟩ ⟨kind, addr, err, aad, used, phase, shard, sought, leaf, bit, word, full, at_, tries, item, stamp⟩) 38))).size 38 (opv hd0 sc0) := Bk.new _ _ _
  try simp only [World.size_alloc] at H O R
  generalize (((w).alloc (.cells #[.int .u32 a, .int .i64 p, .slice A n c, .int .i64 sh, .int .i64 wo, .int .i64 qu, .int .i64 tr] 27)).alloc (.cells (opv ⟨A0, n0, c0, A1, n1, c1, A2, n2, c2, A3, n3, c3⟩ ⟨kind, addr, err, aad, used, phase, shard, sought, leaf, bit, word, full, at_, tries, item, stamp⟩) 38)).alloc (.cells #[.int .i64 0, .int .u32 0, .slice none 0 0, .int .i64 0, .int .u32 0, .bool false, .slice none 0 0, .slice none 0 0, .int .i64 0, .int .i64 0, .int .i64 0, .int .i64 0, .int .i64 0, .int .u64 0, .bool false, .slice none 0 0, .int .i64 0, .int .i64 0, .int .i64 0, .int .i64 0] 38) = w1 at H O R K ⊢
  obtain ⟨gR, hgR⟩ : ∃ g, g = w.heap.size + 1 + 1 := ⟨_, rfl⟩
  rw [← hgR] at R ⊢
  obtain ⟨gO, hgO⟩ : ∃ g, g = w.heap.size + 1 := ⟨_, rfl⟩
  rw [← hgO] at O ⊢
  obtain ⟨gH, hgH⟩ : ∃ g, g = w.heap.size := ⟨_, rfl⟩
  rw [← hgH] at H ⊢
  have H_b : w.heap.size ≤ gH := by omega
  have O_b : w.heap.size ≤ gO := by omega
  have R_b : w.heap.size ≤ gR := by omega
  have ne_H_O : gH ≠ gO := by omega
  have ne_H_R : gH ≠ gR := by omega
  have ne_O_R : gO ≠ gR := by omega
  clear hgH hgO hgR
  have O_13 := O.at_ (v := .int .u64 ((word : Nat) : Int)) 13 rfl
  have O_14 := O.at_ (v := .bool (full)) 14 rfl
  have O_16 := O.at_ (v := .int .i64 (at_)) 16 rfl
  have O_8 := O.at_ (v := .int .i64 (phase)) 8 rfl
  have O_z := O.lt
  have O_f13 := O.fz 13
  have O_f14 := O.fz 14
  have O_f16 := O.fz 16
  have O_f8 := O.fz 8
  go_upto_region 5 with (fail)
  replace H := H.far (p := ⟨gO, 13, none⟩) ne_H_O (.int .u64 0)
  replace R := R.far (p := ⟨gO, 13, none⟩) (Ne.symm ne_O_R) (.int .u64 0)
  replace O := O.set_ 13 (.int .u64 0)
  replace K := K.setCell (p := ⟨gO, 13, none⟩) O_b (.int .u64 0)
  replace H := H.far (p := ⟨gO, 14, none⟩) ne_H_O (.bool false)
  replace R := R.far (p := ⟨gO, 14, none⟩) (Ne.symm ne_O_R) (.bool false)
  replace O := O.set_ 14 (.bool false)
  replace K := K.setCell (p := ⟨gO, 14, none⟩) O_b (.bool false)
  replace H := H.far (p := ⟨gO, 16, none⟩) ne_H_O (.int .i64 0)
  replace R := R.far (p := ⟨gO, 16, none⟩) (Ne.symm ne_O_R) (.int .i64 0)
  replace O := O.set_ 16 (.int .i64 0)
  replace K := K.setCell (p := ⟨gO, 16, none⟩) O_b (.int .i64 0)
  replace H := H.far (p := ⟨gO, 8, none⟩) ne_H_O (.int .i64 0)
  replace R := R.far (p := ⟨gO, 8, none⟩) (Ne.symm ne_O_R) (.int .i64 0)
  replace O := O.set_ 8 (.int .i64 0)
  replace K := K.setCell (p := ⟨gO, 8, none⟩) O_b (.int .i64 0)
  replace O : Bk (((((w1).setCell ⟨gO, 13, none⟩ (.int .u64 0)).setCell ⟨gO, 14, none⟩ (.bool false)).setCell ⟨gO, 16, none⟩ (.int .i64 0)).setCell ⟨gO, 8, none⟩ (.int .i64 0)) gO 38 (opv ⟨A0, n0, c0, A1, n1, c1, A2, n2, c2, A3, n3, c3⟩ ⟨kind, addr, err, aad, used, 0, shard, sought, leaf, bit, 0, false, 0, tries, item, stamp⟩) := O
  clear O_13 O_14 O_16 O_8 O_f13 O_f14 O_f16 O_f8 O_z
  generalize ((((w1).setCell ⟨gO, 13, none⟩ (.int .u64 0)).setCell ⟨gO, 14, none⟩ (.bool false)).setCell ⟨gO, 16, none⟩ (.int .i64 0)).setCell ⟨gO, 8, none⟩ (.int .i64 0) = w2 at H O R K ⊢
  have O_0 := O.at_ (v := .int .i64 (kind)) 0 rfl
  have O_18 := O.at_ (v := .int .i64 (item)) 18 rfl
  have O_2 := O.at_ (v := .slice A0 n0 c0) 2 rfl
  have O_z := O.lt
  go_upto_region 11 with (fail)
  go_wp2_with (first | (refine wpList_load_row rfl 38 (.tmp 3) rfl gO rfl _ _ (0, 0) _ O Try.underlying38 rfl op_sz ?_) | (refine wpList_store_row rfl 38 (.tmp 4) (.tmp 49) rfl gR _ rfl rfl _ _ R op_sz rfl (opv_one _ _) ?_))
  clear O_0 O_18 O_2 O_z
  replace H := H.row_far ne_H_R (opv ⟨A0, n0, c0, A1, n1, c1, A2, n2, c2, A3, n3, c3⟩ ⟨kind, addr, err, aad, used, 0, shard, sought, leaf, bit, 0, false, 0, tries, item, stamp⟩)
  replace O := O.row_far ne_O_R (opv ⟨A0, n0, c0, A1, n1, c1, A2, n2, c2, A3, n3, c3⟩ ⟨kind, addr, err, aad, used, 0, shard, sought, leaf, bit, 0, false, 0, tries, item, stamp⟩)
  replace R := R.row (opv ⟨A0, n0, c0, A1, n1, c1, A2, n2, c2, A3, n3, c3⟩ ⟨kind, addr, err, aad, used, 0, shard, sought, leaf, bit, 0, false, 0, tries, item, stamp⟩)
  replace K := below_setRow K R_b (opv ⟨A0, n0, c0, A1, n1, c1, A2, n2, c2, A3, n3, c3⟩ ⟨kind, addr, err, aad, used, 0, shard, sought, leaf, bit, 0, false, 0, tries, item, stamp⟩)
  generalize w2.setRow gR (opv ⟨A0, n0, c0, A1, n1, c1, A2, n2, c2, A3, n3, c3⟩ ⟨kind, addr, err, aad, used, 0, shard, sought, leaf, bit, 0, false, 0, tries, item, stamp⟩) = w3 at H O R K ⊢
  refine bodyPost_ret (v := .agg (opv ⟨A0, n0, c0, A1, n1, c1, A2, n2, c2, A3, n3, c3⟩ ⟨kind, addr, err, aad, used, 0, shard, sought, leaf, bit, 0, false, 0, tries, item, stamp⟩)) ?_ rfl ?_
  · exact results_cell_row (fn := Try.f16) Try.results16 _ _ gR _ _ (0, 0) _ rfl R Try.underlying38 rfl op_sz
  exact ⟨rfl, K⟩
set_option maxHeartbeats 1000000 in
theorem rgoes_end1 (h0 : s.kind = 4) (hn : h.n0 ≤ 65536) (h1 : 0 ≤ s.item) (h2 : s.item ≤ 65536) (h3 : ¬ s.item + 1 < (h.n0 : Int)) :
    Calls Try.prog 16 #[.agg #[.int .u32 a, .int .i64 p, .slice A n c, .int .i64 sh, .int .i64 wo, .int .i64 qu, .int .i64 tr], .agg (opv h s)] w (RetOp h (ende s) w) := by
  rcases s with ⟨kind, addr, err, aad, used, phase, shard, sought, leaf, bit, word, full, at_, tries, item, stamp⟩
  rcases h with ⟨A0, n0, c0, A1, n1, c1, A2, n2, c2, A3, n3, c3⟩
  dsimp only at *
  have e0 : (kind == 4) = true := by simpa using h0
  clear h0
  have e1 : decide (item + 1 < (n0 : Int)) = false := by simp; omega
  clear h3
  go_enter Try.func16, Try.ntmps16
  go_upto_region 1 with (fail)
  have K := below_alloc w (.cells #[.int .u32 a, .int .i64 p, .slice A n c, .int .i64 sh, .int .i64 wo, .int .i64 qu, .int .i64 tr] 27)
  have H : Bk (World.alloc (w) (.cells #[.int .u32 a, .int .i64 p, .slice A n c, .int .i64 sh, .int .i64 wo, .int .i64 qu, .int .i64 tr] 27)) (World.heap (w)).size 27 (#[.int .u32 a, .int .i64 p, .slice A n c, .int .i64 sh, .int .i64 wo, .int .i64 qu, .int .i64 tr]) := Bk.new _ _ _
  replace H := H.alloc (.cells (opv ⟨A0, n0, c0, A1, n1, c1, A2, n2, c2, A3, n3, c3⟩ ⟨kind, addr, err, aad, used, phase, shard, sought, leaf, bit, word, full, at_, tries, item, stamp⟩) 38)
  replace K := Below.then_ K (below_alloc _ (.cells (opv ⟨A0, n0, c0, A1, n1, c1, A2, n2, c2, A3, n3, c3⟩ ⟨kind, addr, err, aad, used, phase, shard, sought, leaf, bit, word, full, at_, tries, item, stamp⟩) 38))
  have O : Bk (World.alloc ((w).alloc (.cells #[.int .u32 a, .int .i64 p, .slice A n c, .int .i64 sh, .int .i64 wo, .int .i64 qu, .int .i64 tr] 27)) (.cells (opv ⟨A0, n0, c0, A1, n1, c1, A2, n2, c2, A3, n3, c3⟩ ⟨kind, addr, err, aad, used, phase, shard, sought, leaf, bit, word, full, at_, tries, item, stamp⟩) 38)) (World.heap ((w).alloc (.cells #[.int .u32 a, .int .i64 p, .slice A n c, .int .i64 sh, .int .i64 wo, .int .i64 qu, .int .i64 tr] 27))).size 38 (opv ⟨A0, n0, c0, A1, n1, c1, A2, n2, c2, A3, n3, c3⟩ ⟨kind, addr, err, aad, used, phase, shard, sought, leaf, bit, word, full, at_, tries, item, stamp⟩) := Bk.new _ _ _
  replace H := H.alloc (.cells #[.int .i64 0, .int .u32 0, .slice none 0 0, .int .i64 0, .int .u32 0, .bool false, .slice none 0 0, .slice none 0 0, .int .i64 0, .int .i64 0, .int .i64 0, .int .i64 0, .int .i64 0, .int .u64 0, .bool false, .slice none 0 0, .int .i64 0, .int .i64 0, .int .i64 0, .int .i64 0] 38)
  replace O := O.alloc (.cells #[.int .i64 0, .int .u32 0, .slice none 0 0, .int .i64 0, .int .u32 0, .bool false, .slice none 0 0, .slice none 0 0, .int .i64 0, .int .i64 0, .int .i64 0, .int .i64 0, .int .i64 0, .int .u64 0, .bool false, .slice none 0 0, .int .i64 0, .int .i64 0, .int .i64 0, .int .i64 0] 38)
  replace K := Below.then_ K (below_alloc _ (.cells #[.int .i64 0, .int .u32 0, .slice none 0 0, .int .i64 0, .int .u32 0, .bool false, .slice none 0 0, .slice none 0 0, .int .i64 0, .int .i64 0, .int .i64 0, .int .i64 0, .int .i64 0, .int .u64 0, .bool false, .slice none 0 0, .int .i64 0, .int .i64 0, .int .i64 0, .int .i64 0] 38))
  have R : Bk (World.alloc (((w).alloc (.cells #[.int .u32 a, .int .i64 p, .slice A n c, .int .i64 sh, .int .i64 wo, .int .i64 qu, .int .i64 tr] 27)).alloc (.cells (opv ⟨A0, n0, c0, A1, n1, c1, A2, n2, c2, A3, n3, c3⟩ ⟨kind, addr, err, aad, used, phase, shard, sought, leaf, bit, word, full, at_, tries, item, stamp⟩) 38)) (.cells #[.int .i64 0, .int .u32 0, .slice none 0 0, .int .i64 0, .int .u32 0, .bool false, .slice none 0 0, .slice none 0 0, .int .i64 0, .int .i64 0, .int .i64 0, .int .i64 0, .int .i64 0, .int .u64 0, .bool false, .slice none 0 0, .int .i64 0, .int .i64 0, .int .i64 0, .int .i64 0] 38)) (World.heap (((w).alloc (.cells #[.int .u32 a, .int .i64 p, .slice A n c, .int .i64 sh, .int .i64 wo, .int .i64 qu, .int .i64 tr] 27)).alloc (.cells (opv ⟨A0, n0, c0, A1, n1, c1, A2, n2, c2, A3, n3, c3⟩ ⟨kind, addr, err, aad, used, phase, shard, sought, leaf, bit, word, full, at_, tries, item, stamp⟩) 38))).size 38 (opv hd0 sc0) := Bk.new _ _ _
  try simp only [World.size_alloc] at H O R
  generalize (((w).alloc (.cells #[.int .u32 a, .int .i64 p, .slice A n c, .int .i64 sh, .int .i64 wo, .int .i64 qu, .int .i64 tr] 27)).alloc (.cells (opv ⟨A0, n0, c0, A1, n1, c1, A2, n2, c2, A3, n3, c3⟩ ⟨kind, addr, err, aad, used, phase, shard, sought, leaf, bit, word, full, at_, tries, item, stamp⟩) 38)).alloc (.cells #[.int .i64 0, .int .u32 0, .slice none 0 0, .int .i64 0, .int .u32 0, .bool false, .slice none 0 0, .slice none 0 0, .int .i64 0, .int .i64 0, .int .i64 0, .int .i64 0, .int .i64 0, .int .u64 0, .bool false, .slice none 0 0, .int .i64 0, .int .i64 0, .int .i64 0, .int .i64 0] 38) = w1 at H O R K ⊢
  obtain ⟨gR, hgR⟩ : ∃ g, g = w.heap.size + 1 + 1 := ⟨_, rfl⟩
  rw [← hgR] at R ⊢
  obtain ⟨gO, hgO⟩ : ∃ g, g = w.heap.size + 1 := ⟨_, rfl⟩
  rw [← hgO] at O ⊢
  obtain ⟨gH, hgH⟩ : ∃ g, g = w.heap.size := ⟨_, rfl⟩
  rw [← hgH] at H ⊢
  have H_b : w.heap.size ≤ gH := by omega
  have O_b : w.heap.size ≤ gO := by omega
  have R_b : w.heap.size ≤ gR := by omega
  have ne_H_O : gH ≠ gO := by omega
  have ne_H_R : gH ≠ gR := by omega
  have ne_O_R : gO ≠ gR := by omega
  clear hgH hgO hgR
  have O_13 := O.at_ (v := .int .u64 ((word : Nat) : Int)) 13 rfl
  have O_14 := O.at_ (v := .bool (full)) 14 rfl
  have O_16 := O.at_ (v := .int .i64 (at_)) 16 rfl
  have O_8 := O.at_ (v := .int .i64 (phase)) 8 rfl
  have O_z := O.lt
  have O_f13 := O.fz 13
  have O_f14 := O.fz 14
  have O_f16 := O.fz 16
  have O_f8 := O.fz 8
  go_upto_region 5 with (fail)
  replace H := H.far (p := ⟨gO, 13, none⟩) ne_H_O (.int .u64 0)
  replace R := R.far (p := ⟨gO, 13, none⟩) (Ne.symm ne_O_R) (.int .u64 0)
  replace O := O.set_ 13 (.int .u64 0)
  replace K := K.setCell (p := ⟨gO, 13, none⟩) O_b (.int .u64 0)
  replace H := H.far (p := ⟨gO, 14, none⟩) ne_H_O (.bool false)
  replace R := R.far (p := ⟨gO, 14, none⟩) (Ne.symm ne_O_R) (.bool false)
  replace O := O.set_ 14 (.bool false)
  replace K := K.setCell (p := ⟨gO, 14, none⟩) O_b (.bool false)
  replace H := H.far (p := ⟨gO, 16, none⟩) ne_H_O (.int .i64 0)
  replace R := R.far (p := ⟨gO, 16, none⟩) (Ne.symm ne_O_R) (.int .i64 0)
  replace O := O.set_ 16 (.int .i64 0)
  replace K := K.setCell (p := ⟨gO, 16, none⟩) O_b (.int .i64 0)
  replace H := H.far (p := ⟨gO, 8, none⟩) ne_H_O (.int .i64 0)
  replace R := R.far (p := ⟨gO, 8, none⟩) (Ne.symm ne_O_R) (.int .i64 0)
  replace O := O.set_ 8 (.int .i64 0)
  replace K := K.setCell (p := ⟨gO, 8, none⟩) O_b (.int .i64 0)
  replace O : Bk (((((w1).setCell ⟨gO, 13, none⟩ (.int .u64 0)).setCell ⟨gO, 14, none⟩ (.bool false)).setCell ⟨gO, 16, none⟩ (.int .i64 0)).setCell ⟨gO, 8, none⟩ (.int .i64 0)) gO 38 (opv ⟨A0, n0, c0, A1, n1, c1, A2, n2, c2, A3, n3, c3⟩ ⟨kind, addr, err, aad, used, 0, shard, sought, leaf, bit, 0, false, 0, tries, item, stamp⟩) := O
  clear O_13 O_14 O_16 O_8 O_f13 O_f14 O_f16 O_f8 O_z
  generalize ((((w1).setCell ⟨gO, 13, none⟩ (.int .u64 0)).setCell ⟨gO, 14, none⟩ (.bool false)).setCell ⟨gO, 16, none⟩ (.int .i64 0)).setCell ⟨gO, 8, none⟩ (.int .i64 0) = w2 at H O R K ⊢
  have O_0 := O.at_ (v := .int .i64 (kind)) 0 rfl
  have O_18 := O.at_ (v := .int .i64 (item)) 18 rfl
  have O_2 := O.at_ (v := .slice A0 n0 c0) 2 rfl
  have O_z := O.lt
  go_upto_region 11 with (fail)
  go_wp2_with (first | (refine wpList_load_row rfl 38 (.tmp 3) rfl gO rfl _ _ (0, 0) _ O Try.underlying38 rfl op_sz ?_) | (refine wpList_store_row rfl 38 (.tmp 4) (.tmp 49) rfl gR _ rfl rfl _ _ R op_sz rfl (opv_one _ _) ?_))
  clear O_0 O_18 O_2 O_z
  replace H := H.row_far ne_H_R (opv ⟨A0, n0, c0, A1, n1, c1, A2, n2, c2, A3, n3, c3⟩ ⟨kind, addr, err, aad, used, 0, shard, sought, leaf, bit, 0, false, 0, tries, item, stamp⟩)
  replace O := O.row_far ne_O_R (opv ⟨A0, n0, c0, A1, n1, c1, A2, n2, c2, A3, n3, c3⟩ ⟨kind, addr, err, aad, used, 0, shard, sought, leaf, bit, 0, false, 0, tries, item, stamp⟩)
  replace R := R.row (opv ⟨A0, n0, c0, A1, n1, c1, A2, n2, c2, A3, n3, c3⟩ ⟨kind, addr, err, aad, used, 0, shard, sought, leaf, bit, 0, false, 0, tries, item, stamp⟩)
  replace K := below_setRow K R_b (opv ⟨A0, n0, c0, A1, n1, c1, A2, n2, c2, A3, n3, c3⟩ ⟨kind, addr, err, aad, used, 0, shard, sought, leaf, bit, 0, false, 0, tries, item, stamp⟩)
  generalize w2.setRow gR (opv ⟨A0, n0, c0, A1, n1, c1, A2, n2, c2, A3, n3, c3⟩ ⟨kind, addr, err, aad, used, 0, shard, sought, leaf, bit, 0, false, 0, tries, item, stamp⟩) = w3 at H O R K ⊢
  refine bodyPost_ret (v := .agg (opv ⟨A0, n0, c0, A1, n1, c1, A2, n2, c2, A3, n3, c3⟩ ⟨kind, addr, err, aad, used, 0, shard, sought, leaf, bit, 0, false, 0, tries, item, stamp⟩)) ?_ rfl ?_
  · exact results_cell_row (fn := Try.f16) Try.results16 _ _ gR _ _ (0, 0) _ rfl R Try.underlying38 rfl op_sz
  exact ⟨rfl, K⟩
set_option maxHeartbeats 1000000 in
theorem rgoes_more (ha : a < 4294967296) (hM : Much a p M) (hn : h.n0 ≤ 65536) (hI : IS .u32 lo w h.A0 h.n0 h.c0 xs) (hin : InB a M h.n0 xs) (hf : fur h.n0 s = true) :
    Calls Try.prog 16 #[.agg #[.int .u32 a, .int .i64 p, .slice A n c, .int .i64 sh, .int .i64 wo, .int .i64 qu, .int .i64 tr], .agg (opv h s)] w (RetOp h (next_ a xs s) w) := by
  have hf0 : s.kind = 4 ∧ 0 ≤ s.item ∧ s.item + 1 < (h.n0 : Int) := by simpa [fur] using hf
  rcases s with ⟨kind, addr, err, aad, used, phase, shard, sought, leaf, bit, word, full, at_, tries, item, stamp⟩
  rcases h with ⟨A0, n0, c0, A1, n1, c1, A2, n2, c2, A3, n3, c3⟩
  dsimp only at *
  obtain ⟨j, rfl⟩ : ∃ j : Nat, item = j := ⟨item.toNat, by omega⟩
  obtain ⟨x, hx, hx1, hx2⟩ := hin (j + 1) (by omega)
  obtain ⟨b, o, rfl, hb, hc⟩ := hI.get (j := j + 1) (by omega)
  rw [hx] at hc
  have hfit := hM.fits ha
  have hmo := hM.most
  obtain ⟨d, hd⟩ : ∃ d : Nat, d = x - a := ⟨_, rfl⟩
  obtain ⟨q, hq⟩ : ∃ q : Nat, q = d / 32 := ⟨_, rfl⟩
  obtain ⟨r, hr⟩ : ∃ r : Nat, r = d % 32 := ⟨_, rfl⟩
  have E : next_ a xs ⟨kind, addr, err, aad, used, phase, shard, sought, leaf, bit, word, full, at_, tries, (j : Int), stamp⟩ = ⟨kind, addr, err, aad, used, 8, shard, sought, (q : Int), (r : Int), 0, false, 0, tries, ((j : Int) + 1), stamp⟩ := by unfold next_ ofs; simp only [Int.toNat_natCast, hx]; rw [← hd, ← hq, ← hr]
  rw [E]
  clear E
  have T1 : ∀ w, Hid (Calls Try.prog 27 #[.agg #[.int .u32 a, .int .i64 p], .int .u32 x] w fun e w' => e = .returned (.tuple #[.int .i64 (d : Nat), .int .i64 0]) ∧ Below w.heap.size w w') := fun w => by rw [hd]; exact roffset_in x (by omega) hM hx1 hx2
  have hj1 : j + 1 < n0 := by omega
  have e0 : (kind == 4) = true := by simpa using hf0.1
  have e1 : decide ((j : Int) + 1 < (n0 : Int)) = true := by simp; omega
  replace hq : (d : Int) / 32 = (q : Nat) := by omega
  replace hr : (d : Int) % 32 = (r : Nat) := by omega
  have hd2 : d ≤ 65536 := by omega
  clear hf hin hd hx hx1 hx2 hI hf0
  go_enter Try.func16, Try.ntmps16
  go_upto_region 1 with (fail)
  have K := below_alloc w (.cells #[.int .u32 a, .int .i64 p, .slice A n c, .int .i64 sh, .int .i64 wo, .int .i64 qu, .int .i64 tr] 27)
  have H : Bk (World.alloc (w) (.cells #[.int .u32 a, .int .i64 p, .slice A n c, .int .i64 sh, .int .i64 wo, .int .i64 qu, .int .i64 tr] 27)) (World.heap (w)).size 27 (#[.int .u32 a, .int .i64 p, .slice A n c, .int .i64 sh, .int .i64 wo, .int .i64 qu, .int .i64 tr]) := Bk.new _ _ _
  replace H := H.alloc (.cells (opv ⟨(some ⟨b, o, none⟩), n0, c0, A1, n1, c1, A2, n2, c2, A3, n3, c3⟩ ⟨kind, addr, err, aad, used, phase, shard, sought, leaf, bit, word, full, at_, tries, (j : Int), stamp⟩) 38)
  replace K := Below.then_ K (below_alloc _ (.cells (opv ⟨(some ⟨b, o, none⟩), n0, c0, A1, n1, c1, A2, n2, c2, A3, n3, c3⟩ ⟨kind, addr, err, aad, used, phase, shard, sought, leaf, bit, word, full, at_, tries, (j : Int), stamp⟩) 38))
  have O : Bk (World.alloc ((w).alloc (.cells #[.int .u32 a, .int .i64 p, .slice A n c, .int .i64 sh, .int .i64 wo, .int .i64 qu, .int .i64 tr] 27)) (.cells (opv ⟨(some ⟨b, o, none⟩), n0, c0, A1, n1, c1, A2, n2, c2, A3, n3, c3⟩ ⟨kind, addr, err, aad, used, phase, shard, sought, leaf, bit, word, full, at_, tries, (j : Int), stamp⟩) 38)) (World.heap ((w).alloc (.cells #[.int .u32 a, .int .i64 p, .slice A n c, .int .i64 sh, .int .i64 wo, .int .i64 qu, .int .i64 tr] 27))).size 38 (opv ⟨(some ⟨b, o, none⟩), n0, c0, A1, n1, c1, A2, n2, c2, A3, n3, c3⟩ ⟨kind, addr, err, aad, used, phase, shard, sought, leaf, bit, word, full, at_, tries, (j : Int), stamp⟩) := Bk.new _ _ _
  replace H := H.alloc (.cells #[.int .i64 0, .int .u32 0, .slice none 0 0, .int .i64 0, .int .u32 0, .bool false, .slice none 0 0, .slice none 0 0, .int .i64 0, .int .i64 0, .int .i64 0, .int .i64 0, .int .i64 0, .int .u64 0, .bool false, .slice none 0 0, .int .i64 0, .int .i64 0, .int .i64 0, .int .i64 0] 38)
  replace O := O.alloc (.cells #[.int .i64 0, .int .u32 0, .slice none 0 0, .int .i64 0, .int .u32 0, .bool false, .slice none 0 0, .slice none 0 0, .int .i64 0, .int .i64 0, .int .i64 0, .int .i64 0, .int .i64 0, .int .u64 0, .bool false, .slice none 0 0, .int .i64 0, .int .i64 0, .int .i64 0, .int .i64 0] 38)
  replace K := Below.then_ K (below_alloc _ (.cells #[.int .i64 0, .int .u32 0, .slice none 0 0, .int .i64 0, .int .u32 0, .bool false, .slice none 0 0, .slice none 0 0, .int .i64 0, .int .i64 0, .int .i64 0, .int .i64 0, .int .i64 0, .int .u64 0, .bool false, .slice none 0 0, .int .i64 0, .int .i64 0, .int .i64 0, .int .i64 0] 38))
  have R : Bk (World.alloc (((w).alloc (.cells #[.int .u32 a, .int .i64 p, .slice A n c, .int .i64 sh, .int .i64 wo, .int .i64 qu, .int .i64 tr] 27)).alloc (.cells (opv ⟨(some ⟨b, o, none⟩), n0, c0, A1, n1, c1, A2, n2, c2, A3, n3, c3⟩ ⟨kind, addr, err, aad, used, phase, shard, sought, leaf, bit, word, full, at_, tries, (j : Int), stamp⟩) 38)) (.cells #[.int .i64 0, .int .u32 0, .slice none 0 0, .int .i64 0, .int .u32 0, .bool false, .slice none 0 0, .slice none 0 0, .int .i64 0, .int .i64 0, .int .i64 0, .int .i64 0, .int .i64 0, .int .u64 0, .bool false, .slice none 0 0, .int .i64 0, .int .i64 0, .int .i64 0, .int .i64 0] 38)) (World.heap (((w).alloc (.cells #[.int .u32 a, .int .i64 p, .slice A n c, .int .i64 sh, .int .i64 wo, .int .i64 qu, .int .i64 tr] 27)).alloc (.cells (opv ⟨(some ⟨b, o, none⟩), n0, c0, A1, n1, c1, A2, n2, c2, A3, n3, c3⟩ ⟨kind, addr, err, aad, used, phase, shard, sought, leaf, bit, word, full, at_, tries, (j : Int), stamp⟩) 38))).size 38 (opv hd0 sc0) := Bk.new _ _ _
  try simp only [World.size_alloc] at H O R
  generalize (((w).alloc (.cells #[.int .u32 a, .int .i64 p, .slice A n c, .int .i64 sh, .int .i64 wo, .int .i64 qu, .int .i64 tr] 27)).alloc (.cells (opv ⟨(some ⟨b, o, none⟩), n0, c0, A1, n1, c1, A2, n2, c2, A3, n3, c3⟩ ⟨kind, addr, err, aad, used, phase, shard, sought, leaf, bit, word, full, at_, tries, (j : Int), stamp⟩) 38)).alloc (.cells #[.int .i64 0, .int .u32 0, .slice none 0 0, .int .i64 0, .int .u32 0, .bool false, .slice none 0 0, .slice none 0 0, .int .i64 0, .int .i64 0, .int .i64 0, .int .i64 0, .int .i64 0, .int .u64 0, .bool false, .slice none 0 0, .int .i64 0, .int .i64 0, .int .i64 0, .int .i64 0] 38) = w1 at H O R K ⊢
  obtain ⟨gR, hgR⟩ : ∃ g, g = w.heap.size + 1 + 1 := ⟨_, rfl⟩
  rw [← hgR] at R ⊢
  obtain ⟨gO, hgO⟩ : ∃ g, g = w.heap.size + 1 := ⟨_, rfl⟩
  rw [← hgO] at O ⊢
  obtain ⟨gH, hgH⟩ : ∃ g, g = w.heap.size := ⟨_, rfl⟩
  rw [← hgH] at H ⊢
  have H_b : w.heap.size ≤ gH := by omega
  have O_b : w.heap.size ≤ gO := by omega
  have R_b : w.heap.size ≤ gR := by omega
  have ne_H_O : gH ≠ gO := by omega
  have ne_H_R : gH ≠ gR := by omega
  have ne_O_R : gO ≠ gR := by omega
  clear hgH hgO hgR
  have O_13 := O.at_ (v := .int .u64 ((word : Nat) : Int)) 13 rfl
  have O_14 := O.at_ (v := .bool (full)) 14 rfl
  have O_16 := O.at_ (v := .int .i64 (at_)) 16 rfl
  have O_8 := O.at_ (v := .int .i64 (phase)) 8 rfl
  have O_z := O.lt
  have O_f13 := O.fz 13
  have O_f14 := O.fz 14
  have O_f16 := O.fz 16
  have O_f8 := O.fz 8
  go_upto_region 5 with (fail)
  replace H := H.far (p := ⟨gO, 13, none⟩) ne_H_O (.int .u64 0)
  replace R := R.far (p := ⟨gO, 13, none⟩) (Ne.symm ne_O_R) (.int .u64 0)
  replace O := O.set_ 13 (.int .u64 0)
  replace K := K.setCell (p := ⟨gO, 13, none⟩) O_b (.int .u64 0)
  replace H := H.far (p := ⟨gO, 14, none⟩) ne_H_O (.bool false)
  replace R := R.far (p := ⟨gO, 14, none⟩) (Ne.symm ne_O_R) (.bool false)
  replace O := O.set_ 14 (.bool false)
  replace K := K.setCell (p := ⟨gO, 14, none⟩) O_b (.bool false)
  replace H := H.far (p := ⟨gO, 16, none⟩) ne_H_O (.int .i64 0)
  replace R := R.far (p := ⟨gO, 16, none⟩) (Ne.symm ne_O_R) (.int .i64 0)
  replace O := O.set_ 16 (.int .i64 0)
  replace K := K.setCell (p := ⟨gO, 16, none⟩) O_b (.int .i64 0)
  replace H := H.far (p := ⟨gO, 8, none⟩) ne_H_O (.int .i64 0)
  replace R := R.far (p := ⟨gO, 8, none⟩) (Ne.symm ne_O_R) (.int .i64 0)
  replace O := O.set_ 8 (.int .i64 0)
  replace K := K.setCell (p := ⟨gO, 8, none⟩) O_b (.int .i64 0)
  replace O : Bk (((((w1).setCell ⟨gO, 13, none⟩ (.int .u64 0)).setCell ⟨gO, 14, none⟩ (.bool false)).setCell ⟨gO, 16, none⟩ (.int .i64 0)).setCell ⟨gO, 8, none⟩ (.int .i64 0)) gO 38 (opv ⟨(some ⟨b, o, none⟩), n0, c0, A1, n1, c1, A2, n2, c2, A3, n3, c3⟩ ⟨kind, addr, err, aad, used, 0, shard, sought, leaf, bit, 0, false, 0, tries, (j : Int), stamp⟩) := O
  clear O_13 O_14 O_16 O_8 O_f13 O_f14 O_f16 O_f8 O_z
  generalize ((((w1).setCell ⟨gO, 13, none⟩ (.int .u64 0)).setCell ⟨gO, 14, none⟩ (.bool false)).setCell ⟨gO, 16, none⟩ (.int .i64 0)).setCell ⟨gO, 8, none⟩ (.int .i64 0) = w2 at H O R K ⊢
  have O_0 := O.at_ (v := .int .i64 (kind)) 0 rfl
  have O_18 := O.at_ (v := .int .i64 ((j : Int))) 18 rfl
  have O_2 := O.at_ (v := .slice (some ⟨b, o, none⟩) n0 c0) 2 rfl
  have O_z := O.lt
  have O_f18 := O.fz 18
  go_upto_region 7 with (fail)
  replace H := H.far (p := ⟨gO, 18, none⟩) ne_H_O (.int .i64 ((j : Int) + 1))
  replace R := R.far (p := ⟨gO, 18, none⟩) (Ne.symm ne_O_R) (.int .i64 ((j : Int) + 1))
  replace O := O.set_ 18 (.int .i64 ((j : Int) + 1))
  replace K := K.setCell (p := ⟨gO, 18, none⟩) O_b (.int .i64 ((j : Int) + 1))
  replace O : Bk ((w2).setCell ⟨gO, 18, none⟩ (.int .i64 ((j : Int) + 1))) gO 38 (opv ⟨(some ⟨b, o, none⟩), n0, c0, A1, n1, c1, A2, n2, c2, A3, n3, c3⟩ ⟨kind, addr, err, aad, used, 0, shard, sought, leaf, bit, 0, false, 0, tries, ((j : Int) + 1), stamp⟩) := O
  clear O_0 O_18 O_2 O_z O_f18
  generalize (w2).setCell ⟨gO, 18, none⟩ (.int .i64 ((j : Int) + 1)) = w3 at H O R K ⊢
  have O_8 := O.at_ (v := .int .i64 0) 8 rfl
  have O_z := O.lt
  have O_f8 := O.fz 8
  go_upto_region 8 with (fail)
  replace H := H.far (p := ⟨gO, 8, none⟩) ne_H_O (.int .i64 8)
  replace R := R.far (p := ⟨gO, 8, none⟩) (Ne.symm ne_O_R) (.int .i64 8)
  replace O := O.set_ 8 (.int .i64 8)
  replace K := K.setCell (p := ⟨gO, 8, none⟩) O_b (.int .i64 8)
  replace O : Bk ((w3).setCell ⟨gO, 8, none⟩ (.int .i64 8)) gO 38 (opv ⟨(some ⟨b, o, none⟩), n0, c0, A1, n1, c1, A2, n2, c2, A3, n3, c3⟩ ⟨kind, addr, err, aad, used, 8, shard, sought, leaf, bit, 0, false, 0, tries, ((j : Int) + 1), stamp⟩) := O
  clear O_8 O_z O_f8
  generalize (w3).setCell ⟨gO, 8, none⟩ (.int .i64 8) = w4 at H O R K ⊢
  have e1 : IntKind.i64.wrap ((j : Int) + 1) = (j : Int) + 1 := IntWalk.i64_in _ (by omega)
  have e2 : ((j : Int) + 1).toNat = j + 1 := by omega
  have e3 : (0 : Int) ≤ (j : Int) + 1 := by omega
  have e4 : (j : Int) + 1 < (n0 : Int) := by omega
  refine wp_region_held_drew (S := fun w' => Below w4.heap.size w4 w') (by kernel_rfl) (Below.refl _ _).drew (fun hHeld => ?_)
  refine wpAnyH_take (i := 0) (oi := ⟨some 31, _, _, _, _, _⟩) (v := ?_) rfl (by kernel_rfl) (by kernel_rfl) (by kernel_rfl) (fun _ _ _ h => h) (Or.inl ⟨by rfl, ?_⟩) hHeld ?_
  rotate_left
  · intro ww hSw
    try dsimp only at hSw
    go_simp
    try with_reducible rfl
    try omega
  try simp only [Act.put, List.setIfInBounds_toArray, List.set_cons_zero, List.set_cons_succ]
  refine wpAnyH_take (i := 1) (oi := ⟨some 32, _, _, _, _, _⟩) (v := ?_) rfl (by kernel_rfl) (by kernel_rfl) (by kernel_rfl) (fun _ _ _ h => h) (Or.inl ⟨by rfl, ?_⟩) hHeld ?_
  rotate_left
  · intro ww hSw
    try dsimp only at hSw
    have H_0 := (H.below hSw).at_ (v := .int .u32 a) 0 rfl
    have H_1 := (H.below hSw).at_ (v := .int .i64 p) 1 rfl
    have O_2 := (O.below hSw).at_ (v := .slice (some ⟨b, o, none⟩) n0 c0) 2 rfl
    have O_18 := (O.below hSw).at_ (v := .int .i64 ((j : Int) + 1)) 18 rfl
    have X := ((Below.then_ K hSw).cell (p := ⟨b, o + (j + 1), none⟩) hb).trans hc
    go_simp
    try with_reducible rfl
    try omega
  try simp only [Act.put, List.setIfInBounds_toArray, List.set_cons_zero, List.set_cons_succ]
  refine wpAnyH_take (i := 2) (oi := ⟨some 33, _, _, _, _, _⟩) (v := ?_) rfl (by kernel_rfl) (by kernel_rfl) (by kernel_rfl) (fun _ _ _ h => h) (Or.inl ⟨by rfl, ?_⟩) hHeld ?_
  rotate_left
  · intro ww hSw
    try dsimp only at hSw
    go_simp
    try with_reducible rfl
    try omega
  try simp only [Act.put, List.setIfInBounds_toArray, List.set_cons_zero, List.set_cons_succ]
  refine wpAnyH_take (i := 3) (oi := ⟨some 34, _, _, _, _, _⟩) (v := ?_) rfl (by kernel_rfl) (by kernel_rfl) (by kernel_rfl) (fun _ _ _ h => h) (Or.inl ⟨by rfl, ?_⟩) hHeld ?_
  rotate_left
  · intro ww hSw
    try dsimp only at hSw
    go_simp
    try with_reducible rfl
    try omega
  try simp only [Act.put, List.setIfInBounds_toArray, List.set_cons_zero, List.set_cons_succ]
  refine wpAnyH_take (i := 4) (oi := ⟨some 35, _, _, _, _, _⟩) (v := ?_) rfl (by kernel_rfl) (by kernel_rfl) (by kernel_rfl) (fun _ _ _ h => h) (Or.inl ⟨by rfl, ?_⟩) hHeld ?_
  rotate_left
  · intro ww hSw
    try dsimp only at hSw
    have H_0 := (H.below hSw).at_ (v := .int .u32 a) 0 rfl
    have H_1 := (H.below hSw).at_ (v := .int .i64 p) 1 rfl
    have O_2 := (O.below hSw).at_ (v := .slice (some ⟨b, o, none⟩) n0 c0) 2 rfl
    have O_18 := (O.below hSw).at_ (v := .int .i64 ((j : Int) + 1)) 18 rfl
    have X := ((Below.then_ K hSw).cell (p := ⟨b, o + (j + 1), none⟩) hb).trans hc
    go_simp
    try with_reducible rfl
    try omega
  try simp only [Act.put, List.setIfInBounds_toArray, List.set_cons_zero, List.set_cons_succ]
  refine wpAnyH_take (i := 5) (oi := ⟨some 36, _, _, _, _, _⟩) (v := ?_) rfl (by kernel_rfl) (by kernel_rfl) (by kernel_rfl) (fun _ _ _ h => h) (Or.inl ⟨by rfl, ?_⟩) hHeld ?_
  rotate_left
  · intro ww hSw
    try dsimp only at hSw
    go_simp
    try with_reducible rfl
    try omega
  try simp only [Act.put, List.setIfInBounds_toArray, List.set_cons_zero, List.set_cons_succ]
  refine wpAnyH_take (i := 6) (oi := ⟨some 37, _, _, _, _, _⟩) (v := ?_) rfl (by kernel_rfl) (by kernel_rfl) (by kernel_rfl) (fun _ _ _ h => h) (Or.inl ⟨by rfl, ?_⟩) hHeld ?_
  rotate_left
  · intro ww hSw
    try dsimp only at hSw
    have H_0 := (H.below hSw).at_ (v := .int .u32 a) 0 rfl
    have H_1 := (H.below hSw).at_ (v := .int .i64 p) 1 rfl
    have O_2 := (O.below hSw).at_ (v := .slice (some ⟨b, o, none⟩) n0 c0) 2 rfl
    have O_18 := (O.below hSw).at_ (v := .int .i64 ((j : Int) + 1)) 18 rfl
    have X := ((Below.then_ K hSw).cell (p := ⟨b, o + (j + 1), none⟩) hb).trans hc
    go_simp
    try with_reducible rfl
    try omega
  try simp only [Act.put, List.setIfInBounds_toArray, List.set_cons_zero, List.set_cons_succ]
  refine wpAnyH_take (i := 7) (oi := ⟨some 38, _, _, _, _, _⟩) (v := .pointer (some ⟨b, o + (j + 1), none⟩)) rfl (by kernel_rfl) (by kernel_rfl) (by kernel_rfl) (fun _ _ _ h => h) (Or.inl ⟨by rfl, ?_⟩) hHeld ?_
  · intro ww hSw
    try dsimp only at hSw
    go_simp
    try with_reducible rfl
    try omega
  try simp only [Act.put, List.setIfInBounds_toArray, List.set_cons_zero, List.set_cons_succ]
  refine wpAnyH_take (i := 8) (oi := ⟨some 39, _, _, _, _, _⟩) (v := ?_) rfl (by kernel_rfl) (by kernel_rfl) (by kernel_rfl) (fun _ _ _ h => h) (Or.inl ⟨by rfl, ?_⟩) hHeld ?_
  rotate_left
  · intro ww hSw
    try dsimp only at hSw
    have H_0 := (H.below hSw).at_ (v := .int .u32 a) 0 rfl
    have H_1 := (H.below hSw).at_ (v := .int .i64 p) 1 rfl
    have O_2 := (O.below hSw).at_ (v := .slice (some ⟨b, o, none⟩) n0 c0) 2 rfl
    have O_18 := (O.below hSw).at_ (v := .int .i64 ((j : Int) + 1)) 18 rfl
    have X := ((Below.then_ K hSw).cell (p := ⟨b, o + (j + 1), none⟩) hb).trans hc
    go_simp
    try with_reducible rfl
    try omega
  try simp only [Act.put, List.setIfInBounds_toArray, List.set_cons_zero, List.set_cons_succ]
  refine wpAnyH_ready (rs := [9]) (by kernel_rfl) (by simp) ?_
  refine AllReadyH.cons (o := ⟨some 40, _, _, _, _, _⟩) rfl (fun K0 hK => ?_) AllReadyH.nil
  go_simp
  refine ((T1 _).out).mono ?_
  rintro e ww ⟨rfl, K'⟩
  refine hK.out _ _ (Below.then_ hHeld K') (fun hHeld' => ?_)
  clear hHeld K' hK K0
  have hHeld := hHeld'
  clear hHeld'
  try simp only [Act.put, List.setIfInBounds_toArray, List.set_cons_zero, List.set_cons_succ]
  refine wpAnyH_take (i := 10) (oi := ⟨some 30, _, _, _, _, _⟩) (v := ?_) rfl (by kernel_rfl) (by kernel_rfl) (by kernel_rfl) (fun _ _ _ h => h) (Or.inl ⟨by rfl, ?_⟩) hHeld ?_
  rotate_left
  · intro ww hSw
    try dsimp only at hSw
    go_simp
    try with_reducible rfl
    try omega
  try simp only [Act.put, List.setIfInBounds_toArray, List.set_cons_zero, List.set_cons_succ]
  refine wpAnyH_take (i := 11) (oi := ⟨some 41, _, _, _, _, _⟩) (v := ?_) rfl (by kernel_rfl) (by kernel_rfl) (by kernel_rfl) (fun _ _ _ h => h) (Or.inl ⟨by rfl, ?_⟩) hHeld ?_
  rotate_left
  · intro ww hSw
    try dsimp only at hSw
    go_simp
    try with_reducible rfl
    try omega
  try simp only [Act.put, List.setIfInBounds_toArray, List.set_cons_zero, List.set_cons_succ]
  refine wpAnyH_take (i := 12) (oi := ⟨some 42, _, _, _, _, _⟩) (v := ?_) rfl (by kernel_rfl) (by kernel_rfl) (by kernel_rfl) (fun _ _ _ h => h) (Or.inl ⟨by rfl, ?_⟩) hHeld ?_
  rotate_left
  · intro ww hSw
    try dsimp only at hSw
    go_simp
    try with_reducible rfl
    try omega
  try simp only [Act.put, List.setIfInBounds_toArray, List.set_cons_zero, List.set_cons_succ]
  refine wpAnyH_take (i := 13) (oi := ⟨some 5, _, _, _, _, _⟩) (v := ?_) rfl (by kernel_rfl) (by kernel_rfl) (by kernel_rfl) (fun _ _ _ h => h) (Or.inl ⟨by rfl, ?_⟩) hHeld ?_
  rotate_left
  · intro ww hSw
    try dsimp only at hSw
    go_simp
    try with_reducible rfl
    try omega
  try simp only [Act.put, List.setIfInBounds_toArray, List.set_cons_zero, List.set_cons_succ]
  refine wpAnyH_take (i := 14) (oi := ⟨some 6, _, _, _, _, _⟩) (v := ?_) rfl (by kernel_rfl) (by kernel_rfl) (by kernel_rfl) (fun _ _ _ h => h) (Or.inl ⟨by rfl, ?_⟩) hHeld ?_
  rotate_left
  · intro ww hSw
    try dsimp only at hSw
    go_simp
    try with_reducible rfl
    try omega
  try simp only [Act.put, List.setIfInBounds_toArray, List.set_cons_zero, List.set_cons_succ]
  refine wpAnyH_done (by kernel_rfl) ?_ _
  replace H := H.below hHeld
  replace O := O.below hHeld
  replace R := R.below hHeld
  replace K := Below.then_ K hHeld
  clear hHeld
  clear e1 e2 e3 e4
  have O_11 := O.at_ (v := .int .i64 (leaf)) 11 rfl
  have O_12 := O.at_ (v := .int .i64 (bit)) 12 rfl
  have O_z := O.lt
  have O_f11 := O.fz 11
  have O_f12 := O.fz 12
  go_upto_region 11 with (fail)
  simp only [hr]
  replace H := H.far (p := ⟨gO, 11, none⟩) ne_H_O (.int .i64 (q : Nat))
  replace R := R.far (p := ⟨gO, 11, none⟩) (Ne.symm ne_O_R) (.int .i64 (q : Nat))
  replace O := O.set_ 11 (.int .i64 (q : Nat))
  replace K := K.setCell (p := ⟨gO, 11, none⟩) O_b (.int .i64 (q : Nat))
  replace H := H.far (p := ⟨gO, 12, none⟩) ne_H_O (.int .i64 (r : Nat))
  replace R := R.far (p := ⟨gO, 12, none⟩) (Ne.symm ne_O_R) (.int .i64 (r : Nat))
  replace O := O.set_ 12 (.int .i64 (r : Nat))
  replace K := K.setCell (p := ⟨gO, 12, none⟩) O_b (.int .i64 (r : Nat))
  replace O : Bk (((ww).setCell ⟨gO, 11, none⟩ (.int .i64 (q : Nat))).setCell ⟨gO, 12, none⟩ (.int .i64 (r : Nat))) gO 38 (opv ⟨(some ⟨b, o, none⟩), n0, c0, A1, n1, c1, A2, n2, c2, A3, n3, c3⟩ ⟨kind, addr, err, aad, used, 8, shard, sought, (q : Int), (r : Int), 0, false, 0, tries, ((j : Int) + 1), stamp⟩) := O
  clear O_11 O_12 O_z O_f11 O_f12
  generalize ((ww).setCell ⟨gO, 11, none⟩ (.int .i64 (q : Nat))).setCell ⟨gO, 12, none⟩ (.int .i64 (r : Nat)) = w5 at H O R K ⊢
  go_wp2_with (first | (refine wpList_load_row rfl 38 (.tmp 3) rfl gO rfl _ _ (0, 0) _ O Try.underlying38 rfl op_sz ?_) | (refine wpList_store_row rfl 38 (.tmp 4) (.tmp 49) rfl gR _ rfl rfl _ _ R op_sz rfl (opv_one _ _) ?_))
  replace H := H.row_far ne_H_R (opv ⟨(some ⟨b, o, none⟩), n0, c0, A1, n1, c1, A2, n2, c2, A3, n3, c3⟩ ⟨kind, addr, err, aad, used, 8, shard, sought, (q : Int), (r : Int), 0, false, 0, tries, ((j : Int) + 1), stamp⟩)
  replace O := O.row_far ne_O_R (opv ⟨(some ⟨b, o, none⟩), n0, c0, A1, n1, c1, A2, n2, c2, A3, n3, c3⟩ ⟨kind, addr, err, aad, used, 8, shard, sought, (q : Int), (r : Int), 0, false, 0, tries, ((j : Int) + 1), stamp⟩)
  replace R := R.row (opv ⟨(some ⟨b, o, none⟩), n0, c0, A1, n1, c1, A2, n2, c2, A3, n3, c3⟩ ⟨kind, addr, err, aad, used, 8, shard, sought, (q : Int), (r : Int), 0, false, 0, tries, ((j : Int) + 1), stamp⟩)
  replace K := below_setRow K R_b (opv ⟨(some ⟨b, o, none⟩), n0, c0, A1, n1, c1, A2, n2, c2, A3, n3, c3⟩ ⟨kind, addr, err, aad, used, 8, shard, sought, (q : Int), (r : Int), 0, false, 0, tries, ((j : Int) + 1), stamp⟩)
  generalize w5.setRow gR (opv ⟨(some ⟨b, o, none⟩), n0, c0, A1, n1, c1, A2, n2, c2, A3, n3, c3⟩ ⟨kind, addr, err, aad, used, 8, shard, sought, (q : Int), (r : Int), 0, false, 0, tries, ((j : Int) + 1), stamp⟩) = w6 at H O R K ⊢
  refine bodyPost_ret (v := .agg (opv ⟨(some ⟨b, o, none⟩), n0, c0, A1, n1, c1, A2, n2, c2, A3, n3, c3⟩ ⟨kind, addr, err, aad, used, 8, shard, sought, (q : Int), (r : Int), 0, false, 0, tries, ((j : Int) + 1), stamp⟩)) ?_ rfl ?_
  · exact results_cell_row (fn := Try.f16) Try.results16 _ _ gR _ _ (0, 0) _ rfl R Try.underlying38 rfl op_sz
  exact ⟨rfl, K⟩
theorem rgoes_any (ha : a < 4294967296) (hM : Much a p M) (hn : h.n0 ≤ 65536) (hI : IS .u32 lo w h.A0 h.n0 h.c0 xs) (hin : InB a M h.n0 xs) (h1 : 0 ≤ s.item) (h2 : s.item ≤ 65536) :
    Calls Try.prog 16 #[.agg #[.int .u32 a, .int .i64 p, .slice A n c, .int .i64 sh, .int .i64 wo, .int .i64 qu, .int .i64 tr], .agg (opv h s)] w (RetOp h (gon a h.n0 xs s) w) := by
  cases hf : fur h.n0 s with
  | true => unfold gon; rw [if_pos hf]; exact rgoes_more ha hM hn hI hin hf
  | false =>
    unfold gon; rw [if_neg (by simp [hf])]
    by_cases h0 : s.kind = 4
    · exact rgoes_end1 h0 hn h1 h2 (fun h3 => by simp [fur, h0, h1, h3] at hf)
    · exact rgoes_end0 h0
end
end Go.Proofs.Ytlfdekeahplidaa

