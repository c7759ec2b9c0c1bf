/-
  What the functions that these laws call answer, and what follows of it; conditions: those that each theorem names. In this file: GrantR13, GrantR16, GrantR17.
-/
import Derived.Test.YtghecdccdmeooaaGreatGrS16
/-
  What the document's Step of layer 13 answers of a Grant. Conditions: a block that may be, as many cells as there are, a leaf and a bit that there are.
-/
namespace Go.Proofs.YtghecdccdmeooaaGreat
set_option maxRecDepth 100000
set_option maxRecDepth 100000
open Go.RowKit
set_option linter.unusedVariables false
section
variable {w w1 : World} {lo a m d M ns N hd k t tt lf cl b x : Nat} {p wo qu tr : Int} {A B : Option Addr} {n c : Nat} {zs : List Int} {sn ys : List Nat} {h : Hd} {s : Sc}
set_option maxHeartbeats 2000000 in
theorem rlk_found (ha : a < 4294967296) (hM : Much a p M) (hL : Lists lo w h (gl [])) (hU : US w B m d ys) (hm : m = lv M + tv M + 1) (hk : s.kind = 1) (hlf : s.leaf = (lf : Int)) (hlv : lf < lv M) (hph : s.phase = 2) (hb : fb (gt ys lf) 32 = true) :
    Calls Tryz.prog 42 #[.agg #[.int .u32 (a : Int), .int .i64 p, .slice A n c, .int .i64 (ns : Int), .int .i64 wo, .int .i64 qu, .int .i64 tr], .slice B m d, .agg (opv h s)] w (RetRG (fndS s (gt ys lf) (fi (gt ys lf) 32)) (gl []) m ys false h B w) := by
  have hm6 : m ≤ 65536 := by have := lv_le hM.most; have := tv_le hM.most; omega
  have z3 := Lib.hid (gl_len hL).2.2.2
  have hZ := fun lo2 w2 => gl_emp hL lo2 w2
  have hZ2 := fun lo2 w2 => gl_none hL lo2 w2
  have hcm : lf < m := by omega
  obtain ⟨bb, oo, hBe, hbb, hcc⟩ := hU.get hcm
  subst hBe
  have hcm2 : (lf : Int) < (m : Int) := by omega
  have hx64 := gt_lt hU.fit lf
  have TF := fun w => Lib.hid (rwfirst_any (gt ys lf) hx64 w)
  rw [hb] at TF
  obtain ⟨f, hf⟩ : ∃ f, f = fi (gt ys lf) 32 := ⟨_, rfl⟩
  obtain ⟨x, hx⟩ : ∃ x, x = gt ys lf := ⟨_, rfl⟩
  simp only [← hf] at TF ⊢
  simp only [← hx] at TF ⊢
  rw [← hx] at hcc
  clear hb hf hx hL hm hm6 hx64
  rcases s with ⟨kind, addr, err, aad, used, phase, shard, sought, leaf, bit, word, full, at_, tries, item, stamp⟩
  rcases h with ⟨A0, n0, c0, A1, n1, c1, A2, n2, c2, A3, n3, c3⟩
  try dsimp only at *
  subst hk hlf hph
  go_enter Tryz.func42, Tryz.ntmps42
  go_upto_region 1 with (fail)
  have L := Loc.start w
  replace L := (((L).alloc #[.int .u32 (a : Int), .int .i64 p, .slice A n c, .int .i64 (ns : Int), .int .i64 wo, .int .i64 qu, .int .i64 tr] 27).alloc (opv ⟨A0, n0, c0, A1, n1, c1, A2, n2, c2, A3, n3, c3⟩ ⟨1, addr, err, aad, used, 2, shard, sought, (lf : Int), bit, word, full, at_, tries, item, stamp⟩) 40).alloc #[.int .i64 0, .int .u32 0, .slice none 0 0, .int .i64 0, .int .u32 0, .bool false, .slice none 0 0, .slice none 0 0, .int .i64 0, .int .i64 0, .int .i64 0, .int .i64 0, .int .i64 0, .int .u64 0, .bool false, .slice none 0 0, .int .i64 0, .int .i64 0, .int .i64 0, .int .i64 0] 40
  try simp only [World.size_alloc] at L
  replace L := L.is 0 (opv hd0 sc0) rfl
  try dsimp only [nput] at L
  generalize (((w).alloc (.cells #[.int .u32 (a : Int), .int .i64 p, .slice A n c, .int .i64 (ns : Int), .int .i64 wo, .int .i64 qu, .int .i64 tr] 27)).alloc (.cells (opv ⟨A0, n0, c0, A1, n1, c1, A2, n2, c2, A3, n3, c3⟩ ⟨1, addr, err, aad, used, 2, shard, sought, (lf : Int), bit, word, full, at_, tries, item, stamp⟩) 40)).alloc (.cells #[.int .i64 0, .int .u32 0, .slice none 0 0, .int .i64 0, .int .u32 0, .bool false, .slice none 0 0, .slice none 0 0, .int .i64 0, .int .i64 0, .int .i64 0, .int .i64 0, .int .i64 0, .int .u64 0, .bool false, .slice none 0 0, .int .i64 0, .int .i64 0, .int .i64 0, .int .i64 0] 40) = w1 at L ⊢
  generalize w.heap.size + 1 + 1 = gR at L ⊢
  generalize w.heap.size + 1 = gO at L ⊢
  generalize w.heap.size = gH at L ⊢
  have O_8 := L.at_ 1 8 rfl (v := .int .i64 2) rfl
  have O_11 := L.at_ 1 11 rfl (v := .int .i64 (lf : Int)) rfl
  have O_z := L.lt 1 rfl
  have X := (L.K.cell (p := ⟨bb, oo + lf, none⟩) hbb).trans hcc
  go_wp2_with fail
  refine ((TF _).out).mono ?_
  rintro e w' ⟨rfl, rfl⟩
  clear O_8 O_11 O_z X
  have O_11 := L.at_ 1 11 rfl (v := .int .i64 (lf : Int)) rfl
  have O_13 := L.at_ 1 13 rfl (v := .int .u64 ((word : Nat) : Int)) rfl
  have O_z := L.lt 1 rfl
  have O_f13 := L.fz 1 13 rfl
  have X := (L.K.cell (p := ⟨bb, oo + lf, none⟩) hbb).trans hcc
  go_upto_region 5 with fail
  clear O_11 O_13 O_z O_f13 X
  replace L := ((L.set 1 13 rfl (.int .u64 ((x : Nat) : Int))).is 1 (opv ⟨A0, n0, c0, A1, n1, c1, A2, n2, c2, A3, n3, c3⟩ ⟨1, addr, err, aad, used, 2, shard, sought, (lf : Int), bit, x, full, at_, tries, item, stamp⟩) rfl)
  try dsimp only [nput] at L
  generalize (w1).setCell ⟨gO, 13, none⟩ (.int .u64 ((x : Nat) : Int)) = w2 at L ⊢
  have O_12 := L.at_ 1 12 rfl (v := .int .i64 bit) rfl
  have O_z := L.lt 1 rfl
  have O_f12 := L.fz 1 12 rfl
  go_upto_region 6 with fail
  clear O_12 O_z O_f12
  replace L := ((L.set 1 12 rfl (.int .i64 (f : Int))).is 1 (opv ⟨A0, n0, c0, A1, n1, c1, A2, n2, c2, A3, n3, c3⟩ ⟨1, addr, err, aad, used, 2, shard, sought, (lf : Int), (f : Int), x, full, at_, tries, item, stamp⟩) rfl)
  try dsimp only [nput] at L
  generalize (w2).setCell ⟨gO, 12, none⟩ (.int .i64 (f : Int)) = w3 at L ⊢
  have O_8 := L.at_ 1 8 rfl (v := .int .i64 2) rfl
  have O_z := L.lt 1 rfl
  have O_f8 := L.fz 1 8 rfl
  go_upto_region 7 with fail
  clear O_8 O_z O_f8
  replace L := ((L.set 1 8 rfl (.int .i64 3)).is 1 (opv ⟨A0, n0, c0, A1, n1, c1, A2, n2, c2, A3, n3, c3⟩ ⟨1, addr, err, aad, used, 3, shard, sought, (lf : Int), (f : Int), x, full, at_, tries, item, stamp⟩) rfl)
  try dsimp only [nput] at L
  generalize (w3).setCell ⟨gO, 8, none⟩ (.int .i64 3) = w4 at L ⊢
  replace L := L.drew
  refine wp_region_held_drew (S := fun w' => ∃ v_R : Array Value, v_R.size = 20 ∧ Loc w w' [(gR, 40, v_R), (gO, 40, opv ⟨A0, n0, c0, A1, n1, c1, A2, n2, c2, A3, n3, c3⟩ ⟨1, addr, err, aad, used, 3, shard, sought, (lf : Int), (f : Int), x, full, at_, tries, item, stamp⟩), (gH, 27, #[.int .u32 (a : Int), .int .i64 p, .slice A n c, .int .i64 (ns : Int), .int .i64 wo, .int .i64 qu, .int .i64 tr])] []) (by kernel_rfl) (⟨_, rfl, L⟩) (fun hHeld => ?_)
  generalize w4.drew = v5 at hHeld L ⊢
  refine wpAnyH_take (i := 0) (oi := ⟨some 35, _, _, _, _, _⟩) (v := .slice (some ⟨bb, oo, none⟩) m d) rfl (by kernel_rfl) (by kernel_rfl) (by kernel_rfl) (fun _ _ _ h => h) (Or.inl ⟨by rfl, ?_⟩) hHeld ?_
  · (intro ww hS; go_simp; try with_reducible rfl; try omega)
  try simp only [Act.put, sA, sZ, sS]
  refine wpAnyH_take (i := 1) (oi := ⟨some 36, _, _, _, _, _⟩) (v := .agg (opv ⟨A0, n0, c0, A1, n1, c1, A2, n2, c2, A3, n3, c3⟩ ⟨1, addr, err, aad, used, 3, shard, sought, (lf : Int), (f : Int), x, full, at_, tries, item, stamp⟩)) rfl (by kernel_rfl) (by kernel_rfl) (by kernel_rfl) (fun _ _ _ h => h) (yieldsIf_load_row (by rfl) 40 (.tmp 5) rfl gO rfl 40 _ (0, 0) _ (fun _ hS => ((hS.choose_spec.2).bk_ 1 rfl)) Tryz.underlying40 rfl op_sz) hHeld ?_
  try simp only [Act.put, sA, sZ, sS]
  refine wpAnyH_take (i := 2) (oi := ⟨some 6, _, _, _, _, _⟩) (v := .slice (some ⟨bb, oo, none⟩) m d) rfl (by kernel_rfl) (by kernel_rfl) (by kernel_rfl) (fun _ _ _ h => h) (Or.inl ⟨by rfl, ?_⟩) hHeld ?_
  · (intro ww hS; go_simp; try with_reducible rfl; try omega)
  try simp only [Act.put, sA, sZ, sS]
  refine wpAnyH_ready (rs := [3]) (by kernel_rfl) (by simp) ?_
  refine AllReadyH.cons (o := ⟨none, _, _, _, _, _⟩) rfl (fun K0 hK => ?_) AllReadyH.nil
  rw [if_pos (by rfl)]
  refine wp_store_row 40 (.tmp 7) (.tmp 36) rfl gR _ rfl rfl _ _ (L.bk_ 0 rfl) op_sz rfl (opv_one _ _) ?_
  replace L := L.row 0 rfl (opv ⟨A0, n0, c0, A1, n1, c1, A2, n2, c2, A3, n3, c3⟩ ⟨1, addr, err, aad, used, 3, shard, sought, (lf : Int), (f : Int), x, full, at_, tries, item, stamp⟩)
  try dsimp only [nput] at L
  refine hK.out _ _ ⟨_, rfl, L⟩ (fun hHeld' => ?_)
  clear hHeld hK K0
  have hHeld := hHeld'
  clear hHeld'
  generalize v5.setRow gR (opv ⟨A0, n0, c0, A1, n1, c1, A2, n2, c2, A3, n3, c3⟩ ⟨1, addr, err, aad, used, 3, shard, sought, (lf : Int), (f : Int), x, full, at_, tries, item, stamp⟩) = v6 at hHeld L ⊢
  try simp only [Act.put]
  refine wpAnyH_take (i := 4) (oi := ⟨some 8, _, _, _, _, _⟩) (v := .bool false) rfl (by kernel_rfl) (by kernel_rfl) (by kernel_rfl) (fun _ _ _ h => h) (Or.inl ⟨by rfl, ?_⟩) hHeld ?_
  · (intro ww hS; go_simp; try with_reducible rfl; try omega)
  try simp only [Act.put, sA, sZ, sS]
  refine wpAnyH_done (by kernel_rfl) ?_ _
  clear hHeld
  go_wp2
  refine bodyPost_ret (v := .tuple #[.slice (some ⟨bb, oo, none⟩) m d, .agg (opv ⟨A0, n0, c0, A1, n1, c1, A2, n2, c2, A3, n3, c3⟩ ⟨1, addr, err, aad, used, 3, shard, sought, (lf : Int), (f : Int), x, full, at_, tries, item, stamp⟩), .bool false]) ?_ rfl ?_
  · exact results_tct (fn := Tryz.f42) Tryz.results42 _ _ gR _ _ (0, 0) _ rfl (L.bk_ 0 rfl) Tryz.underlying40 rfl op_sz
  exact ⟨_, _, _, rfl, hU.below L.K, hZ _ _, fun k _ h => h, sa_zero z3.out, L.K⟩
set_option maxHeartbeats 2000000 in
theorem rlk_seek (ha : a < 4294967296) (hM : Much a p M) (hL : Lists lo w h (gl [])) (hU : US w B m d ys) (hm : m = lv M + tv M + 1) (hk : s.kind = 1) (hlf : s.leaf = (lf : Int)) (hlv : lf < lv M) (hph : s.phase = 2) (hb : fb (gt ys lf) 32 = false) (hso : s.sought = (k : Int)) (hk9 : k ≤ 65536) (hlt : k + 1 < ns) :
    Calls Tryz.prog 42 #[.agg #[.int .u32 (a : Int), .int .i64 p, .slice A n c, .int .i64 (ns : Int), .int .i64 wo, .int .i64 qu, .int .i64 tr], .slice B m d, .agg (opv h s)] w (RetRG (seekS s) (gl []) m ys false h B w) := by
  have hm6 : m ≤ 65536 := by have := lv_le hM.most; have := tv_le hM.most; omega
  have z3 := Lib.hid (gl_len hL).2.2.2
  have hZ := fun lo2 w2 => gl_emp hL lo2 w2
  have hZ2 := fun lo2 w2 => gl_none hL lo2 w2
  have hcm : lf < m := by omega
  obtain ⟨bb, oo, hBe, hbb, hcc⟩ := hU.get hcm
  subst hBe
  have hcm2 : (lf : Int) < (m : Int) := by omega
  have hx64 := gt_lt hU.fit lf
  have TF := fun w => Lib.hid (rwfirst_any (gt ys lf) hx64 w)
  rw [hb] at TF
  obtain ⟨f, hf⟩ : ∃ f, f = fi (gt ys lf) 32 := ⟨_, rfl⟩
  obtain ⟨x, hx⟩ : ∃ x, x = gt ys lf := ⟨_, rfl⟩
  simp only [← hf] at TF ⊢
  simp only [← hx] at TF ⊢
  rw [← hx] at hcc
  have f1 : IntKind.i64.wrap ((k : Int) + 1) = (k : Int) + 1 := IntWalk.i64_in _ (by omega)
  have f2 : decide ((k : Int) + 1 < (ns : Int)) = true := by simp; omega
  have f3 : (k : Int) + 1 < (ns : Int) := by omega
  clear hb hf hx hL hm hm6 hx64 hlt hk9
  rcases s with ⟨kind, addr, err, aad, used, phase, shard, sought, leaf, bit, word, full, at_, tries, item, stamp⟩
  rcases h with ⟨A0, n0, c0, A1, n1, c1, A2, n2, c2, A3, n3, c3⟩
  try dsimp only at *
  subst hk hlf hph hso
  go_enter Tryz.func42, Tryz.ntmps42
  go_upto_region 1 with (fail)
  have L := Loc.start w
  replace L := (((L).alloc #[.int .u32 (a : Int), .int .i64 p, .slice A n c, .int .i64 (ns : Int), .int .i64 wo, .int .i64 qu, .int .i64 tr] 27).alloc (opv ⟨A0, n0, c0, A1, n1, c1, A2, n2, c2, A3, n3, c3⟩ ⟨1, addr, err, aad, used, 2, shard, (k : Int), (lf : Int), bit, word, full, at_, tries, item, stamp⟩) 40).alloc #[.int .i64 0, .int .u32 0, .slice none 0 0, .int .i64 0, .int .u32 0, .bool false, .slice none 0 0, .slice none 0 0, .int .i64 0, .int .i64 0, .int .i64 0, .int .i64 0, .int .i64 0, .int .u64 0, .bool false, .slice none 0 0, .int .i64 0, .int .i64 0, .int .i64 0, .int .i64 0] 40
  try simp only [World.size_alloc] at L
  replace L := L.is 0 (opv hd0 sc0) rfl
  try dsimp only [nput] at L
  generalize (((w).alloc (.cells #[.int .u32 (a : Int), .int .i64 p, .slice A n c, .int .i64 (ns : Int), .int .i64 wo, .int .i64 qu, .int .i64 tr] 27)).alloc (.cells (opv ⟨A0, n0, c0, A1, n1, c1, A2, n2, c2, A3, n3, c3⟩ ⟨1, addr, err, aad, used, 2, shard, (k : Int), (lf : Int), bit, word, full, at_, tries, item, stamp⟩) 40)).alloc (.cells #[.int .i64 0, .int .u32 0, .slice none 0 0, .int .i64 0, .int .u32 0, .bool false, .slice none 0 0, .slice none 0 0, .int .i64 0, .int .i64 0, .int .i64 0, .int .i64 0, .int .i64 0, .int .u64 0, .bool false, .slice none 0 0, .int .i64 0, .int .i64 0, .int .i64 0, .int .i64 0] 40) = w1 at L ⊢
  generalize w.heap.size + 1 + 1 = gR at L ⊢
  generalize w.heap.size + 1 = gO at L ⊢
  generalize w.heap.size = gH at L ⊢
  have O_8 := L.at_ 1 8 rfl (v := .int .i64 2) rfl
  have O_11 := L.at_ 1 11 rfl (v := .int .i64 (lf : Int)) rfl
  have O_z := L.lt 1 rfl
  have X := (L.K.cell (p := ⟨bb, oo + lf, none⟩) hbb).trans hcc
  go_wp2_with fail
  refine ((TF _).out).mono ?_
  rintro e w' ⟨rfl, rfl⟩
  clear O_8 O_11 O_z X
  have O_10 := L.at_ 1 10 rfl (v := .int .i64 (k : Int)) rfl
  have O_z := L.lt 1 rfl
  have O_f10 := L.fz 1 10 rfl
  go_upto_region 9 with fail
  clear O_10 O_z O_f10
  replace L := ((L.set 1 10 rfl (.int .i64 (((k : Int) + 1)))).is 1 (opv ⟨A0, n0, c0, A1, n1, c1, A2, n2, c2, A3, n3, c3⟩ ⟨1, addr, err, aad, used, 2, shard, ((k : Int) + 1), (lf : Int), bit, word, full, at_, tries, item, stamp⟩) rfl)
  try dsimp only [nput] at L
  generalize (w1).setCell ⟨gO, 10, none⟩ (.int .i64 (((k : Int) + 1))) = w2 at L ⊢
  have O_13 := L.at_ 1 13 rfl (v := .int .u64 ((word : Nat) : Int)) rfl
  have O_z := L.lt 1 rfl
  have O_f13 := L.fz 1 13 rfl
  go_upto_region 10 with fail
  clear O_13 O_z O_f13
  replace L := ((L.set 1 13 rfl (.int .u64 0)).is 1 (opv ⟨A0, n0, c0, A1, n1, c1, A2, n2, c2, A3, n3, c3⟩ ⟨1, addr, err, aad, used, 2, shard, ((k : Int) + 1), (lf : Int), bit, 0, full, at_, tries, item, stamp⟩) rfl)
  try dsimp only [nput] at L
  generalize (w2).setCell ⟨gO, 13, none⟩ (.int .u64 0) = w3 at L ⊢
  have O_16 := L.at_ 1 16 rfl (v := .int .i64 at_) rfl
  have O_z := L.lt 1 rfl
  have O_f16 := L.fz 1 16 rfl
  go_upto_region 11 with fail
  clear O_16 O_z O_f16
  replace L := ((L.set 1 16 rfl (.int .i64 0)).is 1 (opv ⟨A0, n0, c0, A1, n1, c1, A2, n2, c2, A3, n3, c3⟩ ⟨1, addr, err, aad, used, 2, shard, ((k : Int) + 1), (lf : Int), bit, 0, full, 0, tries, item, stamp⟩) rfl)
  try dsimp only [nput] at L
  generalize (w3).setCell ⟨gO, 16, none⟩ (.int .i64 0) = w4 at L ⊢
  have O_10 := L.at_ 1 10 rfl (v := .int .i64 (((k : Int) + 1))) rfl
  have H_3 := L.at_ 2 3 rfl (v := .int .i64 (ns : Int)) rfl
  have O_8 := L.at_ 1 8 rfl (v := .int .i64 2) rfl
  have O_z := L.lt 1 rfl
  have H_z := L.lt 2 rfl
  have O_f8 := L.fz 1 8 rfl
  have ne_O_H := L.ne_ 1 2 rfl rfl (by decide)
  go_upto_region 15 with fail
  clear O_10 H_3 O_8 O_z H_z O_f8 ne_O_H
  replace L := ((L.set 1 8 rfl (.int .i64 1)).is 1 (opv ⟨A0, n0, c0, A1, n1, c1, A2, n2, c2, A3, n3, c3⟩ ⟨1, addr, err, aad, used, 1, shard, ((k : Int) + 1), (lf : Int), bit, 0, full, 0, tries, item, stamp⟩) rfl)
  try dsimp only [nput] at L
  generalize (w4).setCell ⟨gO, 8, none⟩ (.int .i64 1) = w5 at L ⊢
  replace L := L.drew
  refine wp_region_held_drew (S := fun w' => ∃ v_R : Array Value, v_R.size = 20 ∧ Loc w w' [(gR, 40, v_R), (gO, 40, opv ⟨A0, n0, c0, A1, n1, c1, A2, n2, c2, A3, n3, c3⟩ ⟨1, addr, err, aad, used, 1, shard, ((k : Int) + 1), (lf : Int), bit, 0, full, 0, tries, item, stamp⟩), (gH, 27, #[.int .u32 (a : Int), .int .i64 p, .slice A n c, .int .i64 (ns : Int), .int .i64 wo, .int .i64 qu, .int .i64 tr])] []) (by kernel_rfl) (⟨_, rfl, L⟩) (fun hHeld => ?_)
  generalize w5.drew = v6 at hHeld L ⊢
  refine wpAnyH_take (i := 0) (oi := ⟨some 51, _, _, _, _, _⟩) (v := .slice (some ⟨bb, oo, none⟩) m d) rfl (by kernel_rfl) (by kernel_rfl) (by kernel_rfl) (fun _ _ _ h => h) (Or.inl ⟨by rfl, ?_⟩) hHeld ?_
  · (intro ww hS; go_simp; try with_reducible rfl; try omega)
  try simp only [Act.put, sA, sZ, sS]
  refine wpAnyH_take (i := 1) (oi := ⟨some 52, _, _, _, _, _⟩) (v := .agg (opv ⟨A0, n0, c0, A1, n1, c1, A2, n2, c2, A3, n3, c3⟩ ⟨1, addr, err, aad, used, 1, shard, ((k : Int) + 1), (lf : Int), bit, 0, full, 0, tries, item, stamp⟩)) rfl (by kernel_rfl) (by kernel_rfl) (by kernel_rfl) (fun _ _ _ h => h) (yieldsIf_load_row (by rfl) 40 (.tmp 5) rfl gO rfl 40 _ (0, 0) _ (fun _ hS => ((hS.choose_spec.2).bk_ 1 rfl)) Tryz.underlying40 rfl op_sz) hHeld ?_
  try simp only [Act.put, sA, sZ, sS]
  refine wpAnyH_take (i := 2) (oi := ⟨some 6, _, _, _, _, _⟩) (v := .slice (some ⟨bb, oo, none⟩) m d) rfl (by kernel_rfl) (by kernel_rfl) (by kernel_rfl) (fun _ _ _ h => h) (Or.inl ⟨by rfl, ?_⟩) hHeld ?_
  · (intro ww hS; go_simp; try with_reducible rfl; try omega)
  try simp only [Act.put, sA, sZ, sS]
  refine wpAnyH_ready (rs := [3]) (by kernel_rfl) (by simp) ?_
  refine AllReadyH.cons (o := ⟨none, _, _, _, _, _⟩) rfl (fun K0 hK => ?_) AllReadyH.nil
  rw [if_pos (by rfl)]
  refine wp_store_row 40 (.tmp 7) (.tmp 52) rfl gR _ rfl rfl _ _ (L.bk_ 0 rfl) op_sz rfl (opv_one _ _) ?_
  replace L := L.row 0 rfl (opv ⟨A0, n0, c0, A1, n1, c1, A2, n2, c2, A3, n3, c3⟩ ⟨1, addr, err, aad, used, 1, shard, ((k : Int) + 1), (lf : Int), bit, 0, full, 0, tries, item, stamp⟩)
  try dsimp only [nput] at L
  refine hK.out _ _ ⟨_, rfl, L⟩ (fun hHeld' => ?_)
  clear hHeld hK K0
  have hHeld := hHeld'
  clear hHeld'
  generalize v6.setRow gR (opv ⟨A0, n0, c0, A1, n1, c1, A2, n2, c2, A3, n3, c3⟩ ⟨1, addr, err, aad, used, 1, shard, ((k : Int) + 1), (lf : Int), bit, 0, full, 0, tries, item, stamp⟩) = v7 at hHeld L ⊢
  try simp only [Act.put]
  refine wpAnyH_take (i := 4) (oi := ⟨some 8, _, _, _, _, _⟩) (v := .bool false) rfl (by kernel_rfl) (by kernel_rfl) (by kernel_rfl) (fun _ _ _ h => h) (Or.inl ⟨by rfl, ?_⟩) hHeld ?_
  · (intro ww hS; go_simp; try with_reducible rfl; try omega)
  try simp only [Act.put, sA, sZ, sS]
  refine wpAnyH_done (by kernel_rfl) ?_ _
  clear hHeld
  go_wp2
  refine bodyPost_ret (v := .tuple #[.slice (some ⟨bb, oo, none⟩) m d, .agg (opv ⟨A0, n0, c0, A1, n1, c1, A2, n2, c2, A3, n3, c3⟩ ⟨1, addr, err, aad, used, 1, shard, ((k : Int) + 1), (lf : Int), bit, 0, full, 0, tries, item, stamp⟩), .bool false]) ?_ rfl ?_
  · exact results_tct (fn := Tryz.f42) Tryz.results42 _ _ gR _ _ (0, 0) _ rfl (L.bk_ 0 rfl) Tryz.underlying40 rfl op_sz
  exact ⟨_, _, _, rfl, hU.below L.K, hZ _ _, fun k _ h => h, sa_zero z3.out, L.K⟩
set_option maxHeartbeats 2000000 in
theorem rlk_first (ha : a < 4294967296) (hM : Much a p M) (hL : Lists lo w h (gl [])) (hU : US w B m d ys) (hm : m = lv M + tv M + 1) (hk : s.kind = 1) (hlf : s.leaf = (lf : Int)) (hlv : lf < lv M) (hph : s.phase = 2) (hb : fb (gt ys lf) 32 = false) (hso : s.sought = (k : Int)) (hk9 : k ≤ 65536) (hlt : ¬ k + 1 < ns) :
    Calls Tryz.prog 42 #[.agg #[.int .u32 (a : Int), .int .i64 p, .slice A n c, .int .i64 (ns : Int), .int .i64 wo, .int .i64 qu, .int .i64 tr], .slice B m d, .agg (opv h s)] w (RetRG (firstS s) (gl []) m ys false h B w) := by
  have hm6 : m ≤ 65536 := by have := lv_le hM.most; have := tv_le hM.most; omega
  have z3 := Lib.hid (gl_len hL).2.2.2
  have hZ := fun lo2 w2 => gl_emp hL lo2 w2
  have hZ2 := fun lo2 w2 => gl_none hL lo2 w2
  have hcm : lf < m := by omega
  obtain ⟨bb, oo, hBe, hbb, hcc⟩ := hU.get hcm
  subst hBe
  have hcm2 : (lf : Int) < (m : Int) := by omega
  have hx64 := gt_lt hU.fit lf
  have TF := fun w => Lib.hid (rwfirst_any (gt ys lf) hx64 w)
  rw [hb] at TF
  obtain ⟨f, hf⟩ : ∃ f, f = fi (gt ys lf) 32 := ⟨_, rfl⟩
  obtain ⟨x, hx⟩ : ∃ x, x = gt ys lf := ⟨_, rfl⟩
  simp only [← hf] at TF ⊢
  simp only [← hx] at TF ⊢
  rw [← hx] at hcc
  have f1 : IntKind.i64.wrap ((k : Int) + 1) = (k : Int) + 1 := IntWalk.i64_in _ (by omega)
  have f2 : decide ((k : Int) + 1 < (ns : Int)) = false := by simp only [decide_eq_false_iff_not]; omega
  have f3 : ¬ ((k : Int) + 1 < (ns : Int)) := by omega
  clear hb hf hx hL hm hm6 hx64 hlt hk9
  rcases s with ⟨kind, addr, err, aad, used, phase, shard, sought, leaf, bit, word, full, at_, tries, item, stamp⟩
  rcases h with ⟨A0, n0, c0, A1, n1, c1, A2, n2, c2, A3, n3, c3⟩
  try dsimp only at *
  subst hk hlf hph hso
  go_enter Tryz.func42, Tryz.ntmps42
  go_upto_region 1 with (fail)
  have L := Loc.start w
  replace L := (((L).alloc #[.int .u32 (a : Int), .int .i64 p, .slice A n c, .int .i64 (ns : Int), .int .i64 wo, .int .i64 qu, .int .i64 tr] 27).alloc (opv ⟨A0, n0, c0, A1, n1, c1, A2, n2, c2, A3, n3, c3⟩ ⟨1, addr, err, aad, used, 2, shard, (k : Int), (lf : Int), bit, word, full, at_, tries, item, stamp⟩) 40).alloc #[.int .i64 0, .int .u32 0, .slice none 0 0, .int .i64 0, .int .u32 0, .bool false, .slice none 0 0, .slice none 0 0, .int .i64 0, .int .i64 0, .int .i64 0, .int .i64 0, .int .i64 0, .int .u64 0, .bool false, .slice none 0 0, .int .i64 0, .int .i64 0, .int .i64 0, .int .i64 0] 40
  try simp only [World.size_alloc] at L
  replace L := L.is 0 (opv hd0 sc0) rfl
  try dsimp only [nput] at L
  generalize (((w).alloc (.cells #[.int .u32 (a : Int), .int .i64 p, .slice A n c, .int .i64 (ns : Int), .int .i64 wo, .int .i64 qu, .int .i64 tr] 27)).alloc (.cells (opv ⟨A0, n0, c0, A1, n1, c1, A2, n2, c2, A3, n3, c3⟩ ⟨1, addr, err, aad, used, 2, shard, (k : Int), (lf : Int), bit, word, full, at_, tries, item, stamp⟩) 40)).alloc (.cells #[.int .i64 0, .int .u32 0, .slice none 0 0, .int .i64 0, .int .u32 0, .bool false, .slice none 0 0, .slice none 0 0, .int .i64 0, .int .i64 0, .int .i64 0, .int .i64 0, .int .i64 0, .int .u64 0, .bool false, .slice none 0 0, .int .i64 0, .int .i64 0, .int .i64 0, .int .i64 0] 40) = w1 at L ⊢
  generalize w.heap.size + 1 + 1 = gR at L ⊢
  generalize w.heap.size + 1 = gO at L ⊢
  generalize w.heap.size = gH at L ⊢
  have O_8 := L.at_ 1 8 rfl (v := .int .i64 2) rfl
  have O_11 := L.at_ 1 11 rfl (v := .int .i64 (lf : Int)) rfl
  have O_z := L.lt 1 rfl
  have X := (L.K.cell (p := ⟨bb, oo + lf, none⟩) hbb).trans hcc
  go_wp2_with fail
  refine ((TF _).out).mono ?_
  rintro e w' ⟨rfl, rfl⟩
  clear O_8 O_11 O_z X
  have O_10 := L.at_ 1 10 rfl (v := .int .i64 (k : Int)) rfl
  have O_z := L.lt 1 rfl
  have O_f10 := L.fz 1 10 rfl
  go_upto_region 9 with fail
  clear O_10 O_z O_f10
  replace L := ((L.set 1 10 rfl (.int .i64 (((k : Int) + 1)))).is 1 (opv ⟨A0, n0, c0, A1, n1, c1, A2, n2, c2, A3, n3, c3⟩ ⟨1, addr, err, aad, used, 2, shard, ((k : Int) + 1), (lf : Int), bit, word, full, at_, tries, item, stamp⟩) rfl)
  try dsimp only [nput] at L
  generalize (w1).setCell ⟨gO, 10, none⟩ (.int .i64 (((k : Int) + 1))) = w2 at L ⊢
  have O_13 := L.at_ 1 13 rfl (v := .int .u64 ((word : Nat) : Int)) rfl
  have O_z := L.lt 1 rfl
  have O_f13 := L.fz 1 13 rfl
  go_upto_region 10 with fail
  clear O_13 O_z O_f13
  replace L := ((L.set 1 13 rfl (.int .u64 0)).is 1 (opv ⟨A0, n0, c0, A1, n1, c1, A2, n2, c2, A3, n3, c3⟩ ⟨1, addr, err, aad, used, 2, shard, ((k : Int) + 1), (lf : Int), bit, 0, full, at_, tries, item, stamp⟩) rfl)
  try dsimp only [nput] at L
  generalize (w2).setCell ⟨gO, 13, none⟩ (.int .u64 0) = w3 at L ⊢
  have O_16 := L.at_ 1 16 rfl (v := .int .i64 at_) rfl
  have O_z := L.lt 1 rfl
  have O_f16 := L.fz 1 16 rfl
  go_upto_region 11 with fail
  clear O_16 O_z O_f16
  replace L := ((L.set 1 16 rfl (.int .i64 0)).is 1 (opv ⟨A0, n0, c0, A1, n1, c1, A2, n2, c2, A3, n3, c3⟩ ⟨1, addr, err, aad, used, 2, shard, ((k : Int) + 1), (lf : Int), bit, 0, full, 0, tries, item, stamp⟩) rfl)
  try dsimp only [nput] at L
  generalize (w3).setCell ⟨gO, 16, none⟩ (.int .i64 0) = w4 at L ⊢
  have O_10 := L.at_ 1 10 rfl (v := .int .i64 (((k : Int) + 1))) rfl
  have H_3 := L.at_ 2 3 rfl (v := .int .i64 (ns : Int)) rfl
  have O_8 := L.at_ 1 8 rfl (v := .int .i64 2) rfl
  have O_z := L.lt 1 rfl
  have H_z := L.lt 2 rfl
  have O_f8 := L.fz 1 8 rfl
  have ne_O_H := L.ne_ 1 2 rfl rfl (by decide)
  go_upto_region 14 with fail
  clear O_10 H_3 O_8 O_z H_z O_f8 ne_O_H
  replace L := ((L.set 1 8 rfl (.int .i64 6)).is 1 (opv ⟨A0, n0, c0, A1, n1, c1, A2, n2, c2, A3, n3, c3⟩ ⟨1, addr, err, aad, used, 6, shard, ((k : Int) + 1), (lf : Int), bit, 0, full, 0, tries, item, stamp⟩) rfl)
  try dsimp only [nput] at L
  generalize (w4).setCell ⟨gO, 8, none⟩ (.int .i64 6) = w5 at L ⊢
  have O_15 := L.at_ 1 15 rfl (v := .slice A3 n3 c3) rfl
  have O_z := L.lt 1 rfl
  have O_f15 := L.fz 1 15 rfl
  go_upto_region 15 with fail
  clear O_15 O_z O_f15
  replace L := ((L.set 1 15 rfl (.slice none 0 0)).is 1 (opv ⟨A0, n0, c0, A1, n1, c1, A2, n2, c2, none, 0, 0⟩ ⟨1, addr, err, aad, used, 6, shard, ((k : Int) + 1), (lf : Int), bit, 0, full, 0, tries, item, stamp⟩) rfl)
  try dsimp only [nput] at L
  generalize (w5).setCell ⟨gO, 15, none⟩ (.slice none 0 0) = w6 at L ⊢
  replace L := L.drew
  refine wp_region_held_drew (S := fun w' => ∃ v_R : Array Value, v_R.size = 20 ∧ Loc w w' [(gR, 40, v_R), (gO, 40, opv ⟨A0, n0, c0, A1, n1, c1, A2, n2, c2, none, 0, 0⟩ ⟨1, addr, err, aad, used, 6, shard, ((k : Int) + 1), (lf : Int), bit, 0, full, 0, tries, item, stamp⟩), (gH, 27, #[.int .u32 (a : Int), .int .i64 p, .slice A n c, .int .i64 (ns : Int), .int .i64 wo, .int .i64 qu, .int .i64 tr])] []) (by kernel_rfl) (⟨_, rfl, L⟩) (fun hHeld => ?_)
  generalize w6.drew = v7 at hHeld L ⊢
  refine wpAnyH_take (i := 0) (oi := ⟨some 51, _, _, _, _, _⟩) (v := .slice (some ⟨bb, oo, none⟩) m d) rfl (by kernel_rfl) (by kernel_rfl) (by kernel_rfl) (fun _ _ _ h => h) (Or.inl ⟨by rfl, ?_⟩) hHeld ?_
  · (intro ww hS; go_simp; try with_reducible rfl; try omega)
  try simp only [Act.put, sA, sZ, sS]
  refine wpAnyH_take (i := 1) (oi := ⟨some 52, _, _, _, _, _⟩) (v := .agg (opv ⟨A0, n0, c0, A1, n1, c1, A2, n2, c2, none, 0, 0⟩ ⟨1, addr, err, aad, used, 6, shard, ((k : Int) + 1), (lf : Int), bit, 0, full, 0, tries, item, stamp⟩)) rfl (by kernel_rfl) (by kernel_rfl) (by kernel_rfl) (fun _ _ _ h => h) (yieldsIf_load_row (by rfl) 40 (.tmp 5) rfl gO rfl 40 _ (0, 0) _ (fun _ hS => ((hS.choose_spec.2).bk_ 1 rfl)) Tryz.underlying40 rfl op_sz) hHeld ?_
  try simp only [Act.put, sA, sZ, sS]
  refine wpAnyH_take (i := 2) (oi := ⟨some 6, _, _, _, _, _⟩) (v := .slice (some ⟨bb, oo, none⟩) m d) rfl (by kernel_rfl) (by kernel_rfl) (by kernel_rfl) (fun _ _ _ h => h) (Or.inl ⟨by rfl, ?_⟩) hHeld ?_
  · (intro ww hS; go_simp; try with_reducible rfl; try omega)
  try simp only [Act.put, sA, sZ, sS]
  refine wpAnyH_ready (rs := [3]) (by kernel_rfl) (by simp) ?_
  refine AllReadyH.cons (o := ⟨none, _, _, _, _, _⟩) rfl (fun K0 hK => ?_) AllReadyH.nil
  rw [if_pos (by rfl)]
  refine wp_store_row 40 (.tmp 7) (.tmp 52) rfl gR _ rfl rfl _ _ (L.bk_ 0 rfl) op_sz rfl (opv_one _ _) ?_
  replace L := L.row 0 rfl (opv ⟨A0, n0, c0, A1, n1, c1, A2, n2, c2, none, 0, 0⟩ ⟨1, addr, err, aad, used, 6, shard, ((k : Int) + 1), (lf : Int), bit, 0, full, 0, tries, item, stamp⟩)
  try dsimp only [nput] at L
  refine hK.out _ _ ⟨_, rfl, L⟩ (fun hHeld' => ?_)
  clear hHeld hK K0
  have hHeld := hHeld'
  clear hHeld'
  generalize v7.setRow gR (opv ⟨A0, n0, c0, A1, n1, c1, A2, n2, c2, none, 0, 0⟩ ⟨1, addr, err, aad, used, 6, shard, ((k : Int) + 1), (lf : Int), bit, 0, full, 0, tries, item, stamp⟩) = v8 at hHeld L ⊢
  try simp only [Act.put]
  refine wpAnyH_take (i := 4) (oi := ⟨some 8, _, _, _, _, _⟩) (v := .bool false) rfl (by kernel_rfl) (by kernel_rfl) (by kernel_rfl) (fun _ _ _ h => h) (Or.inl ⟨by rfl, ?_⟩) hHeld ?_
  · (intro ww hS; go_simp; try with_reducible rfl; try omega)
  try simp only [Act.put, sA, sZ, sS]
  refine wpAnyH_done (by kernel_rfl) ?_ _
  clear hHeld
  go_wp2
  refine bodyPost_ret (v := .tuple #[.slice (some ⟨bb, oo, none⟩) m d, .agg (opv ⟨A0, n0, c0, A1, n1, c1, A2, n2, c2, none, 0, 0⟩ ⟨1, addr, err, aad, used, 6, shard, ((k : Int) + 1), (lf : Int), bit, 0, full, 0, tries, item, stamp⟩), .bool false]) ?_ rfl ?_
  · exact results_tct (fn := Tryz.f42) Tryz.results42 _ _ gR _ _ (0, 0) _ rfl (L.bk_ 0 rfl) Tryz.underlying40 rfl op_sz
  exact ⟨_, _, _, rfl, hU.below L.K, hZ2 _ _, fun k _ h => h, sa_zero rfl, L.K⟩
set_option maxHeartbeats 2000000 in
theorem rcl_not (ha : a < 4294967296) (hM : Much a p M) (hL : Lists lo w h (gl [])) (hU : US w B m d ys) (hm : m = lv M + tv M + 1) (hk : s.kind = 1) (hlf : s.leaf = (lf : Int)) (hlv : lf < lv M) (hph : s.phase = 3) (hne : gt ys lf ≠ s.word) :
    Calls Tryz.prog 42 #[.agg #[.int .u32 (a : Int), .int .i64 p, .slice A n c, .int .i64 (ns : Int), .int .i64 wo, .int .i64 qu, .int .i64 tr], .slice B m d, .agg (opv h s)] w (RetRG (againS s) (gl []) m ys false h B w) := by
  have hm6 : m ≤ 65536 := by have := lv_le hM.most; have := tv_le hM.most; omega
  have z3 := Lib.hid (gl_len hL).2.2.2
  have hZ := fun lo2 w2 => gl_emp hL lo2 w2
  have hZ2 := fun lo2 w2 => gl_none hL lo2 w2
  have hcm : lf < m := by omega
  obtain ⟨bb, oo, hBe, hbb, hcc⟩ := hU.get hcm
  subst hBe
  have hcm2 : (lf : Int) < (m : Int) := by omega
  have hx64 := gt_lt hU.fit lf
  obtain ⟨x, hx⟩ : ∃ x, x = gt ys lf := ⟨_, rfl⟩
  rw [← hx] at hcc hne
  have f1 : ((x : Int) != (s.word : Int)) = true := by simp; omega
  have hag : againS s = ⟨s.kind, s.addr, s.err, s.aad, s.used, 2, s.shard, s.sought, s.leaf, s.bit, 0, s.full, s.at_, s.tries, s.item, s.stamp⟩ := by unfold againS; rw [if_pos hk]
  rw [hag]
  clear hag hne hx hL hm hm6 hx64
  rcases s with ⟨kind, addr, err, aad, used, phase, shard, sought, leaf, bit, word, full, at_, tries, item, stamp⟩
  rcases h with ⟨A0, n0, c0, A1, n1, c1, A2, n2, c2, A3, n3, c3⟩
  try dsimp only at *
  subst hk hlf hph
  go_enter Tryz.func42, Tryz.ntmps42
  go_upto_region 1 with (fail)
  have L := Loc.start w
  replace L := (((L).alloc #[.int .u32 (a : Int), .int .i64 p, .slice A n c, .int .i64 (ns : Int), .int .i64 wo, .int .i64 qu, .int .i64 tr] 27).alloc (opv ⟨A0, n0, c0, A1, n1, c1, A2, n2, c2, A3, n3, c3⟩ ⟨1, addr, err, aad, used, 3, shard, sought, (lf : Int), bit, word, full, at_, tries, item, stamp⟩) 40).alloc #[.int .i64 0, .int .u32 0, .slice none 0 0, .int .i64 0, .int .u32 0, .bool false, .slice none 0 0, .slice none 0 0, .int .i64 0, .int .i64 0, .int .i64 0, .int .i64 0, .int .i64 0, .int .u64 0, .bool false, .slice none 0 0, .int .i64 0, .int .i64 0, .int .i64 0, .int .i64 0] 40
  try simp only [World.size_alloc] at L
  replace L := L.is 0 (opv hd0 sc0) rfl
  try dsimp only [nput] at L
  generalize (((w).alloc (.cells #[.int .u32 (a : Int), .int .i64 p, .slice A n c, .int .i64 (ns : Int), .int .i64 wo, .int .i64 qu, .int .i64 tr] 27)).alloc (.cells (opv ⟨A0, n0, c0, A1, n1, c1, A2, n2, c2, A3, n3, c3⟩ ⟨1, addr, err, aad, used, 3, shard, sought, (lf : Int), bit, word, full, at_, tries, item, stamp⟩) 40)).alloc (.cells #[.int .i64 0, .int .u32 0, .slice none 0 0, .int .i64 0, .int .u32 0, .bool false, .slice none 0 0, .slice none 0 0, .int .i64 0, .int .i64 0, .int .i64 0, .int .i64 0, .int .i64 0, .int .u64 0, .bool false, .slice none 0 0, .int .i64 0, .int .i64 0, .int .i64 0, .int .i64 0] 40) = w1 at L ⊢
  generalize w.heap.size + 1 + 1 = gR at L ⊢
  generalize w.heap.size + 1 = gO at L ⊢
  generalize w.heap.size = gH at L ⊢
  have O_8 := L.at_ 1 8 rfl (v := .int .i64 3) rfl
  have O_z := L.lt 1 rfl
  go_upto_region 16 with fail
  clear O_8 O_z
  replace L := L.drew
  refine wp_region_held_drew (S := fun w' => Loc w w' [(gR, 40, opv hd0 sc0), (gO, 40, opv ⟨A0, n0, c0, A1, n1, c1, A2, n2, c2, A3, n3, c3⟩ ⟨1, addr, err, aad, used, 3, shard, sought, (lf : Int), bit, word, full, at_, tries, item, stamp⟩), (gH, 27, #[.int .u32 (a : Int), .int .i64 p, .slice A n c, .int .i64 (ns : Int), .int .i64 wo, .int .i64 qu, .int .i64 tr])] []) (by kernel_rfl) L (fun hHeld => ?_)
  generalize w1.drew = v2 at hHeld L ⊢
  refine wpAnyH_take (i := 0) (oi := ⟨some 53, _, _, _, _, _⟩) (v := .slice (some ⟨bb, oo, none⟩) m d) rfl (by kernel_rfl) (by kernel_rfl) (by kernel_rfl) (fun _ _ _ h => h) (Or.inl ⟨by rfl, ?_⟩) hHeld ?_
  · (intro ww hS; go_simp; try with_reducible rfl; try omega)
  try simp only [Act.put, sA, sZ, sS]
  refine wpAnyH_take (i := 1) (oi := ⟨some 54, _, _, _, _, _⟩) (v := .pointer (some ⟨gO, 11, none⟩)) rfl (by kernel_rfl) (by kernel_rfl) (by kernel_rfl) (fun _ _ _ h => h) (Or.inl ⟨by rfl, ?_⟩) hHeld ?_
  · (intro ww hS; go_simp; try with_reducible rfl; try omega)
  try simp only [Act.put, sA, sZ, sS]
  refine wpAnyH_take (i := 2) (oi := ⟨some 55, _, _, _, _, _⟩) (v := .int .i64 (lf : Int)) rfl (by kernel_rfl) (by kernel_rfl) (by kernel_rfl) (fun _ _ _ h => h) (Or.inl ⟨by rfl, ?_⟩) hHeld ?_
  · intro ww hS
    try dsimp only at hS
    have O_11 := (hS).at_ 1 11 rfl (v := .int .i64 (lf : Int)) rfl
    have O_z := (hS).lt 1 rfl
    go_simp
    try with_reducible rfl
    try omega
  try simp only [Act.put, sA, sZ, sS]
  refine wpAnyH_take (i := 3) (oi := ⟨some 56, _, _, _, _, _⟩) (v := .pointer (some ⟨bb, oo + lf, none⟩)) rfl (by kernel_rfl) (by kernel_rfl) (by kernel_rfl) (fun _ _ _ h => h) (Or.inl ⟨by rfl, ?_⟩) hHeld ?_
  · (intro ww hS; go_simp; try with_reducible rfl; try omega)
  try simp only [Act.put, sA, sZ, sS]
  refine wpAnyH_take (i := 4) (oi := ⟨some 57, _, _, _, _, _⟩) (v := .int .u64 ((x : Nat) : Int)) rfl (by kernel_rfl) (by kernel_rfl) (by kernel_rfl) (fun _ _ _ h => h) (Or.inl ⟨by rfl, ?_⟩) hHeld ?_
  · intro ww hS
    try dsimp only at hS
    have X := (((hS)).K.cell (p := ⟨bb, oo + lf, none⟩) hbb).trans hcc
    go_simp
    try with_reducible rfl
    try omega
  try simp only [Act.put, sA, sZ, sS]
  refine wpAnyH_take (i := 5) (oi := ⟨some 58, _, _, _, _, _⟩) (v := .pointer (some ⟨gO, 13, none⟩)) rfl (by kernel_rfl) (by kernel_rfl) (by kernel_rfl) (fun _ _ _ h => h) (Or.inl ⟨by rfl, ?_⟩) hHeld ?_
  · (intro ww hS; go_simp; try with_reducible rfl; try omega)
  try simp only [Act.put, sA, sZ, sS]
  refine wpAnyH_take (i := 6) (oi := ⟨some 59, _, _, _, _, _⟩) (v := .int .u64 ((word : Nat) : Int)) rfl (by kernel_rfl) (by kernel_rfl) (by kernel_rfl) (fun _ _ _ h => h) (Or.inl ⟨by rfl, ?_⟩) hHeld ?_
  · intro ww hS
    try dsimp only at hS
    have O_13 := (hS).at_ 1 13 rfl (v := .int .u64 ((word : Nat) : Int)) rfl
    have O_z := (hS).lt 1 rfl
    go_simp
    try with_reducible rfl
    try omega
  try simp only [Act.put, sA, sZ, sS]
  refine wpAnyH_take (i := 7) (oi := ⟨some 60, _, _, _, _, _⟩) (v := .bool true) rfl (by kernel_rfl) (by kernel_rfl) (by kernel_rfl) (fun _ _ _ h => h) (Or.inl ⟨by rfl, ?_⟩) hHeld ?_
  · (intro ww hS; go_simp; try with_reducible rfl; try omega)
  try simp only [Act.put, sA, sZ, sS]
  refine wpAnyH_done (by kernel_rfl) ?_ _
  clear hHeld
  have O_13 := L.at_ 1 13 rfl (v := .int .u64 ((word : Nat) : Int)) rfl
  have O_z := L.lt 1 rfl
  have O_f13 := L.fz 1 13 rfl
  go_upto_region 18 with fail
  clear O_13 O_z O_f13
  replace L := ((L.set 1 13 rfl (.int .u64 0)).is 1 (opv ⟨A0, n0, c0, A1, n1, c1, A2, n2, c2, A3, n3, c3⟩ ⟨1, addr, err, aad, used, 3, shard, sought, (lf : Int), bit, 0, full, at_, tries, item, stamp⟩) rfl)
  try dsimp only [nput] at L
  generalize (v2).setCell ⟨gO, 13, none⟩ (.int .u64 0) = w3 at L ⊢
  have O_8 := L.at_ 1 8 rfl (v := .int .i64 3) rfl
  have O_z := L.lt 1 rfl
  have O_f8 := L.fz 1 8 rfl
  go_upto_region 19 with fail
  clear O_8 O_z O_f8
  replace L := ((L.set 1 8 rfl (.int .i64 8)).is 1 (opv ⟨A0, n0, c0, A1, n1, c1, A2, n2, c2, A3, n3, c3⟩ ⟨1, addr, err, aad, used, 8, shard, sought, (lf : Int), bit, 0, full, at_, tries, item, stamp⟩) rfl)
  try dsimp only [nput] at L
  generalize (w3).setCell ⟨gO, 8, none⟩ (.int .i64 8) = w4 at L ⊢
  have O_0 := L.at_ 1 0 rfl (v := .int .i64 1) rfl
  have O_8 := L.at_ 1 8 rfl (v := .int .i64 8) rfl
  have O_z := L.lt 1 rfl
  have O_f8 := L.fz 1 8 rfl
  go_upto_region 21 with fail
  clear O_0 O_8 O_z O_f8
  replace L := ((L.set 1 8 rfl (.int .i64 2)).is 1 (opv ⟨A0, n0, c0, A1, n1, c1, A2, n2, c2, A3, n3, c3⟩ ⟨1, addr, err, aad, used, 2, shard, sought, (lf : Int), bit, 0, full, at_, tries, item, stamp⟩) rfl)
  try dsimp only [nput] at L
  generalize (w4).setCell ⟨gO, 8, none⟩ (.int .i64 2) = w5 at L ⊢
  replace L := L.drew
  refine wp_region_held_drew (S := fun w' => ∃ v_R : Array Value, v_R.size = 20 ∧ Loc w w' [(gR, 40, v_R), (gO, 40, opv ⟨A0, n0, c0, A1, n1, c1, A2, n2, c2, A3, n3, c3⟩ ⟨1, addr, err, aad, used, 2, shard, sought, (lf : Int), bit, 0, full, at_, tries, item, stamp⟩), (gH, 27, #[.int .u32 (a : Int), .int .i64 p, .slice A n c, .int .i64 (ns : Int), .int .i64 wo, .int .i64 qu, .int .i64 tr])] []) (by kernel_rfl) (⟨_, rfl, L⟩) (fun hHeld => ?_)
  generalize w5.drew = v6 at hHeld L ⊢
  refine wpAnyH_take (i := 0) (oi := ⟨some 68, _, _, _, _, _⟩) (v := .slice (some ⟨bb, oo, none⟩) m d) rfl (by kernel_rfl) (by kernel_rfl) (by kernel_rfl) (fun _ _ _ h => h) (Or.inl ⟨by rfl, ?_⟩) hHeld ?_
  · (intro ww hS; go_simp; try with_reducible rfl; try omega)
  try simp only [Act.put, sA, sZ, sS]
  refine wpAnyH_take (i := 1) (oi := ⟨some 69, _, _, _, _, _⟩) (v := .agg (opv ⟨A0, n0, c0, A1, n1, c1, A2, n2, c2, A3, n3, c3⟩ ⟨1, addr, err, aad, used, 2, shard, sought, (lf : Int), bit, 0, full, at_, tries, item, stamp⟩)) rfl (by kernel_rfl) (by kernel_rfl) (by kernel_rfl) (fun _ _ _ h => h) (yieldsIf_load_row (by rfl) 40 (.tmp 5) rfl gO rfl 40 _ (0, 0) _ (fun _ hS => ((hS.choose_spec.2).bk_ 1 rfl)) Tryz.underlying40 rfl op_sz) hHeld ?_
  try simp only [Act.put, sA, sZ, sS]
  refine wpAnyH_take (i := 2) (oi := ⟨some 6, _, _, _, _, _⟩) (v := .slice (some ⟨bb, oo, none⟩) m d) rfl (by kernel_rfl) (by kernel_rfl) (by kernel_rfl) (fun _ _ _ h => h) (Or.inl ⟨by rfl, ?_⟩) hHeld ?_
  · (intro ww hS; go_simp; try with_reducible rfl; try omega)
  try simp only [Act.put, sA, sZ, sS]
  refine wpAnyH_ready (rs := [3]) (by kernel_rfl) (by simp) ?_
  refine AllReadyH.cons (o := ⟨none, _, _, _, _, _⟩) rfl (fun K0 hK => ?_) AllReadyH.nil
  rw [if_pos (by rfl)]
  refine wp_store_row 40 (.tmp 7) (.tmp 69) rfl gR _ rfl rfl _ _ (L.bk_ 0 rfl) op_sz rfl (opv_one _ _) ?_
  replace L := L.row 0 rfl (opv ⟨A0, n0, c0, A1, n1, c1, A2, n2, c2, A3, n3, c3⟩ ⟨1, addr, err, aad, used, 2, shard, sought, (lf : Int), bit, 0, full, at_, tries, item, stamp⟩)
  try dsimp only [nput] at L
  refine hK.out _ _ ⟨_, rfl, L⟩ (fun hHeld' => ?_)
  clear hHeld hK K0
  have hHeld := hHeld'
  clear hHeld'
  generalize v6.setRow gR (opv ⟨A0, n0, c0, A1, n1, c1, A2, n2, c2, A3, n3, c3⟩ ⟨1, addr, err, aad, used, 2, shard, sought, (lf : Int), bit, 0, full, at_, tries, item, stamp⟩) = v7 at hHeld L ⊢
  try simp only [Act.put]
  refine wpAnyH_take (i := 4) (oi := ⟨some 8, _, _, _, _, _⟩) (v := .bool false) rfl (by kernel_rfl) (by kernel_rfl) (by kernel_rfl) (fun _ _ _ h => h) (Or.inl ⟨by rfl, ?_⟩) hHeld ?_
  · (intro ww hS; go_simp; try with_reducible rfl; try omega)
  try simp only [Act.put, sA, sZ, sS]
  refine wpAnyH_done (by kernel_rfl) ?_ _
  clear hHeld
  go_wp2
  refine bodyPost_ret (v := .tuple #[.slice (some ⟨bb, oo, none⟩) m d, .agg (opv ⟨A0, n0, c0, A1, n1, c1, A2, n2, c2, A3, n3, c3⟩ ⟨1, addr, err, aad, used, 2, shard, sought, (lf : Int), bit, 0, full, at_, tries, item, stamp⟩), .bool false]) ?_ rfl ?_
  · exact results_tct (fn := Tryz.f42) Tryz.results42 _ _ gR _ _ (0, 0) _ rfl (L.bk_ 0 rfl) Tryz.underlying40 rfl op_sz
  exact ⟨_, _, _, rfl, hU.below L.K, hZ _ _, fun k _ h => h, sa_zero z3.out, L.K⟩
set_option maxHeartbeats 2000000 in
theorem rcl_full (ha : a < 4294967296) (hM : Much a p M) (hL : Lists lo w h (gl [])) (hU : US w B m d ys) (hm : m = lv M + tv M + 1) (hk : s.kind = 1) (hlf : s.leaf = (lf : Int)) (hlv : lf < lv M) (hph : s.phase = 3) (hit : s.item = 0) (hbt : s.bit = (b : Int)) (hb32 : b < 32) (hof : 32 * lf + b < M) (hw : s.word < 18446744073709551616) (hne : gt ys lf = s.word) (hfl : fl (clm s.word b) = true) :
    Calls Tryz.prog 42 #[.agg #[.int .u32 (a : Int), .int .i64 p, .slice A n c, .int .i64 (ns : Int), .int .i64 wo, .int .i64 qu, .int .i64 tr], .slice B m d, .agg (opv h s)] w (RetRG (fullS (adS s (adr a lf b))) (gl []) m (ys.set lf (clm s.word b)) true h B w) := by
  have hm6 : m ≤ 65536 := by have := lv_le hM.most; have := tv_le hM.most; omega
  have z3 := Lib.hid (gl_len hL).2.2.2
  have hZ := fun lo2 w2 => gl_emp hL lo2 w2
  have hZ2 := fun lo2 w2 => gl_none hL lo2 w2
  have hcm : lf < m := by omega
  obtain ⟨bb, oo, hBe, hbb, hcc⟩ := hU.get hcm
  subst hBe
  have hcm2 : (lf : Int) < (m : Int) := by omega
  have hx64 := gt_lt hU.fit lf
  rw [hne] at hcc
  have f1 : ((s.word : Int) != (s.word : Int)) = false := by simp
  have hbn : s.bit = (b : Int) := hbt
  have TC := fun w => Lib.hid (rclaim_any s.word b hw (by omega) w)
  have hy := clm_lt s.word b
  have TFu := fun w => Lib.hid (rfull_any (clm s.word b) hy w)
  rw [hfl] at TFu
  obtain ⟨y, hy1⟩ : ∃ y, y = clm s.word b := ⟨_, rfl⟩
  simp only [← hy1] at TC TFu ⊢
  rw [← hy1] at hy
  have TSe : ∀ w, US w (some ⟨bb, oo, none⟩) m d ys → Hid (Calls Tryz.prog 35 #[.slice (some ⟨bb, oo, none⟩) m d, .int .i64 (lf : Nat), .int .u64 (y : Nat)] w (RetSM m (ys.set lf y) w)) := fun w U => by have := crset_new U (lf : Int) hm6 hy; rw [stI_nat] at this; exact this
  obtain ⟨z, hz⟩ : ∃ z, z = adr a lf b := ⟨_, rfl⟩
  rw [← hz]
  have hfit := hM.fits ha
  have hz2 : z = a + (32 * lf + b) := by rw [hz]; unfold adr; rw [Nat.mod_eq_of_lt (by omega)]
  obtain ⟨m32, h32⟩ : ∃ x, x = 32 * lf := ⟨_, rfl⟩
  obtain ⟨q, hq⟩ : ∃ x, x = m32 + b := ⟨_, rfl⟩
  have g1 : (32 : Int) * (lf : Int) = (m32 : Int) := by omega
  have g2 : (m32 : Int) + (b : Int) = (q : Int) := by omega
  have g3 : (a : Int) + (q : Int) = (z : Int) := by omega
  have w1 : IntKind.i64.wrap (m32 : Int) = (m32 : Int) := IntWalk.i64_in _ (by omega)
  have w2 : IntKind.i64.wrap (q : Int) = (q : Int) := IntWalk.i64_in _ (by omega)
  have w3 : IntKind.u32.wrap (q : Int) = (q : Int) := IntWalk.u32_in _ (by omega)
  have w4 : IntKind.u32.wrap (z : Int) = (z : Int) := IntWalk.u32_in _ (by omega)
  clear hz hz2 h32 hq hy1 hfl hne hL hm hm6 hx64 hfit hw hbt ha hof
  rcases s with ⟨kind, addr, err, aad, used, phase, shard, sought, leaf, bit, word, full, at_, tries, item, stamp⟩
  rcases h with ⟨A0, n0, c0, A1, n1, c1, A2, n2, c2, A3, n3, c3⟩
  try dsimp only at *
  subst hk hlf hph hbn hit
  go_enter Tryz.func42, Tryz.ntmps42
  go_upto_region 1 with (fail)
  have L := Loc.start w
  replace L := (((L).alloc #[.int .u32 (a : Int), .int .i64 p, .slice A n c, .int .i64 (ns : Int), .int .i64 wo, .int .i64 qu, .int .i64 tr] 27).alloc (opv ⟨A0, n0, c0, A1, n1, c1, A2, n2, c2, A3, n3, c3⟩ ⟨1, addr, err, aad, used, 3, shard, sought, (lf : Int), (b : Int), word, full, at_, tries, 0, stamp⟩) 40).alloc #[.int .i64 0, .int .u32 0, .slice none 0 0, .int .i64 0, .int .u32 0, .bool false, .slice none 0 0, .slice none 0 0, .int .i64 0, .int .i64 0, .int .i64 0, .int .i64 0, .int .i64 0, .int .u64 0, .bool false, .slice none 0 0, .int .i64 0, .int .i64 0, .int .i64 0, .int .i64 0] 40
  try simp only [World.size_alloc] at L
  replace L := L.is 0 (opv hd0 sc0) rfl
  try dsimp only [nput] at L
  generalize (((w).alloc (.cells #[.int .u32 (a : Int), .int .i64 p, .slice A n c, .int .i64 (ns : Int), .int .i64 wo, .int .i64 qu, .int .i64 tr] 27)).alloc (.cells (opv ⟨A0, n0, c0, A1, n1, c1, A2, n2, c2, A3, n3, c3⟩ ⟨1, addr, err, aad, used, 3, shard, sought, (lf : Int), (b : Int), word, full, at_, tries, 0, stamp⟩) 40)).alloc (.cells #[.int .i64 0, .int .u32 0, .slice none 0 0, .int .i64 0, .int .u32 0, .bool false, .slice none 0 0, .slice none 0 0, .int .i64 0, .int .i64 0, .int .i64 0, .int .i64 0, .int .i64 0, .int .u64 0, .bool false, .slice none 0 0, .int .i64 0, .int .i64 0, .int .i64 0, .int .i64 0] 40) = w1 at L ⊢
  generalize w.heap.size + 1 + 1 = gR at L ⊢
  generalize w.heap.size + 1 = gO at L ⊢
  generalize w.heap.size = gH at L ⊢
  have O_8 := L.at_ 1 8 rfl (v := .int .i64 3) rfl
  have O_z := L.lt 1 rfl
  go_upto_region 16 with fail
  clear O_8 O_z
  replace L := L.drew
  refine wp_region_held_drew (S := fun w' => Loc w w' [(gR, 40, opv hd0 sc0), (gO, 40, opv ⟨A0, n0, c0, A1, n1, c1, A2, n2, c2, A3, n3, c3⟩ ⟨1, addr, err, aad, used, 3, shard, sought, (lf : Int), (b : Int), word, full, at_, tries, 0, stamp⟩), (gH, 27, #[.int .u32 (a : Int), .int .i64 p, .slice A n c, .int .i64 (ns : Int), .int .i64 wo, .int .i64 qu, .int .i64 tr])] []) (by kernel_rfl) L (fun hHeld => ?_)
  generalize w1.drew = v2 at hHeld L ⊢
  refine wpAnyH_take (i := 0) (oi := ⟨some 53, _, _, _, _, _⟩) (v := .slice (some ⟨bb, oo, none⟩) m d) rfl (by kernel_rfl) (by kernel_rfl) (by kernel_rfl) (fun _ _ _ h => h) (Or.inl ⟨by rfl, ?_⟩) hHeld ?_
  · (intro ww hS; go_simp; try with_reducible rfl; try omega)
  try simp only [Act.put, sA, sZ, sS]
  refine wpAnyH_take (i := 1) (oi := ⟨some 54, _, _, _, _, _⟩) (v := .pointer (some ⟨gO, 11, none⟩)) rfl (by kernel_rfl) (by kernel_rfl) (by kernel_rfl) (fun _ _ _ h => h) (Or.inl ⟨by rfl, ?_⟩) hHeld ?_
  · (intro ww hS; go_simp; try with_reducible rfl; try omega)
  try simp only [Act.put, sA, sZ, sS]
  refine wpAnyH_take (i := 2) (oi := ⟨some 55, _, _, _, _, _⟩) (v := .int .i64 (lf : Int)) rfl (by kernel_rfl) (by kernel_rfl) (by kernel_rfl) (fun _ _ _ h => h) (Or.inl ⟨by rfl, ?_⟩) hHeld ?_
  · intro ww hS
    try dsimp only at hS
    have O_11 := (hS).at_ 1 11 rfl (v := .int .i64 (lf : Int)) rfl
    have O_z := (hS).lt 1 rfl
    go_simp
    try with_reducible rfl
    try omega
  try simp only [Act.put, sA, sZ, sS]
  refine wpAnyH_take (i := 3) (oi := ⟨some 56, _, _, _, _, _⟩) (v := .pointer (some ⟨bb, oo + lf, none⟩)) rfl (by kernel_rfl) (by kernel_rfl) (by kernel_rfl) (fun _ _ _ h => h) (Or.inl ⟨by rfl, ?_⟩) hHeld ?_
  · (intro ww hS; go_simp; try with_reducible rfl; try omega)
  try simp only [Act.put, sA, sZ, sS]
  refine wpAnyH_take (i := 4) (oi := ⟨some 57, _, _, _, _, _⟩) (v := .int .u64 ((word : Nat) : Int)) rfl (by kernel_rfl) (by kernel_rfl) (by kernel_rfl) (fun _ _ _ h => h) (Or.inl ⟨by rfl, ?_⟩) hHeld ?_
  · intro ww hS
    try dsimp only at hS
    have X := (((hS)).K.cell (p := ⟨bb, oo + lf, none⟩) hbb).trans hcc
    go_simp
    try with_reducible rfl
    try omega
  try simp only [Act.put, sA, sZ, sS]
  refine wpAnyH_take (i := 5) (oi := ⟨some 58, _, _, _, _, _⟩) (v := .pointer (some ⟨gO, 13, none⟩)) rfl (by kernel_rfl) (by kernel_rfl) (by kernel_rfl) (fun _ _ _ h => h) (Or.inl ⟨by rfl, ?_⟩) hHeld ?_
  · (intro ww hS; go_simp; try with_reducible rfl; try omega)
  try simp only [Act.put, sA, sZ, sS]
  refine wpAnyH_take (i := 6) (oi := ⟨some 59, _, _, _, _, _⟩) (v := .int .u64 ((word : Nat) : Int)) rfl (by kernel_rfl) (by kernel_rfl) (by kernel_rfl) (fun _ _ _ h => h) (Or.inl ⟨by rfl, ?_⟩) hHeld ?_
  · intro ww hS
    try dsimp only at hS
    have O_13 := (hS).at_ 1 13 rfl (v := .int .u64 ((word : Nat) : Int)) rfl
    have O_z := (hS).lt 1 rfl
    go_simp
    try with_reducible rfl
    try omega
  try simp only [Act.put, sA, sZ, sS]
  refine wpAnyH_take (i := 7) (oi := ⟨some 60, _, _, _, _, _⟩) (v := .bool false) rfl (by kernel_rfl) (by kernel_rfl) (by kernel_rfl) (fun _ _ _ h => h) (Or.inl ⟨by rfl, ?_⟩) hHeld ?_
  · (intro ww hS; go_simp; try with_reducible rfl; try omega)
  try simp only [Act.put, sA, sZ, sS]
  refine wpAnyH_done (by kernel_rfl) ?_ _
  clear hHeld
  have O_13 := L.at_ 1 13 rfl (v := .int .u64 ((word : Nat) : Int)) rfl
  have O_12 := L.at_ 1 12 rfl (v := .int .i64 (b : Int)) rfl
  have O_z := L.lt 1 rfl
  go_wp2_with fail
  refine ((TC _).out).mono ?_
  rintro e w' ⟨rfl, rfl⟩
  clear O_13 O_12 O_z
  have O_11 := L.at_ 1 11 rfl (v := .int .i64 (lf : Int)) rfl
  have O_z := L.lt 1 rfl
  go_wp2_with fail
  have KS := L.K.size
  refine ((TSe _ (hU.below L.K)).out).mono ?_
  rintro e w3 ⟨gS, dS, rfl, U, hgS, K'⟩
  clear O_11 O_z
  have Lb := L.lts
  replace L := L.over K'
  replace L := L.us_av (fun i b e b' o e' => by injection e' with e'; injection e' with e1; have := Lb i b e; omega) U
  clear Lb
  try dsimp only [lF, List.cons_append, List.nil_append] at L
  clear U
  have H_0 := L.at_ 2 0 rfl (v := .int .u32 (a : Int)) rfl
  have O_11 := L.at_ 1 11 rfl (v := .int .i64 (lf : Int)) rfl
  have O_12 := L.at_ 1 12 rfl (v := .int .i64 (b : Int)) rfl
  have O_4 := L.at_ 1 4 rfl (v := .int .u32 aad) rfl
  have H_z := L.lt 2 rfl
  have O_z := L.lt 1 rfl
  have O_f4 := L.fz 1 4 rfl
  have ne_O_H := L.ne_ 1 2 rfl rfl (by decide)
  go_upto_region 25 with fail
  clear H_0 O_11 O_12 O_4 H_z O_z O_f4 ne_O_H
  replace L := ((L.set 1 4 rfl (.int .u32 (z : Int))).is 1 (opv ⟨A0, n0, c0, A1, n1, c1, A2, n2, c2, A3, n3, c3⟩ ⟨1, addr, err, (z : Int), used, 3, shard, sought, (lf : Int), (b : Int), word, full, at_, tries, 0, stamp⟩) rfl)
  try dsimp only [nput] at L
  generalize (w3).setCell ⟨gO, 4, none⟩ (.int .u32 (z : Int)) = w4 at L ⊢
  go_wp2_with fail
  refine ((TFu _).out).mono ?_
  rintro e w' ⟨rfl, rfl⟩
  have O_8 := L.at_ 1 8 rfl (v := .int .i64 3) rfl
  have O_z := L.lt 1 rfl
  have O_f8 := L.fz 1 8 rfl
  go_upto_region 27 with fail
  clear O_8 O_z O_f8
  replace L := ((L.set 1 8 rfl (.int .i64 4)).is 1 (opv ⟨A0, n0, c0, A1, n1, c1, A2, n2, c2, A3, n3, c3⟩ ⟨1, addr, err, (z : Int), used, 4, shard, sought, (lf : Int), (b : Int), word, full, at_, tries, 0, stamp⟩) rfl)
  try dsimp only [nput] at L
  generalize (w4).setCell ⟨gO, 8, none⟩ (.int .i64 4) = w5 at L ⊢
  have O_14 := L.at_ 1 14 rfl (v := .bool full) rfl
  have O_z := L.lt 1 rfl
  have O_f14 := L.fz 1 14 rfl
  go_upto_region 28 with fail
  clear O_14 O_z O_f14
  replace L := ((L.set 1 14 rfl (.bool true)).is 1 (opv ⟨A0, n0, c0, A1, n1, c1, A2, n2, c2, A3, n3, c3⟩ ⟨1, addr, err, (z : Int), used, 4, shard, sought, (lf : Int), (b : Int), word, true, at_, tries, 0, stamp⟩) rfl)
  try dsimp only [nput] at L
  generalize (w5).setCell ⟨gO, 14, none⟩ (.bool true) = w6 at L ⊢
  have O_16 := L.at_ 1 16 rfl (v := .int .i64 at_) rfl
  have O_z := L.lt 1 rfl
  have O_f16 := L.fz 1 16 rfl
  go_upto_region 29 with fail
  clear O_16 O_z O_f16
  replace L := ((L.set 1 16 rfl (.int .i64 0)).is 1 (opv ⟨A0, n0, c0, A1, n1, c1, A2, n2, c2, A3, n3, c3⟩ ⟨1, addr, err, (z : Int), used, 4, shard, sought, (lf : Int), (b : Int), word, true, 0, tries, 0, stamp⟩) rfl)
  try dsimp only [nput] at L
  generalize (w6).setCell ⟨gO, 16, none⟩ (.int .i64 0) = w7 at L ⊢
  have O_13 := L.at_ 1 13 rfl (v := .int .u64 ((word : Nat) : Int)) rfl
  have O_z := L.lt 1 rfl
  have O_f13 := L.fz 1 13 rfl
  go_upto_region 30 with fail
  clear O_13 O_z O_f13
  replace L := ((L.set 1 13 rfl (.int .u64 0)).is 1 (opv ⟨A0, n0, c0, A1, n1, c1, A2, n2, c2, A3, n3, c3⟩ ⟨1, addr, err, (z : Int), used, 4, shard, sought, (lf : Int), (b : Int), 0, true, 0, tries, 0, stamp⟩) rfl)
  try dsimp only [nput] at L
  generalize (w7).setCell ⟨gO, 13, none⟩ (.int .u64 0) = w8 at L ⊢
  replace L := L.drew
  refine wp_region_held_drew (S := fun w' => ∃ v_R : Array Value, v_R.size = 20 ∧ Loc w w' [(gR, 40, v_R), (gO, 40, opv ⟨A0, n0, c0, A1, n1, c1, A2, n2, c2, A3, n3, c3⟩ ⟨1, addr, err, (z : Int), used, 4, shard, sought, (lf : Int), (b : Int), 0, true, 0, tries, 0, stamp⟩), (gH, 27, #[.int .u32 (a : Int), .int .i64 p, .slice A n c, .int .i64 (ns : Int), .int .i64 wo, .int .i64 qu, .int .i64 tr])] [uF (some ⟨gS, 0, none⟩) m dS (ys.set lf y)]) (by kernel_rfl) (⟨_, rfl, L⟩) (fun hHeld => ?_)
  generalize w8.drew = v9 at hHeld L ⊢
  refine wpAnyH_take (i := 0) (oi := ⟨some 99, _, _, _, _, _⟩) (v := .slice (some ⟨gS, 0, none⟩) m dS) rfl (by kernel_rfl) (by kernel_rfl) (by kernel_rfl) (fun _ _ _ h => h) (Or.inl ⟨by rfl, ?_⟩) hHeld ?_
  · (intro ww hS; go_simp; try with_reducible rfl; try omega)
  try simp only [Act.put, sA, sZ, sS]
  refine wpAnyH_take (i := 1) (oi := ⟨some 100, _, _, _, _, _⟩) (v := .agg (opv ⟨A0, n0, c0, A1, n1, c1, A2, n2, c2, A3, n3, c3⟩ ⟨1, addr, err, (z : Int), used, 4, shard, sought, (lf : Int), (b : Int), 0, true, 0, tries, 0, stamp⟩)) rfl (by kernel_rfl) (by kernel_rfl) (by kernel_rfl) (fun _ _ _ h => h) (yieldsIf_load_row (by rfl) 40 (.tmp 5) rfl gO rfl 40 _ (0, 0) _ (fun _ hS => ((hS.choose_spec.2).bk_ 1 rfl)) Tryz.underlying40 rfl op_sz) hHeld ?_
  try simp only [Act.put, sA, sZ, sS]
  refine wpAnyH_take (i := 2) (oi := ⟨some 6, _, _, _, _, _⟩) (v := .slice (some ⟨gS, 0, none⟩) m dS) rfl (by kernel_rfl) (by kernel_rfl) (by kernel_rfl) (fun _ _ _ h => h) (Or.inl ⟨by rfl, ?_⟩) hHeld ?_
  · (intro ww hS; go_simp; try with_reducible rfl; try omega)
  try simp only [Act.put, sA, sZ, sS]
  refine wpAnyH_ready (rs := [3]) (by kernel_rfl) (by simp) ?_
  refine AllReadyH.cons (o := ⟨none, _, _, _, _, _⟩) rfl (fun K0 hK => ?_) AllReadyH.nil
  rw [if_pos (by rfl)]
  refine wp_store_row 40 (.tmp 7) (.tmp 100) rfl gR _ rfl rfl _ _ (L.bk_ 0 rfl) op_sz rfl (opv_one _ _) ?_
  replace L := L.row 0 rfl (opv ⟨A0, n0, c0, A1, n1, c1, A2, n2, c2, A3, n3, c3⟩ ⟨1, addr, err, (z : Int), used, 4, shard, sought, (lf : Int), (b : Int), 0, true, 0, tries, 0, stamp⟩)
  try dsimp only [nput] at L
  refine hK.out _ _ ⟨_, rfl, L⟩ (fun hHeld' => ?_)
  clear hHeld hK K0
  have hHeld := hHeld'
  clear hHeld'
  generalize v9.setRow gR (opv ⟨A0, n0, c0, A1, n1, c1, A2, n2, c2, A3, n3, c3⟩ ⟨1, addr, err, (z : Int), used, 4, shard, sought, (lf : Int), (b : Int), 0, true, 0, tries, 0, stamp⟩) = v10 at hHeld L ⊢
  try simp only [Act.put]
  refine wpAnyH_take (i := 4) (oi := ⟨some 8, _, _, _, _, _⟩) (v := .bool true) rfl (by kernel_rfl) (by kernel_rfl) (by kernel_rfl) (fun _ _ _ h => h) (Or.inl ⟨by rfl, ?_⟩) hHeld ?_
  · (intro ww hS; go_simp; try with_reducible rfl; try omega)
  try simp only [Act.put, sA, sZ, sS]
  refine wpAnyH_done (by kernel_rfl) ?_ _
  clear hHeld
  go_wp2
  refine bodyPost_ret (v := .tuple #[.slice (some ⟨gS, 0, none⟩) m dS, .agg (opv ⟨A0, n0, c0, A1, n1, c1, A2, n2, c2, A3, n3, c3⟩ ⟨1, addr, err, (z : Int), used, 4, shard, sought, (lf : Int), (b : Int), 0, true, 0, tries, 0, stamp⟩), .bool true]) ?_ rfl ?_
  · exact results_tct (fn := Tryz.f42) Tryz.results42 _ _ gR _ _ (0, 0) _ rfl (L.bk_ 0 rfl) Tryz.underlying40 rfl op_sz
  exact ⟨_, _, _, rfl, L.us_ 0 rfl, hZ _ _, (fun i hi _ b o e => by injection e with e; injection e with e1; omega), sa_zero z3.out, L.K⟩
set_option maxHeartbeats 2000000 in
theorem rcl_go (ha : a < 4294967296) (hM : Much a p M) (hL : Lists lo w h (gl [])) (hU : US w B m d ys) (hm : m = lv M + tv M + 1) (hk : s.kind = 1) (hlf : s.leaf = (lf : Int)) (hlv : lf < lv M) (hph : s.phase = 3) (hit : s.item = 0) (hbt : s.bit = (b : Int)) (hb32 : b < 32) (hof : 32 * lf + b < M) (hw : s.word < 18446744073709551616) (hne : gt ys lf = s.word) (hfl : fl (clm s.word b) = false) :
    Calls Tryz.prog 42 #[.agg #[.int .u32 (a : Int), .int .i64 p, .slice A n c, .int .i64 (ns : Int), .int .i64 wo, .int .i64 qu, .int .i64 tr], .slice B m d, .agg (opv h s)] w (RetRG (ende (adS s (adr a lf b))) (gl []) m (ys.set lf (clm s.word b)) true h B w) := by
  have hm6 : m ≤ 65536 := by have := lv_le hM.most; have := tv_le hM.most; omega
  have z3 := Lib.hid (gl_len hL).2.2.2
  have hZ := fun lo2 w2 => gl_emp hL lo2 w2
  have hZ2 := fun lo2 w2 => gl_none hL lo2 w2
  have hcm : lf < m := by omega
  obtain ⟨bb, oo, hBe, hbb, hcc⟩ := hU.get hcm
  subst hBe
  have hcm2 : (lf : Int) < (m : Int) := by omega
  have hx64 := gt_lt hU.fit lf
  rw [hne] at hcc
  have f1 : ((s.word : Int) != (s.word : Int)) = false := by simp
  have hbn : s.bit = (b : Int) := hbt
  have TC := fun w => Lib.hid (rclaim_any s.word b hw (by omega) w)
  have hy := clm_lt s.word b
  have TFu := fun w => Lib.hid (rfull_any (clm s.word b) hy w)
  rw [hfl] at TFu
  obtain ⟨y, hy1⟩ : ∃ y, y = clm s.word b := ⟨_, rfl⟩
  simp only [← hy1] at TC TFu ⊢
  rw [← hy1] at hy
  have TSe : ∀ w, US w (some ⟨bb, oo, none⟩) m d ys → Hid (Calls Tryz.prog 35 #[.slice (some ⟨bb, oo, none⟩) m d, .int .i64 (lf : Nat), .int .u64 (y : Nat)] w (RetSM m (ys.set lf y) w)) := fun w U => by have := crset_new U (lf : Int) hm6 hy; rw [stI_nat] at this; exact this
  obtain ⟨z, hz⟩ : ∃ z, z = adr a lf b := ⟨_, rfl⟩
  rw [← hz]
  have hfit := hM.fits ha
  have hz2 : z = a + (32 * lf + b) := by rw [hz]; unfold adr; rw [Nat.mod_eq_of_lt (by omega)]
  obtain ⟨m32, h32⟩ : ∃ x, x = 32 * lf := ⟨_, rfl⟩
  obtain ⟨q, hq⟩ : ∃ x, x = m32 + b := ⟨_, rfl⟩
  have g1 : (32 : Int) * (lf : Int) = (m32 : Int) := by omega
  have g2 : (m32 : Int) + (b : Int) = (q : Int) := by omega
  have g3 : (a : Int) + (q : Int) = (z : Int) := by omega
  have w1 : IntKind.i64.wrap (m32 : Int) = (m32 : Int) := IntWalk.i64_in _ (by omega)
  have w2 : IntKind.i64.wrap (q : Int) = (q : Int) := IntWalk.i64_in _ (by omega)
  have w3 : IntKind.u32.wrap (q : Int) = (q : Int) := IntWalk.u32_in _ (by omega)
  have w4 : IntKind.u32.wrap (z : Int) = (z : Int) := IntWalk.u32_in _ (by omega)
  have TG := fun w => Lib.hid (rgoes_end0 (w := w) (h := h) (a := a) (p := p) (sh := (ns : Int)) (wo := wo) (qu := qu) (tr := tr) (A := A) (n := n) (c := c) (s := adS s z) (by show s.kind ≠ 4; omega))
  clear hz hz2 h32 hq hy1 hfl hne hL hm hm6 hx64 hfit hw hbt ha hof
  rcases s with ⟨kind, addr, err, aad, used, phase, shard, sought, leaf, bit, word, full, at_, tries, item, stamp⟩
  rcases h with ⟨A0, n0, c0, A1, n1, c1, A2, n2, c2, A3, n3, c3⟩
  try dsimp only at *
  subst hk hlf hph hbn hit
  go_enter Tryz.func42, Tryz.ntmps42
  go_upto_region 1 with (fail)
  have L := Loc.start w
  replace L := (((L).alloc #[.int .u32 (a : Int), .int .i64 p, .slice A n c, .int .i64 (ns : Int), .int .i64 wo, .int .i64 qu, .int .i64 tr] 27).alloc (opv ⟨A0, n0, c0, A1, n1, c1, A2, n2, c2, A3, n3, c3⟩ ⟨1, addr, err, aad, used, 3, shard, sought, (lf : Int), (b : Int), word, full, at_, tries, 0, stamp⟩) 40).alloc #[.int .i64 0, .int .u32 0, .slice none 0 0, .int .i64 0, .int .u32 0, .bool false, .slice none 0 0, .slice none 0 0, .int .i64 0, .int .i64 0, .int .i64 0, .int .i64 0, .int .i64 0, .int .u64 0, .bool false, .slice none 0 0, .int .i64 0, .int .i64 0, .int .i64 0, .int .i64 0] 40
  try simp only [World.size_alloc] at L
  replace L := L.is 0 (opv hd0 sc0) rfl
  try dsimp only [nput] at L
  generalize (((w).alloc (.cells #[.int .u32 (a : Int), .int .i64 p, .slice A n c, .int .i64 (ns : Int), .int .i64 wo, .int .i64 qu, .int .i64 tr] 27)).alloc (.cells (opv ⟨A0, n0, c0, A1, n1, c1, A2, n2, c2, A3, n3, c3⟩ ⟨1, addr, err, aad, used, 3, shard, sought, (lf : Int), (b : Int), word, full, at_, tries, 0, stamp⟩) 40)).alloc (.cells #[.int .i64 0, .int .u32 0, .slice none 0 0, .int .i64 0, .int .u32 0, .bool false, .slice none 0 0, .slice none 0 0, .int .i64 0, .int .i64 0, .int .i64 0, .int .i64 0, .int .i64 0, .int .u64 0, .bool false, .slice none 0 0, .int .i64 0, .int .i64 0, .int .i64 0, .int .i64 0] 40) = w1 at L ⊢
  generalize w.heap.size + 1 + 1 = gR at L ⊢
  generalize w.heap.size + 1 = gO at L ⊢
  generalize w.heap.size = gH at L ⊢
  have O_8 := L.at_ 1 8 rfl (v := .int .i64 3) rfl
  have O_z := L.lt 1 rfl
  go_upto_region 16 with fail
  clear O_8 O_z
  replace L := L.drew
  refine wp_region_held_drew (S := fun w' => Loc w w' [(gR, 40, opv hd0 sc0), (gO, 40, opv ⟨A0, n0, c0, A1, n1, c1, A2, n2, c2, A3, n3, c3⟩ ⟨1, addr, err, aad, used, 3, shard, sought, (lf : Int), (b : Int), word, full, at_, tries, 0, stamp⟩), (gH, 27, #[.int .u32 (a : Int), .int .i64 p, .slice A n c, .int .i64 (ns : Int), .int .i64 wo, .int .i64 qu, .int .i64 tr])] []) (by kernel_rfl) L (fun hHeld => ?_)
  generalize w1.drew = v2 at hHeld L ⊢
  refine wpAnyH_take (i := 0) (oi := ⟨some 53, _, _, _, _, _⟩) (v := .slice (some ⟨bb, oo, none⟩) m d) rfl (by kernel_rfl) (by kernel_rfl) (by kernel_rfl) (fun _ _ _ h => h) (Or.inl ⟨by rfl, ?_⟩) hHeld ?_
  · (intro ww hS; go_simp; try with_reducible rfl; try omega)
  try simp only [Act.put, sA, sZ, sS]
  refine wpAnyH_take (i := 1) (oi := ⟨some 54, _, _, _, _, _⟩) (v := .pointer (some ⟨gO, 11, none⟩)) rfl (by kernel_rfl) (by kernel_rfl) (by kernel_rfl) (fun _ _ _ h => h) (Or.inl ⟨by rfl, ?_⟩) hHeld ?_
  · (intro ww hS; go_simp; try with_reducible rfl; try omega)
  try simp only [Act.put, sA, sZ, sS]
  refine wpAnyH_take (i := 2) (oi := ⟨some 55, _, _, _, _, _⟩) (v := .int .i64 (lf : Int)) rfl (by kernel_rfl) (by kernel_rfl) (by kernel_rfl) (fun _ _ _ h => h) (Or.inl ⟨by rfl, ?_⟩) hHeld ?_
  · intro ww hS
    try dsimp only at hS
    have O_11 := (hS).at_ 1 11 rfl (v := .int .i64 (lf : Int)) rfl
    have O_z := (hS).lt 1 rfl
    go_simp
    try with_reducible rfl
    try omega
  try simp only [Act.put, sA, sZ, sS]
  refine wpAnyH_take (i := 3) (oi := ⟨some 56, _, _, _, _, _⟩) (v := .pointer (some ⟨bb, oo + lf, none⟩)) rfl (by kernel_rfl) (by kernel_rfl) (by kernel_rfl) (fun _ _ _ h => h) (Or.inl ⟨by rfl, ?_⟩) hHeld ?_
  · (intro ww hS; go_simp; try with_reducible rfl; try omega)
  try simp only [Act.put, sA, sZ, sS]
  refine wpAnyH_take (i := 4) (oi := ⟨some 57, _, _, _, _, _⟩) (v := .int .u64 ((word : Nat) : Int)) rfl (by kernel_rfl) (by kernel_rfl) (by kernel_rfl) (fun _ _ _ h => h) (Or.inl ⟨by rfl, ?_⟩) hHeld ?_
  · intro ww hS
    try dsimp only at hS
    have X := (((hS)).K.cell (p := ⟨bb, oo + lf, none⟩) hbb).trans hcc
    go_simp
    try with_reducible rfl
    try omega
  try simp only [Act.put, sA, sZ, sS]
  refine wpAnyH_take (i := 5) (oi := ⟨some 58, _, _, _, _, _⟩) (v := .pointer (some ⟨gO, 13, none⟩)) rfl (by kernel_rfl) (by kernel_rfl) (by kernel_rfl) (fun _ _ _ h => h) (Or.inl ⟨by rfl, ?_⟩) hHeld ?_
  · (intro ww hS; go_simp; try with_reducible rfl; try omega)
  try simp only [Act.put, sA, sZ, sS]
  refine wpAnyH_take (i := 6) (oi := ⟨some 59, _, _, _, _, _⟩) (v := .int .u64 ((word : Nat) : Int)) rfl (by kernel_rfl) (by kernel_rfl) (by kernel_rfl) (fun _ _ _ h => h) (Or.inl ⟨by rfl, ?_⟩) hHeld ?_
  · intro ww hS
    try dsimp only at hS
    have O_13 := (hS).at_ 1 13 rfl (v := .int .u64 ((word : Nat) : Int)) rfl
    have O_z := (hS).lt 1 rfl
    go_simp
    try with_reducible rfl
    try omega
  try simp only [Act.put, sA, sZ, sS]
  refine wpAnyH_take (i := 7) (oi := ⟨some 60, _, _, _, _, _⟩) (v := .bool false) rfl (by kernel_rfl) (by kernel_rfl) (by kernel_rfl) (fun _ _ _ h => h) (Or.inl ⟨by rfl, ?_⟩) hHeld ?_
  · (intro ww hS; go_simp; try with_reducible rfl; try omega)
  try simp only [Act.put, sA, sZ, sS]
  refine wpAnyH_done (by kernel_rfl) ?_ _
  clear hHeld
  have O_13 := L.at_ 1 13 rfl (v := .int .u64 ((word : Nat) : Int)) rfl
  have O_12 := L.at_ 1 12 rfl (v := .int .i64 (b : Int)) rfl
  have O_z := L.lt 1 rfl
  go_wp2_with fail
  refine ((TC _).out).mono ?_
  rintro e w' ⟨rfl, rfl⟩
  clear O_13 O_12 O_z
  have O_11 := L.at_ 1 11 rfl (v := .int .i64 (lf : Int)) rfl
  have O_z := L.lt 1 rfl
  go_wp2_with fail
  have KS := L.K.size
  refine ((TSe _ (hU.below L.K)).out).mono ?_
  rintro e w3 ⟨gS, dS, rfl, U, hgS, K'⟩
  clear O_11 O_z
  have Lb := L.lts
  replace L := L.over K'
  replace L := L.us_av (fun i b e b' o e' => by injection e' with e'; injection e' with e1; have := Lb i b e; omega) U
  clear Lb
  try dsimp only [lF, List.cons_append, List.nil_append] at L
  clear U
  have H_0 := L.at_ 2 0 rfl (v := .int .u32 (a : Int)) rfl
  have O_11 := L.at_ 1 11 rfl (v := .int .i64 (lf : Int)) rfl
  have O_12 := L.at_ 1 12 rfl (v := .int .i64 (b : Int)) rfl
  have O_4 := L.at_ 1 4 rfl (v := .int .u32 aad) rfl
  have H_z := L.lt 2 rfl
  have O_z := L.lt 1 rfl
  have O_f4 := L.fz 1 4 rfl
  have ne_O_H := L.ne_ 1 2 rfl rfl (by decide)
  go_upto_region 25 with fail
  clear H_0 O_11 O_12 O_4 H_z O_z O_f4 ne_O_H
  replace L := ((L.set 1 4 rfl (.int .u32 (z : Int))).is 1 (opv ⟨A0, n0, c0, A1, n1, c1, A2, n2, c2, A3, n3, c3⟩ ⟨1, addr, err, (z : Int), used, 3, shard, sought, (lf : Int), (b : Int), word, full, at_, tries, 0, stamp⟩) rfl)
  try dsimp only [nput] at L
  generalize (w3).setCell ⟨gO, 4, none⟩ (.int .u32 (z : Int)) = w4 at L ⊢
  go_wp2_with fail
  refine ((TFu _).out).mono ?_
  rintro e w' ⟨rfl, rfl⟩
  go_wp2_with (first | (refine wpList_load_row rfl 27 (.tmp 3) rfl gH rfl _ _ (0, 0) _ (L.bk_ 2 rfl) Tryz.underlying27 rfl cf_sz ?_) | (refine wpList_load_row rfl 40 (.tmp 5) rfl gO rfl _ _ (0, 0) _ (L.bk_ 1 rfl) Tryz.underlying40 rfl op_sz ?_))
  refine ((TG _).out).mono ?_
  rintro e w5 ⟨rfl, K'⟩
  replace L := L.over K'
  go_wp2_with (refine wpList_store_row rfl 40 (.tmp 7) (.tmp 104) rfl gR _ rfl rfl _ _ (L.bk_ 0 rfl) op_sz rfl (opv_one _ _) ?_)
  replace L := (L.row 0 rfl (opv ⟨A0, n0, c0, A1, n1, c1, A2, n2, c2, A3, n3, c3⟩ (ende (adS ⟨1, addr, err, aad, used, 3, shard, sought, (lf : Int), (b : Int), word, full, at_, tries, 0, stamp⟩ z))))
  try dsimp only [nput] at L
  generalize (w5).setRow gR (opv ⟨A0, n0, c0, A1, n1, c1, A2, n2, c2, A3, n3, c3⟩ (ende (adS ⟨1, addr, err, aad, used, 3, shard, sought, (lf : Int), (b : Int), word, full, at_, tries, 0, stamp⟩ z))) = w6 at L ⊢
  refine bodyPost_ret (v := .tuple #[.slice (some ⟨gS, 0, none⟩) m dS, .agg (opv ⟨A0, n0, c0, A1, n1, c1, A2, n2, c2, A3, n3, c3⟩ (ende (adS ⟨1, addr, err, aad, used, 3, shard, sought, (lf : Int), (b : Int), word, full, at_, tries, 0, stamp⟩ z))), .bool true]) ?_ rfl ?_
  · exact results_tct (fn := Tryz.f42) Tryz.results42 _ _ gR _ _ (0, 0) _ rfl (L.bk_ 0 rfl) Tryz.underlying40 rfl op_sz
  exact ⟨_, _, _, rfl, L.us_ 0 rfl, hZ _ _, (fun i hi _ b o e => by injection e with e; injection e with e1; omega), sa_zero z3.out, L.K⟩
end
end Go.Proofs.YtghecdccdmeooaaGreat

/-
  What the document's Phase and Step of layer 16 answer of a Grant that sweeps. Conditions: a block that may be, as many cells as there are, a leaf that there is, as many seen as the Phase has.
-/
namespace Go.Proofs.YtghecdccdmeooaaGreat
set_option maxRecDepth 100000
set_option maxRecDepth 100000
open Go.RowKit
set_option linter.unusedVariables false
section
variable {w w1 : World} {lo a m d M ns N hd k t tt lf cl b x : Nat} {p wo qu tr : Int} {A B : Option Addr} {n c : Nat} {zs : List Int} {sn ys : List Nat} {h : Hd} {s : Sc}
set_option maxHeartbeats 2000000 in
theorem rph16_any (pv : Int) :
    Calls Tryz.prog 84 #[.agg (opv h s), .int .i64 pv] w (RetOp ⟨h.A0, h.n0, h.c0, h.A1, h.n1, h.c1, h.A2, h.n2, h.c2, none, 0, 0⟩ (swLe s pv) w) := by
  rcases s with ⟨kind, addr, err, aad, used, phase, shard, sought, leaf, bit, word, full, at_, tries, item, stamp⟩
  rcases h with ⟨A0, n0, c0, A1, n1, c1, A2, n2, c2, A3, n3, c3⟩
  try dsimp only at *
  go_enter Tryz.func84, Tryz.ntmps84
  go_upto_region 1 with (fail)
  have L := Loc.start w
  replace L := ((L).alloc (opv ⟨A0, n0, c0, A1, n1, c1, A2, n2, c2, A3, n3, c3⟩ ⟨kind, addr, err, aad, used, phase, shard, sought, leaf, bit, word, full, at_, tries, item, stamp⟩) 40).alloc #[.int .i64 0, .int .u32 0, .slice none 0 0, .int .i64 0, .int .u32 0, .bool false, .slice none 0 0, .slice none 0 0, .int .i64 0, .int .i64 0, .int .i64 0, .int .i64 0, .int .i64 0, .int .u64 0, .bool false, .slice none 0 0, .int .i64 0, .int .i64 0, .int .i64 0, .int .i64 0] 40
  try simp only [World.size_alloc] at L
  replace L := L.is 0 (opv hd0 sc0) rfl
  try dsimp only [nput] at L
  generalize ((w).alloc (.cells (opv ⟨A0, n0, c0, A1, n1, c1, A2, n2, c2, A3, n3, c3⟩ ⟨kind, addr, err, aad, used, phase, shard, sought, leaf, bit, word, full, at_, tries, item, stamp⟩) 40)).alloc (.cells #[.int .i64 0, .int .u32 0, .slice none 0 0, .int .i64 0, .int .u32 0, .bool false, .slice none 0 0, .slice none 0 0, .int .i64 0, .int .i64 0, .int .i64 0, .int .i64 0, .int .i64 0, .int .u64 0, .bool false, .slice none 0 0, .int .i64 0, .int .i64 0, .int .i64 0, .int .i64 0] 40) = w1 at L ⊢
  generalize w.heap.size + 1 = gR at L ⊢
  generalize w.heap.size = gO at L ⊢
  have O_8 := L.at_ 1 8 rfl (v := .int .i64 phase) rfl
  have O_z := L.lt 1 rfl
  have O_f8 := L.fz 1 8 rfl
  go_upto_region 2 with fail
  clear O_8 O_z O_f8
  replace L := ((L.set 1 8 rfl (.int .i64 pv)).is 1 (opv ⟨A0, n0, c0, A1, n1, c1, A2, n2, c2, A3, n3, c3⟩ ⟨kind, addr, err, aad, used, pv, shard, sought, leaf, bit, word, full, at_, tries, item, stamp⟩) rfl)
  try dsimp only [nput] at L
  generalize (w1).setCell ⟨gO, 8, none⟩ (.int .i64 pv) = w2 at L ⊢
  have O_16 := L.at_ 1 16 rfl (v := .int .i64 at_) rfl
  have O_z := L.lt 1 rfl
  have O_f16 := L.fz 1 16 rfl
  go_upto_region 3 with fail
  clear O_16 O_z O_f16
  replace L := ((L.set 1 16 rfl (.int .i64 0)).is 1 (opv ⟨A0, n0, c0, A1, n1, c1, A2, n2, c2, A3, n3, c3⟩ ⟨kind, addr, err, aad, used, pv, shard, sought, leaf, bit, word, full, 0, tries, item, stamp⟩) rfl)
  try dsimp only [nput] at L
  generalize (w2).setCell ⟨gO, 16, none⟩ (.int .i64 0) = w3 at L ⊢
  have O_15 := L.at_ 1 15 rfl (v := .slice A3 n3 c3) rfl
  have O_z := L.lt 1 rfl
  have O_f15 := L.fz 1 15 rfl
  go_upto_region 4 with fail
  clear O_15 O_z O_f15
  replace L := ((L.set 1 15 rfl (.slice none 0 0)).is 1 (opv ⟨A0, n0, c0, A1, n1, c1, A2, n2, c2, none, 0, 0⟩ ⟨kind, addr, err, aad, used, pv, shard, sought, leaf, bit, word, full, 0, tries, item, stamp⟩) rfl)
  try dsimp only [nput] at L
  generalize (w3).setCell ⟨gO, 15, none⟩ (.slice none 0 0) = w4 at L ⊢
  go_wp2_with (first | (refine wpList_load_row rfl 40 (.tmp 2) rfl gO rfl _ _ (0, 0) _ (L.bk_ 1 rfl) Tryz.underlying40 rfl op_sz ?_) | (refine wpList_store_row rfl 40 (.tmp 4) (.tmp 9) rfl gR _ rfl rfl _ _ (L.bk_ 0 rfl) op_sz rfl (opv_one _ _) ?_))
  replace L := (L.row 0 rfl (opv ⟨A0, n0, c0, A1, n1, c1, A2, n2, c2, none, 0, 0⟩ ⟨kind, addr, err, aad, used, pv, shard, sought, leaf, bit, word, full, 0, tries, item, stamp⟩))
  try dsimp only [nput] at L
  generalize (w4).setRow gR (opv ⟨A0, n0, c0, A1, n1, c1, A2, n2, c2, none, 0, 0⟩ ⟨kind, addr, err, aad, used, pv, shard, sought, leaf, bit, word, full, 0, tries, item, stamp⟩) = w5 at L ⊢
  refine bodyPost_ret (v := .agg (opv ⟨A0, n0, c0, A1, n1, c1, A2, n2, c2, none, 0, 0⟩ ⟨kind, addr, err, aad, used, pv, shard, sought, leaf, bit, word, full, 0, tries, item, stamp⟩)) ?_ rfl ?_
  · exact results_cell_row (fn := Tryz.f84) Tryz.results84 _ _ gR _ _ (0, 0) _ rfl (L.bk_ 0 rfl) Tryz.underlying40 rfl op_sz
  exact ⟨rfl, L.K⟩
set_option maxHeartbeats 2000000 in
theorem rsw_found (hM : Much a p M) (hL : Lists lo w h (gl sn)) (hU : US w B m d ys) (hm : m = lv M + tv M + 1) (hk : s.kind = 1) (hat : s.at_ = (tt : Int)) (htt : tt < lv M) (hph : s.phase = 6) (hb : fb (gt ys tt) 32 = true) :
    Calls Tryz.prog 44 #[.agg #[.int .u32 (a : Int), .int .i64 p, .slice A n c, .int .i64 (ns : Int), .int .i64 wo, .int .i64 qu, .int .i64 tr], .slice B m d, .agg (opv h s)] w (RetROB (swFc s (gt ys tt) (fi (gt ys tt) 32)) (gl []) false h w) := by
  have hm9 := hM.most
  have hl3 := lv_le hm9
  have hm6 : m ≤ 65536 := by have := tv_le hm9; omega
  have hZ2 := fun lo2 w2 => gl_none hL lo2 w2
  have hcm : tt < m := by omega
  obtain ⟨bb, oo, hBe, hbb, hcc⟩ := hU.get hcm
  subst hBe
  have hcm2 : (tt : Int) < (m : Int) := by omega
  have hx64 := gt_lt hU.fit tt
  have TLv := fun w => Lib.hid (rleaves_any M hm9 w)
  obtain ⟨LV, hLV⟩ : ∃ x, x = lv M := ⟨_, rfl⟩
  rw [← hLV] at TLv htt
  have f1 : IntKind.i64.wrap ((tt : Int) + 1) = (tt : Int) + 1 := IntWalk.i64_in _ (by omega)
  have TF := fun w => Lib.hid (rwfirst_any (gt ys tt) hx64 w)
  rw [hb] at TF
  obtain ⟨f, hf⟩ : ∃ f, f = fi (gt ys tt) 32 := ⟨_, rfl⟩
  obtain ⟨x, hx⟩ : ∃ x, x = gt ys tt := ⟨_, rfl⟩
  simp only [← hf] at TF ⊢
  simp only [← hx] at TF ⊢
  rw [← hx] at hcc
  have TP := fun w s => Lib.hid (rph16_any (w := w) (h := h) (s := s) 3)
  simp only [swLe] at TP
  clear hb hf hx hL hm hm6 hx64 hLV htt hl3 hm9
  rcases s with ⟨kind, addr, err, aad, used, phase, shard, sought, leaf, bit, word, full, at_, tries, item, stamp⟩
  rcases h with ⟨A0, n0, c0, A1, n1, c1, A2, n2, c2, A3, n3, c3⟩
  try dsimp only at *
  subst hk hat hph
  go_enter Tryz.func44, Tryz.ntmps44
  go_upto_region 1 with (fail)
  have L := Loc.start w
  replace L := (((L).alloc #[.int .u32 (a : Int), .int .i64 p, .slice A n c, .int .i64 (ns : Int), .int .i64 wo, .int .i64 qu, .int .i64 tr] 27).alloc (opv ⟨A0, n0, c0, A1, n1, c1, A2, n2, c2, A3, n3, c3⟩ ⟨1, addr, err, aad, used, 6, shard, sought, leaf, bit, word, full, (tt : Int), tries, item, stamp⟩) 40).alloc #[.int .i64 0, .int .u32 0, .slice none 0 0, .int .i64 0, .int .u32 0, .bool false, .slice none 0 0, .slice none 0 0, .int .i64 0, .int .i64 0, .int .i64 0, .int .i64 0, .int .i64 0, .int .u64 0, .bool false, .slice none 0 0, .int .i64 0, .int .i64 0, .int .i64 0, .int .i64 0] 40
  try simp only [World.size_alloc] at L
  replace L := L.is 0 (opv hd0 sc0) rfl
  try dsimp only [nput] at L
  generalize (((w).alloc (.cells #[.int .u32 (a : Int), .int .i64 p, .slice A n c, .int .i64 (ns : Int), .int .i64 wo, .int .i64 qu, .int .i64 tr] 27)).alloc (.cells (opv ⟨A0, n0, c0, A1, n1, c1, A2, n2, c2, A3, n3, c3⟩ ⟨1, addr, err, aad, used, 6, shard, sought, leaf, bit, word, full, (tt : Int), tries, item, stamp⟩) 40)).alloc (.cells #[.int .i64 0, .int .u32 0, .slice none 0 0, .int .i64 0, .int .u32 0, .bool false, .slice none 0 0, .slice none 0 0, .int .i64 0, .int .i64 0, .int .i64 0, .int .i64 0, .int .i64 0, .int .u64 0, .bool false, .slice none 0 0, .int .i64 0, .int .i64 0, .int .i64 0, .int .i64 0] 40) = w1 at L ⊢
  generalize w.heap.size + 1 + 1 = gR at L ⊢
  generalize w.heap.size + 1 = gO at L ⊢
  generalize w.heap.size = gH at L ⊢
  have H_0 := L.at_ 2 0 rfl (v := .int .u32 (a : Int)) rfl
  have H_1 := L.at_ 2 1 rfl (v := .int .i64 p) rfl
  have H_z := L.lt 2 rfl
  go_wp2_with fail
  refine (rmany_yes hM).mono ?_
  rintro e w2 ⟨rfl, K'⟩
  clear H_0 H_1 H_z
  replace L := L.over K'
  go_wp2_with fail
  refine ((TLv _).out).mono ?_
  rintro e w' ⟨rfl, rfl⟩
  have O_16 := L.at_ 1 16 rfl (v := .int .i64 (tt : Int)) rfl
  have O_8 := L.at_ 1 8 rfl (v := .int .i64 6) rfl
  have O_z := L.lt 1 rfl
  have X := (L.K.cell (p := ⟨bb, oo + tt, none⟩) hbb).trans hcc
  go_wp2_with fail
  refine ((TF _).out).mono ?_
  rintro e w' ⟨rfl, rfl⟩
  clear O_16 O_8 O_z X
  have O_0 := L.at_ 1 0 rfl (v := .int .i64 1) rfl
  have O_16 := L.at_ 1 16 rfl (v := .int .i64 (tt : Int)) rfl
  have O_z := L.lt 1 rfl
  go_wp2_with (refine wpList_load_row rfl 40 (.tmp 5) rfl gO rfl _ _ (0, 0) _ (L.bk_ 1 rfl) Tryz.underlying40 rfl op_sz ?_)
  refine ((TP _ ⟨1, addr, err, aad, used, 6, shard, sought, leaf, bit, word, full, (tt : Int), tries, item, stamp⟩).out).mono ?_
  rintro e w3 ⟨rfl, K'⟩
  clear O_0 O_16 O_z
  replace L := L.over K'
  go_upto_region 8 with (refine wpList_store_row rfl 40 (.tmp 5) (.tmp 40) rfl gO _ rfl rfl _ _ (L.bk_ 1 rfl) op_sz rfl (opv_one _ _) ?_)
  replace L := (L.row 1 rfl (opv ⟨A0, n0, c0, A1, n1, c1, A2, n2, c2, none, 0, 0⟩ ⟨1, addr, err, aad, used, 3, shard, sought, leaf, bit, word, full, 0, tries, item, stamp⟩))
  try dsimp only [nput] at L
  generalize (w3).setRow gO (opv ⟨A0, n0, c0, A1, n1, c1, A2, n2, c2, none, 0, 0⟩ ⟨1, addr, err, aad, used, 3, shard, sought, leaf, bit, word, full, 0, tries, item, stamp⟩) = w4 at L ⊢
  have O_11 := L.at_ 1 11 rfl (v := .int .i64 leaf) rfl
  have O_z := L.lt 1 rfl
  have O_f11 := L.fz 1 11 rfl
  go_upto_region 9 with fail
  clear O_11 O_z O_f11
  replace L := ((L.set 1 11 rfl (.int .i64 (tt : Int))).is 1 (opv ⟨A0, n0, c0, A1, n1, c1, A2, n2, c2, none, 0, 0⟩ ⟨1, addr, err, aad, used, 3, shard, sought, (tt : Int), bit, word, full, 0, tries, item, stamp⟩) rfl)
  try dsimp only [nput] at L
  generalize (w4).setCell ⟨gO, 11, none⟩ (.int .i64 (tt : Int)) = w5 at L ⊢
  have O_13 := L.at_ 1 13 rfl (v := .int .u64 ((word : Nat) : Int)) rfl
  have O_z := L.lt 1 rfl
  have O_f13 := L.fz 1 13 rfl
  go_upto_region 10 with fail
  clear O_13 O_z O_f13
  replace L := ((L.set 1 13 rfl (.int .u64 ((x : Nat) : Int))).is 1 (opv ⟨A0, n0, c0, A1, n1, c1, A2, n2, c2, none, 0, 0⟩ ⟨1, addr, err, aad, used, 3, shard, sought, (tt : Int), bit, x, full, 0, tries, item, stamp⟩) rfl)
  try dsimp only [nput] at L
  generalize (w5).setCell ⟨gO, 13, none⟩ (.int .u64 ((x : Nat) : Int)) = w6 at L ⊢
  have O_12 := L.at_ 1 12 rfl (v := .int .i64 bit) rfl
  have O_z := L.lt 1 rfl
  have O_f12 := L.fz 1 12 rfl
  go_upto_region 11 with fail
  clear O_12 O_z O_f12
  replace L := ((L.set 1 12 rfl (.int .i64 (f : Int))).is 1 (opv ⟨A0, n0, c0, A1, n1, c1, A2, n2, c2, none, 0, 0⟩ ⟨1, addr, err, aad, used, 3, shard, sought, (tt : Int), (f : Int), x, full, 0, tries, item, stamp⟩) rfl)
  try dsimp only [nput] at L
  generalize (w6).setCell ⟨gO, 12, none⟩ (.int .i64 (f : Int)) = w7 at L ⊢
  go_wp2_with (first | (refine wpList_load_row rfl 40 (.tmp 5) rfl gO rfl _ _ (0, 0) _ (L.bk_ 1 rfl) Tryz.underlying40 rfl op_sz ?_) | (refine wpList_store_row rfl 40 (.tmp 6) (.tmp 47) rfl gR _ rfl rfl _ _ (L.bk_ 0 rfl) op_sz rfl (opv_one _ _) ?_))
  replace L := (L.row 0 rfl (opv ⟨A0, n0, c0, A1, n1, c1, A2, n2, c2, none, 0, 0⟩ ⟨1, addr, err, aad, used, 3, shard, sought, (tt : Int), (f : Int), x, full, 0, tries, item, stamp⟩))
  try dsimp only [nput] at L
  generalize (w7).setRow gR (opv ⟨A0, n0, c0, A1, n1, c1, A2, n2, c2, none, 0, 0⟩ ⟨1, addr, err, aad, used, 3, shard, sought, (tt : Int), (f : Int), x, full, 0, tries, item, stamp⟩) = w8 at L ⊢
  refine bodyPost_ret (v := .tuple #[.agg (opv ⟨A0, n0, c0, A1, n1, c1, A2, n2, c2, none, 0, 0⟩ ⟨1, addr, err, aad, used, 3, shard, sought, (tt : Int), (f : Int), x, full, 0, tries, item, stamp⟩), .bool false]) ?_ rfl ?_
  · exact results_ct (fn := Tryz.f44) Tryz.results44 _ _ gR _ _ (0, 0) _ rfl (L.bk_ 0 rfl) Tryz.underlying40 rfl op_sz
  exact ⟨_, rfl, hZ2 _ _, sa_zero rfl, L.K⟩
set_option maxHeartbeats 2000000 in
theorem rsw_mv (hM : Much a p M) (hL : Lists lo w h (gl sn)) (hU : US w B m d ys) (hm : m = lv M + tv M + 1) (hk : s.kind = 1) (hat : s.at_ = (tt : Int)) (htt : tt < lv M) (hU3 : US w h.A3 h.n3 h.c3 sn) (hsn : sn.length = tt) (hph : s.phase = 6) (hb : fb (gt ys tt) 32 = false) (hlt : tt + 1 < lv M) :
    Calls Tryz.prog 44 #[.agg #[.int .u32 (a : Int), .int .i64 p, .slice A n c, .int .i64 (ns : Int), .int .i64 wo, .int .i64 qu, .int .i64 tr], .slice B m d, .agg (opv h s)] w (RetROB (swMv s) (gl (sn ++ [gt ys tt])) false h w) := by
  have hm9 := hM.most
  have hl3 := lv_le hm9
  have hm6 : m ≤ 65536 := by have := tv_le hm9; omega
  have hZ2 := fun lo2 w2 => gl_none hL lo2 w2
  have hcm : tt < m := by omega
  obtain ⟨bb, oo, hBe, hbb, hcc⟩ := hU.get hcm
  subst hBe
  have hcm2 : (tt : Int) < (m : Int) := by omega
  have hx64 := gt_lt hU.fit tt
  have TLv := fun w => Lib.hid (rleaves_any M hm9 w)
  obtain ⟨LV, hLV⟩ : ∃ x, x = lv M := ⟨_, rfl⟩
  rw [← hLV] at TLv htt
  have f1 : IntKind.i64.wrap ((tt : Int) + 1) = (tt : Int) + 1 := IntWalk.i64_in _ (by omega)
  have TF := fun w => Lib.hid (rwfirst_any (gt ys tt) hx64 w)
  rw [hb] at TF
  obtain ⟨f, hf⟩ : ∃ f, f = fi (gt ys tt) 32 := ⟨_, rfl⟩
  obtain ⟨x, hx⟩ : ∃ x, x = gt ys tt := ⟨_, rfl⟩
  simp only [← hf] at TF ⊢
  simp only [← hx] at TF ⊢
  rw [← hx] at hcc
  rw [← hLV] at hlt
  have hn9 := (gl_len hL).2.2.2
  have hR := fun w3 lo2 A3 n3 c3 I => gl_row (w' := w3) (lo2 := lo2) (A' := A3) (n' := n3) (c' := c3) (y := x) hL I
  have f2 : ((tt : Int) + 1 == (LV : Int)) = false := by simp; omega
  have hn2 : h.n3 ≤ 2048 := by omega
  clear hn9 hsn
  clear hb hf hx hL hm hm6 hx64 hLV htt hl3 hm9 hlt
  rcases s with ⟨kind, addr, err, aad, used, phase, shard, sought, leaf, bit, word, full, at_, tries, item, stamp⟩
  rcases h with ⟨A0, n0, c0, A1, n1, c1, A2, n2, c2, A3, n3, c3⟩
  try dsimp only at *
  subst hk hat hph
  go_enter Tryz.func44, Tryz.ntmps44
  go_upto_region 1 with (fail)
  have L := Loc.start w
  replace L := (((L).alloc #[.int .u32 (a : Int), .int .i64 p, .slice A n c, .int .i64 (ns : Int), .int .i64 wo, .int .i64 qu, .int .i64 tr] 27).alloc (opv ⟨A0, n0, c0, A1, n1, c1, A2, n2, c2, A3, n3, c3⟩ ⟨1, addr, err, aad, used, 6, shard, sought, leaf, bit, word, full, (tt : Int), tries, item, stamp⟩) 40).alloc #[.int .i64 0, .int .u32 0, .slice none 0 0, .int .i64 0, .int .u32 0, .bool false, .slice none 0 0, .slice none 0 0, .int .i64 0, .int .i64 0, .int .i64 0, .int .i64 0, .int .i64 0, .int .u64 0, .bool false, .slice none 0 0, .int .i64 0, .int .i64 0, .int .i64 0, .int .i64 0] 40
  try simp only [World.size_alloc] at L
  replace L := L.is 0 (opv hd0 sc0) rfl
  try dsimp only [nput] at L
  generalize (((w).alloc (.cells #[.int .u32 (a : Int), .int .i64 p, .slice A n c, .int .i64 (ns : Int), .int .i64 wo, .int .i64 qu, .int .i64 tr] 27)).alloc (.cells (opv ⟨A0, n0, c0, A1, n1, c1, A2, n2, c2, A3, n3, c3⟩ ⟨1, addr, err, aad, used, 6, shard, sought, leaf, bit, word, full, (tt : Int), tries, item, stamp⟩) 40)).alloc (.cells #[.int .i64 0, .int .u32 0, .slice none 0 0, .int .i64 0, .int .u32 0, .bool false, .slice none 0 0, .slice none 0 0, .int .i64 0, .int .i64 0, .int .i64 0, .int .i64 0, .int .i64 0, .int .u64 0, .bool false, .slice none 0 0, .int .i64 0, .int .i64 0, .int .i64 0, .int .i64 0] 40) = w1 at L ⊢
  generalize w.heap.size + 1 + 1 = gR at L ⊢
  generalize w.heap.size + 1 = gO at L ⊢
  generalize w.heap.size = gH at L ⊢
  have H_0 := L.at_ 2 0 rfl (v := .int .u32 (a : Int)) rfl
  have H_1 := L.at_ 2 1 rfl (v := .int .i64 p) rfl
  have H_z := L.lt 2 rfl
  go_wp2_with fail
  refine (rmany_yes hM).mono ?_
  rintro e w2 ⟨rfl, K'⟩
  clear H_0 H_1 H_z
  replace L := L.over K'
  go_wp2_with fail
  refine ((TLv _).out).mono ?_
  rintro e w' ⟨rfl, rfl⟩
  have O_16 := L.at_ 1 16 rfl (v := .int .i64 (tt : Int)) rfl
  have O_8 := L.at_ 1 8 rfl (v := .int .i64 6) rfl
  have O_z := L.lt 1 rfl
  have X := (L.K.cell (p := ⟨bb, oo + tt, none⟩) hbb).trans hcc
  go_wp2_with fail
  refine ((TF _).out).mono ?_
  rintro e w' ⟨rfl, rfl⟩
  clear O_16 O_8 O_z X
  have O_15c := L.at_ 1 15 rfl (v := .slice A3 n3 c3) rfl
  have O_zc := L.lt 1 rfl
  have hbs := L.K.size
  obtain ⟨i0, hi, hz0, hz1, hz2⟩ := info_parts u64_info
  have hown : (w2.alloc (.cells #[] 37)).ownsRow w2.heap.size 37 1 (.slice (some ⟨w2.heap.size, 0, none⟩) 0 0) 0 [] := World.ownsRow_lit w2 #[] 0 (Nat.le_refl _) (by unfold maxLen; omega) rfl
  have Ka := below_alloc w2 (.cells #[] 37)
  have hUc := hU3.below L.K
  obtain ⟨gS, dS, wRS, hapS, OR, KR⟩ := run_append_us (P := Tryz.prog) Tryz.underlying38 hi hz0 hz1 hz2 hown (hUc.below Ka) (by omega) (Nat.le_refl _) Ka.size 38
  have KC := Ka.trans KR
  have RI : Ri .u64 37 wRS w2.heap.size (.slice (some ⟨gS, 0, none⟩) n3 dS) n3 (sn.map Int.ofNat) := by unfold Ri; rw [List.map_map]; exact OR
  have Lb := L.lts
  replace L := (L.over KC).ri_new Lb RI
  have hsz := KC.size
  clear hown Ka KR OR KC hUc RI Lb
  obtain ⟨AE, cE, wAE, hapE, LA⟩ := L.app1 (P := Tryz.prog) (x := ((x : Nat) : Int)) SepL.nil hbs (by omega) hsz Tryz.underlying38 hi hz0 hz1 hz2 38
  have O_15 := L.at_ 1 15 rfl (v := .slice A3 n3 c3) rfl
  have O_z := L.lt 1 rfl
  have Oa_f15 := LA.fz 1 15 rfl
  have Oa_15 := LA.at_ 1 15 rfl (v := .slice A3 n3 c3) rfl
  have Oa_z15 := LA.lt 1 rfl
  go_upto_region 13 with (first | (at_builtin; refine wpList_append_run rfl (.tmp 48) (.tmp 50) 38 rfl _ _ _ _ rfl rfl hapS ?_) | (at_builtin; refine wpList_append_run rfl (.tmp 51) (.tmp 53) 38 rfl _ _ _ _ rfl rfl hapE ?_))
  clear O_15 O_z Oa_f15 Oa_15 Oa_z15
  replace L := ((LA.set 1 15 rfl (.slice AE (n3 + 1) cE)).is 1 (opv ⟨A0, n0, c0, A1, n1, c1, A2, n2, c2, AE, (n3 + 1), cE⟩ ⟨1, addr, err, aad, used, 6, shard, sought, leaf, bit, word, full, (tt : Int), tries, item, stamp⟩) rfl)
  clear LA hapE
  try dsimp only [nput] at L
  generalize (wAE).setCell ⟨gO, 15, none⟩ (.slice AE (n3 + 1) cE) = w3 at L ⊢
  clear O_15c O_zc
  have O_16 := L.at_ 1 16 rfl (v := .int .i64 (tt : Int)) rfl
  have O_z := L.lt 1 rfl
  have O_f16 := L.fz 1 16 rfl
  go_upto_region 14 with fail
  clear O_16 O_z O_f16
  replace L := ((L.set 1 16 rfl (.int .i64 (((tt : Int) + 1)))).is 1 (opv ⟨A0, n0, c0, A1, n1, c1, A2, n2, c2, AE, (n3 + 1), cE⟩ ⟨1, addr, err, aad, used, 6, shard, sought, leaf, bit, word, full, ((tt : Int) + 1), tries, item, stamp⟩) rfl)
  try dsimp only [nput] at L
  generalize (w3).setCell ⟨gO, 16, none⟩ (.int .i64 (((tt : Int) + 1))) = w4 at L ⊢
  have O_16 := L.at_ 1 16 rfl (v := .int .i64 (((tt : Int) + 1))) rfl
  have O_z := L.lt 1 rfl
  go_wp2_with (first | (refine wpList_load_row rfl 40 (.tmp 5) rfl gO rfl _ _ (0, 0) _ (L.bk_ 1 rfl) Tryz.underlying40 rfl op_sz ?_) | (refine wpList_store_row rfl 40 (.tmp 6) (.tmp 66) rfl gR _ rfl rfl _ _ (L.bk_ 0 rfl) op_sz rfl (opv_one _ _) ?_))
  clear O_16 O_z
  replace L := (L.row 0 rfl (opv ⟨A0, n0, c0, A1, n1, c1, A2, n2, c2, AE, (n3 + 1), cE⟩ ⟨1, addr, err, aad, used, 6, shard, sought, leaf, bit, word, full, ((tt : Int) + 1), tries, item, stamp⟩))
  try dsimp only [nput] at L
  generalize (w4).setRow gR (opv ⟨A0, n0, c0, A1, n1, c1, A2, n2, c2, AE, (n3 + 1), cE⟩ ⟨1, addr, err, aad, used, 6, shard, sought, leaf, bit, word, full, ((tt : Int) + 1), tries, item, stamp⟩) = w5 at L ⊢
  refine bodyPost_ret (v := .tuple #[.agg (opv ⟨A0, n0, c0, A1, n1, c1, A2, n2, c2, AE, (n3 + 1), cE⟩ ⟨1, addr, err, aad, used, 6, shard, sought, leaf, bit, word, full, ((tt : Int) + 1), tries, item, stamp⟩), .bool false]) ?_ rfl ?_
  · exact results_ct (fn := Tryz.f44) Tryz.results44 _ _ gR _ _ (0, 0) _ rfl (L.bk_ 0 rfl) Tryz.underlying40 rfl op_sz
  exact ⟨_, rfl, hR _ _ _ _ _ (L.ri_ 0 rfl).is, sa_new (L.ri_ 0 rfl).is hbs, L.K⟩
set_option maxHeartbeats 2000000 in
theorem rsw_ag (hM : Much a p M) (hL : Lists lo w h (gl sn)) (hU : US w B m d ys) (hm : m = lv M + tv M + 1) (hk : s.kind = 1) (hat : s.at_ = (tt : Int)) (htt : tt < lv M) (hU3 : US w h.A3 h.n3 h.c3 sn) (hsn : sn.length = tt) (hph : s.phase = 6) (hb : fb (gt ys tt) 32 = false) (hlt : ¬ tt + 1 < lv M) :
    Calls Tryz.prog 44 #[.agg #[.int .u32 (a : Int), .int .i64 p, .slice A n c, .int .i64 (ns : Int), .int .i64 wo, .int .i64 qu, .int .i64 tr], .slice B m d, .agg (opv h s)] w (RetROB (swAg s) (gl (sn ++ [gt ys tt])) false h w) := by
  have hm9 := hM.most
  have hl3 := lv_le hm9
  have hm6 : m ≤ 65536 := by have := tv_le hm9; omega
  have hZ2 := fun lo2 w2 => gl_none hL lo2 w2
  have hcm : tt < m := by omega
  obtain ⟨bb, oo, hBe, hbb, hcc⟩ := hU.get hcm
  subst hBe
  have hcm2 : (tt : Int) < (m : Int) := by omega
  have hx64 := gt_lt hU.fit tt
  have TLv := fun w => Lib.hid (rleaves_any M hm9 w)
  obtain ⟨LV, hLV⟩ : ∃ x, x = lv M := ⟨_, rfl⟩
  rw [← hLV] at TLv htt
  have f1 : IntKind.i64.wrap ((tt : Int) + 1) = (tt : Int) + 1 := IntWalk.i64_in _ (by omega)
  have TF := fun w => Lib.hid (rwfirst_any (gt ys tt) hx64 w)
  rw [hb] at TF
  obtain ⟨f, hf⟩ : ∃ f, f = fi (gt ys tt) 32 := ⟨_, rfl⟩
  obtain ⟨x, hx⟩ : ∃ x, x = gt ys tt := ⟨_, rfl⟩
  simp only [← hf] at TF ⊢
  simp only [← hx] at TF ⊢
  rw [← hx] at hcc
  rw [← hLV] at hlt
  have hn9 := (gl_len hL).2.2.2
  have hR := fun w3 lo2 A3 n3 c3 I => gl_row (w' := w3) (lo2 := lo2) (A' := A3) (n' := n3) (c' := c3) (y := x) hL I
  have f2 : ((tt : Int) + 1 == (LV : Int)) = true := by simp; omega
  have hn2 : h.n3 ≤ 2048 := by omega
  clear hn9 hsn
  clear hb hf hx hL hm hm6 hx64 hLV htt hl3 hm9 hlt
  rcases s with ⟨kind, addr, err, aad, used, phase, shard, sought, leaf, bit, word, full, at_, tries, item, stamp⟩
  rcases h with ⟨A0, n0, c0, A1, n1, c1, A2, n2, c2, A3, n3, c3⟩
  try dsimp only at *
  subst hk hat hph
  go_enter Tryz.func44, Tryz.ntmps44
  go_upto_region 1 with (fail)
  have L := Loc.start w
  replace L := (((L).alloc #[.int .u32 (a : Int), .int .i64 p, .slice A n c, .int .i64 (ns : Int), .int .i64 wo, .int .i64 qu, .int .i64 tr] 27).alloc (opv ⟨A0, n0, c0, A1, n1, c1, A2, n2, c2, A3, n3, c3⟩ ⟨1, addr, err, aad, used, 6, shard, sought, leaf, bit, word, full, (tt : Int), tries, item, stamp⟩) 40).alloc #[.int .i64 0, .int .u32 0, .slice none 0 0, .int .i64 0, .int .u32 0, .bool false, .slice none 0 0, .slice none 0 0, .int .i64 0, .int .i64 0, .int .i64 0, .int .i64 0, .int .i64 0, .int .u64 0, .bool false, .slice none 0 0, .int .i64 0, .int .i64 0, .int .i64 0, .int .i64 0] 40
  try simp only [World.size_alloc] at L
  replace L := L.is 0 (opv hd0 sc0) rfl
  try dsimp only [nput] at L
  generalize (((w).alloc (.cells #[.int .u32 (a : Int), .int .i64 p, .slice A n c, .int .i64 (ns : Int), .int .i64 wo, .int .i64 qu, .int .i64 tr] 27)).alloc (.cells (opv ⟨A0, n0, c0, A1, n1, c1, A2, n2, c2, A3, n3, c3⟩ ⟨1, addr, err, aad, used, 6, shard, sought, leaf, bit, word, full, (tt : Int), tries, item, stamp⟩) 40)).alloc (.cells #[.int .i64 0, .int .u32 0, .slice none 0 0, .int .i64 0, .int .u32 0, .bool false, .slice none 0 0, .slice none 0 0, .int .i64 0, .int .i64 0, .int .i64 0, .int .i64 0, .int .i64 0, .int .u64 0, .bool false, .slice none 0 0, .int .i64 0, .int .i64 0, .int .i64 0, .int .i64 0] 40) = w1 at L ⊢
  generalize w.heap.size + 1 + 1 = gR at L ⊢
  generalize w.heap.size + 1 = gO at L ⊢
  generalize w.heap.size = gH at L ⊢
  have H_0 := L.at_ 2 0 rfl (v := .int .u32 (a : Int)) rfl
  have H_1 := L.at_ 2 1 rfl (v := .int .i64 p) rfl
  have H_z := L.lt 2 rfl
  go_wp2_with fail
  refine (rmany_yes hM).mono ?_
  rintro e w2 ⟨rfl, K'⟩
  clear H_0 H_1 H_z
  replace L := L.over K'
  go_wp2_with fail
  refine ((TLv _).out).mono ?_
  rintro e w' ⟨rfl, rfl⟩
  have O_16 := L.at_ 1 16 rfl (v := .int .i64 (tt : Int)) rfl
  have O_8 := L.at_ 1 8 rfl (v := .int .i64 6) rfl
  have O_z := L.lt 1 rfl
  have X := (L.K.cell (p := ⟨bb, oo + tt, none⟩) hbb).trans hcc
  go_wp2_with fail
  refine ((TF _).out).mono ?_
  rintro e w' ⟨rfl, rfl⟩
  clear O_16 O_8 O_z X
  have O_15c := L.at_ 1 15 rfl (v := .slice A3 n3 c3) rfl
  have O_zc := L.lt 1 rfl
  have hbs := L.K.size
  obtain ⟨i0, hi, hz0, hz1, hz2⟩ := info_parts u64_info
  have hown : (w2.alloc (.cells #[] 37)).ownsRow w2.heap.size 37 1 (.slice (some ⟨w2.heap.size, 0, none⟩) 0 0) 0 [] := World.ownsRow_lit w2 #[] 0 (Nat.le_refl _) (by unfold maxLen; omega) rfl
  have Ka := below_alloc w2 (.cells #[] 37)
  have hUc := hU3.below L.K
  obtain ⟨gS, dS, wRS, hapS, OR, KR⟩ := run_append_us (P := Tryz.prog) Tryz.underlying38 hi hz0 hz1 hz2 hown (hUc.below Ka) (by omega) (Nat.le_refl _) Ka.size 38
  have KC := Ka.trans KR
  have RI : Ri .u64 37 wRS w2.heap.size (.slice (some ⟨gS, 0, none⟩) n3 dS) n3 (sn.map Int.ofNat) := by unfold Ri; rw [List.map_map]; exact OR
  have Lb := L.lts
  replace L := (L.over KC).ri_new Lb RI
  have hsz := KC.size
  clear hown Ka KR OR KC hUc RI Lb
  obtain ⟨AE, cE, wAE, hapE, LA⟩ := L.app1 (P := Tryz.prog) (x := ((x : Nat) : Int)) SepL.nil hbs (by omega) hsz Tryz.underlying38 hi hz0 hz1 hz2 38
  have O_15 := L.at_ 1 15 rfl (v := .slice A3 n3 c3) rfl
  have O_z := L.lt 1 rfl
  have Oa_f15 := LA.fz 1 15 rfl
  have Oa_15 := LA.at_ 1 15 rfl (v := .slice A3 n3 c3) rfl
  have Oa_z15 := LA.lt 1 rfl
  go_upto_region 13 with (first | (at_builtin; refine wpList_append_run rfl (.tmp 48) (.tmp 50) 38 rfl _ _ _ _ rfl rfl hapS ?_) | (at_builtin; refine wpList_append_run rfl (.tmp 51) (.tmp 53) 38 rfl _ _ _ _ rfl rfl hapE ?_))
  clear O_15 O_z Oa_f15 Oa_15 Oa_z15
  replace L := ((LA.set 1 15 rfl (.slice AE (n3 + 1) cE)).is 1 (opv ⟨A0, n0, c0, A1, n1, c1, A2, n2, c2, AE, (n3 + 1), cE⟩ ⟨1, addr, err, aad, used, 6, shard, sought, leaf, bit, word, full, (tt : Int), tries, item, stamp⟩) rfl)
  clear LA hapE
  try dsimp only [nput] at L
  generalize (wAE).setCell ⟨gO, 15, none⟩ (.slice AE (n3 + 1) cE) = w3 at L ⊢
  clear O_15c O_zc
  have O_16 := L.at_ 1 16 rfl (v := .int .i64 (tt : Int)) rfl
  have O_z := L.lt 1 rfl
  have O_f16 := L.fz 1 16 rfl
  go_upto_region 14 with fail
  clear O_16 O_z O_f16
  replace L := ((L.set 1 16 rfl (.int .i64 (((tt : Int) + 1)))).is 1 (opv ⟨A0, n0, c0, A1, n1, c1, A2, n2, c2, AE, (n3 + 1), cE⟩ ⟨1, addr, err, aad, used, 6, shard, sought, leaf, bit, word, full, ((tt : Int) + 1), tries, item, stamp⟩) rfl)
  try dsimp only [nput] at L
  generalize (w3).setCell ⟨gO, 16, none⟩ (.int .i64 (((tt : Int) + 1))) = w4 at L ⊢
  have O_16 := L.at_ 1 16 rfl (v := .int .i64 (((tt : Int) + 1))) rfl
  have O_z := L.lt 1 rfl
  have O_f16 := L.fz 1 16 rfl
  go_upto_region 16 with fail
  clear O_16 O_z O_f16
  replace L := ((L.set 1 16 rfl (.int .i64 0)).is 1 (opv ⟨A0, n0, c0, A1, n1, c1, A2, n2, c2, AE, (n3 + 1), cE⟩ ⟨1, addr, err, aad, used, 6, shard, sought, leaf, bit, word, full, 0, tries, item, stamp⟩) rfl)
  try dsimp only [nput] at L
  generalize (w4).setCell ⟨gO, 16, none⟩ (.int .i64 0) = w5 at L ⊢
  have O_8 := L.at_ 1 8 rfl (v := .int .i64 6) rfl
  have O_z := L.lt 1 rfl
  have O_f8 := L.fz 1 8 rfl
  go_upto_region 17 with fail
  clear O_8 O_z O_f8
  replace L := ((L.set 1 8 rfl (.int .i64 7)).is 1 (opv ⟨A0, n0, c0, A1, n1, c1, A2, n2, c2, AE, (n3 + 1), cE⟩ ⟨1, addr, err, aad, used, 7, shard, sought, leaf, bit, word, full, 0, tries, item, stamp⟩) rfl)
  try dsimp only [nput] at L
  generalize (w5).setCell ⟨gO, 8, none⟩ (.int .i64 7) = w6 at L ⊢
  go_wp2_with (first | (refine wpList_load_row rfl 40 (.tmp 5) rfl gO rfl _ _ (0, 0) _ (L.bk_ 1 rfl) Tryz.underlying40 rfl op_sz ?_) | (refine wpList_store_row rfl 40 (.tmp 6) (.tmp 66) rfl gR _ rfl rfl _ _ (L.bk_ 0 rfl) op_sz rfl (opv_one _ _) ?_))
  replace L := (L.row 0 rfl (opv ⟨A0, n0, c0, A1, n1, c1, A2, n2, c2, AE, (n3 + 1), cE⟩ ⟨1, addr, err, aad, used, 7, shard, sought, leaf, bit, word, full, 0, tries, item, stamp⟩))
  try dsimp only [nput] at L
  generalize (w6).setRow gR (opv ⟨A0, n0, c0, A1, n1, c1, A2, n2, c2, AE, (n3 + 1), cE⟩ ⟨1, addr, err, aad, used, 7, shard, sought, leaf, bit, word, full, 0, tries, item, stamp⟩) = w7 at L ⊢
  refine bodyPost_ret (v := .tuple #[.agg (opv ⟨A0, n0, c0, A1, n1, c1, A2, n2, c2, AE, (n3 + 1), cE⟩ ⟨1, addr, err, aad, used, 7, shard, sought, leaf, bit, word, full, 0, tries, item, stamp⟩), .bool false]) ?_ rfl ?_
  · exact results_ct (fn := Tryz.f44) Tryz.results44 _ _ gR _ _ (0, 0) _ rfl (L.bk_ 0 rfl) Tryz.underlying40 rfl op_sz
  exact ⟨_, rfl, hR _ _ _ _ _ (L.ri_ 0 rfl).is, sa_new (L.ri_ 0 rfl).is hbs, L.K⟩
set_option maxHeartbeats 2000000 in
theorem rsw_not (hM : Much a p M) (hL : Lists lo w h (gl sn)) (hU : US w B m d ys) (hm : m = lv M + tv M + 1) (hk : s.kind = 1) (hat : s.at_ = (tt : Int)) (htt : tt < lv M) (hU3 : US w h.A3 h.n3 h.c3 sn) (hsn : tt < sn.length) (hph : s.phase = 7) (hne : gt ys tt ≠ gt sn tt) :
    Calls Tryz.prog 44 #[.agg #[.int .u32 (a : Int), .int .i64 p, .slice A n c, .int .i64 (ns : Int), .int .i64 wo, .int .i64 qu, .int .i64 tr], .slice B m d, .agg (opv h s)] w (RetROB (swLe s 6) (gl []) false h w) := by
  have hm9 := hM.most
  have hl3 := lv_le hm9
  have hm6 : m ≤ 65536 := by have := tv_le hm9; omega
  have hZ2 := fun lo2 w2 => gl_none hL lo2 w2
  have hcm : tt < m := by omega
  obtain ⟨bb, oo, hBe, hbb, hcc⟩ := hU.get hcm
  subst hBe
  have hcm2 : (tt : Int) < (m : Int) := by omega
  have hx64 := gt_lt hU.fit tt
  have TLv := fun w => Lib.hid (rleaves_any M hm9 w)
  obtain ⟨LV, hLV⟩ : ∃ x, x = lv M := ⟨_, rfl⟩
  rw [← hLV] at TLv htt
  have f1 : IntKind.i64.wrap ((tt : Int) + 1) = (tt : Int) + 1 := IntWalk.i64_in _ (by omega)
  obtain ⟨x, hx⟩ : ∃ x, x = gt ys tt := ⟨_, rfl⟩
  obtain ⟨y, hy⟩ : ∃ y, y = gt sn tt := ⟨_, rfl⟩
  rw [← hx, ← hy] at hne
  rw [← hx] at hcc
  have htn : tt < h.n3 := by have := (gl_len hL).2.2.2; omega
  have e1 : ((y : Int) != (x : Int)) = true := by simp; omega
  have TP := fun w s => Lib.hid (rph16_any (w := w) (h := h) (s := s) 6)
  simp only [swLe] at TP
  have hc3 : (tt : Int) < (h.n3 : Int) := by omega
  have hLk := fun w2 (K : Below w.heap.size w w2) => (hL.below K).lower_ (Nat.zero_le _)
  clear hx hsn hL hm hm6 hx64 hLV htt hl3 hm9
  rcases s with ⟨kind, addr, err, aad, used, phase, shard, sought, leaf, bit, word, full, at_, tries, item, stamp⟩
  rcases h with ⟨A0, n0, c0, A1, n1, c1, A2, n2, c2, A3, n3, c3⟩
  try dsimp only at *
  obtain ⟨be, oe, hBe, hbe, hce⟩ := hU3.get htn
  subst hBe
  rw [← hy] at hce
  clear hy htn
  subst hk hat hph
  go_enter Tryz.func44, Tryz.ntmps44
  go_upto_region 1 with (fail)
  have L := Loc.start w
  replace L := (((L).alloc #[.int .u32 (a : Int), .int .i64 p, .slice A n c, .int .i64 (ns : Int), .int .i64 wo, .int .i64 qu, .int .i64 tr] 27).alloc (opv ⟨A0, n0, c0, A1, n1, c1, A2, n2, c2, (some ⟨be, oe, none⟩), n3, c3⟩ ⟨1, addr, err, aad, used, 7, shard, sought, leaf, bit, word, full, (tt : Int), tries, item, stamp⟩) 40).alloc #[.int .i64 0, .int .u32 0, .slice none 0 0, .int .i64 0, .int .u32 0, .bool false, .slice none 0 0, .slice none 0 0, .int .i64 0, .int .i64 0, .int .i64 0, .int .i64 0, .int .i64 0, .int .u64 0, .bool false, .slice none 0 0, .int .i64 0, .int .i64 0, .int .i64 0, .int .i64 0] 40
  try simp only [World.size_alloc] at L
  replace L := L.is 0 (opv hd0 sc0) rfl
  try dsimp only [nput] at L
  generalize (((w).alloc (.cells #[.int .u32 (a : Int), .int .i64 p, .slice A n c, .int .i64 (ns : Int), .int .i64 wo, .int .i64 qu, .int .i64 tr] 27)).alloc (.cells (opv ⟨A0, n0, c0, A1, n1, c1, A2, n2, c2, (some ⟨be, oe, none⟩), n3, c3⟩ ⟨1, addr, err, aad, used, 7, shard, sought, leaf, bit, word, full, (tt : Int), tries, item, stamp⟩) 40)).alloc (.cells #[.int .i64 0, .int .u32 0, .slice none 0 0, .int .i64 0, .int .u32 0, .bool false, .slice none 0 0, .slice none 0 0, .int .i64 0, .int .i64 0, .int .i64 0, .int .i64 0, .int .i64 0, .int .u64 0, .bool false, .slice none 0 0, .int .i64 0, .int .i64 0, .int .i64 0, .int .i64 0] 40) = w1 at L ⊢
  generalize w.heap.size + 1 + 1 = gR at L ⊢
  generalize w.heap.size + 1 = gO at L ⊢
  generalize w.heap.size = gH at L ⊢
  have H_0 := L.at_ 2 0 rfl (v := .int .u32 (a : Int)) rfl
  have H_1 := L.at_ 2 1 rfl (v := .int .i64 p) rfl
  have H_z := L.lt 2 rfl
  go_wp2_with fail
  refine (rmany_yes hM).mono ?_
  rintro e w2 ⟨rfl, K'⟩
  clear H_0 H_1 H_z
  replace L := L.over K'
  go_wp2_with fail
  refine ((TLv _).out).mono ?_
  rintro e w' ⟨rfl, rfl⟩
  have O_16 := L.at_ 1 16 rfl (v := .int .i64 (tt : Int)) rfl
  have O_8 := L.at_ 1 8 rfl (v := .int .i64 7) rfl
  have O_15 := L.at_ 1 15 rfl (v := .slice (some ⟨be, oe, none⟩) n3 c3) rfl
  have O_0 := L.at_ 1 0 rfl (v := .int .i64 1) rfl
  have O_z := L.lt 1 rfl
  have X := (L.K.cell (p := ⟨bb, oo + tt, none⟩) hbb).trans hcc
  have X2 := (L.K.cell (p := ⟨be, oe + tt, none⟩) hbe).trans hce
  go_wp2_with (refine wpList_load_row rfl 40 (.tmp 5) rfl gO rfl _ _ (0, 0) _ (L.bk_ 1 rfl) Tryz.underlying40 rfl op_sz ?_)
  refine ((TP _ ⟨1, addr, err, aad, used, 7, shard, sought, leaf, bit, word, full, (tt : Int), tries, item, stamp⟩).out).mono ?_
  rintro e w3 ⟨rfl, K'⟩
  clear O_16 O_8 O_15 O_0 O_z X X2
  replace L := L.over K'
  go_wp2_with (refine wpList_store_row rfl 40 (.tmp 6) (.tmp 93) rfl gR _ rfl rfl _ _ (L.bk_ 0 rfl) op_sz rfl (opv_one _ _) ?_)
  replace L := (L.row 0 rfl (opv ⟨A0, n0, c0, A1, n1, c1, A2, n2, c2, none, 0, 0⟩ ⟨1, addr, err, aad, used, 6, shard, sought, leaf, bit, word, full, 0, tries, item, stamp⟩))
  try dsimp only [nput] at L
  generalize (w3).setRow gR (opv ⟨A0, n0, c0, A1, n1, c1, A2, n2, c2, none, 0, 0⟩ ⟨1, addr, err, aad, used, 6, shard, sought, leaf, bit, word, full, 0, tries, item, stamp⟩) = w4 at L ⊢
  refine bodyPost_ret (v := .tuple #[.agg (opv ⟨A0, n0, c0, A1, n1, c1, A2, n2, c2, none, 0, 0⟩ ⟨1, addr, err, aad, used, 6, shard, sought, leaf, bit, word, full, 0, tries, item, stamp⟩), .bool false]) ?_ rfl ?_
  · exact results_ct (fn := Tryz.f44) Tryz.results44 _ _ gR _ _ (0, 0) _ rfl (L.bk_ 0 rfl) Tryz.underlying40 rfl op_sz
  exact ⟨_, rfl, hZ2 _ _, sa_zero rfl, L.K⟩
set_option maxHeartbeats 2000000 in
theorem rsw_on (hM : Much a p M) (hL : Lists lo w h (gl sn)) (hU : US w B m d ys) (hm : m = lv M + tv M + 1) (hk : s.kind = 1) (hat : s.at_ = (tt : Int)) (htt : tt < lv M) (hU3 : US w h.A3 h.n3 h.c3 sn) (hsn : tt < sn.length) (hph : s.phase = 7) (hne : gt ys tt = gt sn tt) (hlt : tt + 1 < lv M) :
    Calls Tryz.prog 44 #[.agg #[.int .u32 (a : Int), .int .i64 p, .slice A n c, .int .i64 (ns : Int), .int .i64 wo, .int .i64 qu, .int .i64 tr], .slice B m d, .agg (opv h s)] w (RetROB (swMv s) (gl sn) false h w) := by
  have hm9 := hM.most
  have hl3 := lv_le hm9
  have hm6 : m ≤ 65536 := by have := tv_le hm9; omega
  have hZ2 := fun lo2 w2 => gl_none hL lo2 w2
  have hcm : tt < m := by omega
  obtain ⟨bb, oo, hBe, hbb, hcc⟩ := hU.get hcm
  subst hBe
  have hcm2 : (tt : Int) < (m : Int) := by omega
  have hx64 := gt_lt hU.fit tt
  have TLv := fun w => Lib.hid (rleaves_any M hm9 w)
  obtain ⟨LV, hLV⟩ : ∃ x, x = lv M := ⟨_, rfl⟩
  rw [← hLV] at TLv htt
  have f1 : IntKind.i64.wrap ((tt : Int) + 1) = (tt : Int) + 1 := IntWalk.i64_in _ (by omega)
  obtain ⟨x, hx⟩ : ∃ x, x = gt ys tt := ⟨_, rfl⟩
  obtain ⟨y, hy⟩ : ∃ y, y = gt sn tt := ⟨_, rfl⟩
  rw [← hx, ← hy] at hne
  rw [← hx] at hcc
  have htn : tt < h.n3 := by have := (gl_len hL).2.2.2; omega
  subst hne
  have e1 : ((x : Int) != (x : Int)) = false := by simp
  rw [← hLV] at hlt
  have f2 : decide ((tt : Int) + 1 < (LV : Int)) = true := by simp; omega
  have f3 : (tt : Int) + 1 < (LV : Int) := by omega
  have TP := fun w s => Lib.hid (rph16_any (w := w) (h := h) (s := s) 0)
  simp only [swLe] at TP
  have hc3 : (tt : Int) < (h.n3 : Int) := by omega
  have hLk := fun w2 (K : Below w.heap.size w w2) => (hL.below K).lower_ (Nat.zero_le _)
  clear hx hsn hL hm hm6 hx64 hLV htt hl3 hm9 hlt
  rcases s with ⟨kind, addr, err, aad, used, phase, shard, sought, leaf, bit, word, full, at_, tries, item, stamp⟩
  rcases h with ⟨A0, n0, c0, A1, n1, c1, A2, n2, c2, A3, n3, c3⟩
  try dsimp only at *
  obtain ⟨be, oe, hBe, hbe, hce⟩ := hU3.get htn
  subst hBe
  rw [← hy] at hce
  clear hy htn
  subst hk hat hph
  go_enter Tryz.func44, Tryz.ntmps44
  go_upto_region 1 with (fail)
  have L := Loc.start w
  replace L := (((L).alloc #[.int .u32 (a : Int), .int .i64 p, .slice A n c, .int .i64 (ns : Int), .int .i64 wo, .int .i64 qu, .int .i64 tr] 27).alloc (opv ⟨A0, n0, c0, A1, n1, c1, A2, n2, c2, (some ⟨be, oe, none⟩), n3, c3⟩ ⟨1, addr, err, aad, used, 7, shard, sought, leaf, bit, word, full, (tt : Int), tries, item, stamp⟩) 40).alloc #[.int .i64 0, .int .u32 0, .slice none 0 0, .int .i64 0, .int .u32 0, .bool false, .slice none 0 0, .slice none 0 0, .int .i64 0, .int .i64 0, .int .i64 0, .int .i64 0, .int .i64 0, .int .u64 0, .bool false, .slice none 0 0, .int .i64 0, .int .i64 0, .int .i64 0, .int .i64 0] 40
  try simp only [World.size_alloc] at L
  replace L := L.is 0 (opv hd0 sc0) rfl
  try dsimp only [nput] at L
  generalize (((w).alloc (.cells #[.int .u32 (a : Int), .int .i64 p, .slice A n c, .int .i64 (ns : Int), .int .i64 wo, .int .i64 qu, .int .i64 tr] 27)).alloc (.cells (opv ⟨A0, n0, c0, A1, n1, c1, A2, n2, c2, (some ⟨be, oe, none⟩), n3, c3⟩ ⟨1, addr, err, aad, used, 7, shard, sought, leaf, bit, word, full, (tt : Int), tries, item, stamp⟩) 40)).alloc (.cells #[.int .i64 0, .int .u32 0, .slice none 0 0, .int .i64 0, .int .u32 0, .bool false, .slice none 0 0, .slice none 0 0, .int .i64 0, .int .i64 0, .int .i64 0, .int .i64 0, .int .i64 0, .int .u64 0, .bool false, .slice none 0 0, .int .i64 0, .int .i64 0, .int .i64 0, .int .i64 0] 40) = w1 at L ⊢
  generalize w.heap.size + 1 + 1 = gR at L ⊢
  generalize w.heap.size + 1 = gO at L ⊢
  generalize w.heap.size = gH at L ⊢
  have H_0 := L.at_ 2 0 rfl (v := .int .u32 (a : Int)) rfl
  have H_1 := L.at_ 2 1 rfl (v := .int .i64 p) rfl
  have H_z := L.lt 2 rfl
  go_wp2_with fail
  refine (rmany_yes hM).mono ?_
  rintro e w2 ⟨rfl, K'⟩
  clear H_0 H_1 H_z
  replace L := L.over K'
  go_wp2_with fail
  refine ((TLv _).out).mono ?_
  rintro e w' ⟨rfl, rfl⟩
  have O_16 := L.at_ 1 16 rfl (v := .int .i64 (tt : Int)) rfl
  have O_8 := L.at_ 1 8 rfl (v := .int .i64 7) rfl
  have O_15 := L.at_ 1 15 rfl (v := .slice (some ⟨be, oe, none⟩) n3 c3) rfl
  have O_z := L.lt 1 rfl
  have O_f16 := L.fz 1 16 rfl
  have X := (L.K.cell (p := ⟨bb, oo + tt, none⟩) hbb).trans hcc
  have X2 := (L.K.cell (p := ⟨be, oe + tt, none⟩) hbe).trans hce
  go_upto_region 26 with fail
  clear O_16 O_8 O_15 O_z O_f16 X X2
  replace L := ((L.set 1 16 rfl (.int .i64 (((tt : Int) + 1)))).is 1 (opv ⟨A0, n0, c0, A1, n1, c1, A2, n2, c2, (some ⟨be, oe, none⟩), n3, c3⟩ ⟨1, addr, err, aad, used, 7, shard, sought, leaf, bit, word, full, ((tt : Int) + 1), tries, item, stamp⟩) rfl)
  try dsimp only [nput] at L
  generalize (w2).setCell ⟨gO, 16, none⟩ (.int .i64 (((tt : Int) + 1))) = w3 at L ⊢
  have O_16 := L.at_ 1 16 rfl (v := .int .i64 (((tt : Int) + 1))) rfl
  have O_z := L.lt 1 rfl
  go_wp2_with (first | (refine wpList_load_row rfl 40 (.tmp 5) rfl gO rfl _ _ (0, 0) _ (L.bk_ 1 rfl) Tryz.underlying40 rfl op_sz ?_) | (refine wpList_store_row rfl 40 (.tmp 6) (.tmp 102) rfl gR _ rfl rfl _ _ (L.bk_ 0 rfl) op_sz rfl (opv_one _ _) ?_))
  clear O_16 O_z
  replace L := (L.row 0 rfl (opv ⟨A0, n0, c0, A1, n1, c1, A2, n2, c2, (some ⟨be, oe, none⟩), n3, c3⟩ ⟨1, addr, err, aad, used, 7, shard, sought, leaf, bit, word, full, ((tt : Int) + 1), tries, item, stamp⟩))
  try dsimp only [nput] at L
  generalize (w3).setRow gR (opv ⟨A0, n0, c0, A1, n1, c1, A2, n2, c2, (some ⟨be, oe, none⟩), n3, c3⟩ ⟨1, addr, err, aad, used, 7, shard, sought, leaf, bit, word, full, ((tt : Int) + 1), tries, item, stamp⟩) = w4 at L ⊢
  refine bodyPost_ret (v := .tuple #[.agg (opv ⟨A0, n0, c0, A1, n1, c1, A2, n2, c2, (some ⟨be, oe, none⟩), n3, c3⟩ ⟨1, addr, err, aad, used, 7, shard, sought, leaf, bit, word, full, ((tt : Int) + 1), tries, item, stamp⟩), .bool false]) ?_ rfl ?_
  · exact results_ct (fn := Tryz.f44) Tryz.results44 _ _ gR _ _ (0, 0) _ rfl (L.bk_ 0 rfl) Tryz.underlying40 rfl op_sz
  exact ⟨_, rfl, hLk _ L.K, sa_same rfl rfl, L.K⟩
set_option maxHeartbeats 2000000 in
theorem rsw_end (hM : Much a p M) (hL : Lists lo w h (gl sn)) (hU : US w B m d ys) (hm : m = lv M + tv M + 1) (hk : s.kind = 1) (hat : s.at_ = (tt : Int)) (htt : tt < lv M) (hU3 : US w h.A3 h.n3 h.c3 sn) (hsn : tt < sn.length) (hph : s.phase = 7) (hne : gt ys tt = gt sn tt) (hlt : ¬ tt + 1 < lv M) :
    Calls Tryz.prog 44 #[.agg #[.int .u32 (a : Int), .int .i64 p, .slice A n c, .int .i64 (ns : Int), .int .i64 wo, .int .i64 qu, .int .i64 tr], .slice B m d, .agg (opv h s)] w (RetROB (swEn s) (gl []) true h w) := by
  have hm9 := hM.most
  have hl3 := lv_le hm9
  have hm6 : m ≤ 65536 := by have := tv_le hm9; omega
  have hZ2 := fun lo2 w2 => gl_none hL lo2 w2
  have hcm : tt < m := by omega
  obtain ⟨bb, oo, hBe, hbb, hcc⟩ := hU.get hcm
  subst hBe
  have hcm2 : (tt : Int) < (m : Int) := by omega
  have hx64 := gt_lt hU.fit tt
  have TLv := fun w => Lib.hid (rleaves_any M hm9 w)
  obtain ⟨LV, hLV⟩ : ∃ x, x = lv M := ⟨_, rfl⟩
  rw [← hLV] at TLv htt
  have f1 : IntKind.i64.wrap ((tt : Int) + 1) = (tt : Int) + 1 := IntWalk.i64_in _ (by omega)
  obtain ⟨x, hx⟩ : ∃ x, x = gt ys tt := ⟨_, rfl⟩
  obtain ⟨y, hy⟩ : ∃ y, y = gt sn tt := ⟨_, rfl⟩
  rw [← hx, ← hy] at hne
  rw [← hx] at hcc
  have htn : tt < h.n3 := by have := (gl_len hL).2.2.2; omega
  subst hne
  have e1 : ((x : Int) != (x : Int)) = false := by simp
  rw [← hLV] at hlt
  have f2 : decide ((tt : Int) + 1 < (LV : Int)) = false := by simp only [decide_eq_false_iff_not]; omega
  have f3 : ¬ ((tt : Int) + 1 < (LV : Int)) := by omega
  have TP := fun w s => Lib.hid (rph16_any (w := w) (h := h) (s := s) 0)
  simp only [swLe] at TP
  have hc3 : (tt : Int) < (h.n3 : Int) := by omega
  have hLk := fun w2 (K : Below w.heap.size w w2) => (hL.below K).lower_ (Nat.zero_le _)
  clear hx hsn hL hm hm6 hx64 hLV htt hl3 hm9 hlt
  rcases s with ⟨kind, addr, err, aad, used, phase, shard, sought, leaf, bit, word, full, at_, tries, item, stamp⟩
  rcases h with ⟨A0, n0, c0, A1, n1, c1, A2, n2, c2, A3, n3, c3⟩
  try dsimp only at *
  obtain ⟨be, oe, hBe, hbe, hce⟩ := hU3.get htn
  subst hBe
  rw [← hy] at hce
  clear hy htn
  subst hk hat hph
  go_enter Tryz.func44, Tryz.ntmps44
  go_upto_region 1 with (fail)
  have L := Loc.start w
  replace L := (((L).alloc #[.int .u32 (a : Int), .int .i64 p, .slice A n c, .int .i64 (ns : Int), .int .i64 wo, .int .i64 qu, .int .i64 tr] 27).alloc (opv ⟨A0, n0, c0, A1, n1, c1, A2, n2, c2, (some ⟨be, oe, none⟩), n3, c3⟩ ⟨1, addr, err, aad, used, 7, shard, sought, leaf, bit, word, full, (tt : Int), tries, item, stamp⟩) 40).alloc #[.int .i64 0, .int .u32 0, .slice none 0 0, .int .i64 0, .int .u32 0, .bool false, .slice none 0 0, .slice none 0 0, .int .i64 0, .int .i64 0, .int .i64 0, .int .i64 0, .int .i64 0, .int .u64 0, .bool false, .slice none 0 0, .int .i64 0, .int .i64 0, .int .i64 0, .int .i64 0] 40
  try simp only [World.size_alloc] at L
  replace L := L.is 0 (opv hd0 sc0) rfl
  try dsimp only [nput] at L
  generalize (((w).alloc (.cells #[.int .u32 (a : Int), .int .i64 p, .slice A n c, .int .i64 (ns : Int), .int .i64 wo, .int .i64 qu, .int .i64 tr] 27)).alloc (.cells (opv ⟨A0, n0, c0, A1, n1, c1, A2, n2, c2, (some ⟨be, oe, none⟩), n3, c3⟩ ⟨1, addr, err, aad, used, 7, shard, sought, leaf, bit, word, full, (tt : Int), tries, item, stamp⟩) 40)).alloc (.cells #[.int .i64 0, .int .u32 0, .slice none 0 0, .int .i64 0, .int .u32 0, .bool false, .slice none 0 0, .slice none 0 0, .int .i64 0, .int .i64 0, .int .i64 0, .int .i64 0, .int .i64 0, .int .u64 0, .bool false, .slice none 0 0, .int .i64 0, .int .i64 0, .int .i64 0, .int .i64 0] 40) = w1 at L ⊢
  generalize w.heap.size + 1 + 1 = gR at L ⊢
  generalize w.heap.size + 1 = gO at L ⊢
  generalize w.heap.size = gH at L ⊢
  have H_0 := L.at_ 2 0 rfl (v := .int .u32 (a : Int)) rfl
  have H_1 := L.at_ 2 1 rfl (v := .int .i64 p) rfl
  have H_z := L.lt 2 rfl
  go_wp2_with fail
  refine (rmany_yes hM).mono ?_
  rintro e w2 ⟨rfl, K'⟩
  clear H_0 H_1 H_z
  replace L := L.over K'
  go_wp2_with fail
  refine ((TLv _).out).mono ?_
  rintro e w' ⟨rfl, rfl⟩
  have O_16 := L.at_ 1 16 rfl (v := .int .i64 (tt : Int)) rfl
  have O_8 := L.at_ 1 8 rfl (v := .int .i64 7) rfl
  have O_15 := L.at_ 1 15 rfl (v := .slice (some ⟨be, oe, none⟩) n3 c3) rfl
  have O_z := L.lt 1 rfl
  have O_f16 := L.fz 1 16 rfl
  have X := (L.K.cell (p := ⟨bb, oo + tt, none⟩) hbb).trans hcc
  have X2 := (L.K.cell (p := ⟨be, oe + tt, none⟩) hbe).trans hce
  go_upto_region 26 with fail
  clear O_16 O_8 O_15 O_z O_f16 X X2
  replace L := ((L.set 1 16 rfl (.int .i64 (((tt : Int) + 1)))).is 1 (opv ⟨A0, n0, c0, A1, n1, c1, A2, n2, c2, (some ⟨be, oe, none⟩), n3, c3⟩ ⟨1, addr, err, aad, used, 7, shard, sought, leaf, bit, word, full, ((tt : Int) + 1), tries, item, stamp⟩) rfl)
  try dsimp only [nput] at L
  generalize (w2).setCell ⟨gO, 16, none⟩ (.int .i64 (((tt : Int) + 1))) = w3 at L ⊢
  have O_16 := L.at_ 1 16 rfl (v := .int .i64 (((tt : Int) + 1))) rfl
  have O_0 := L.at_ 1 0 rfl (v := .int .i64 1) rfl
  have O_3 := L.at_ 1 3 rfl (v := .int .i64 err) rfl
  have O_z := L.lt 1 rfl
  have O_f3 := L.fz 1 3 rfl
  go_upto_region 31 with fail
  clear O_16 O_0 O_3 O_z O_f3
  replace L := ((L.set 1 3 rfl (.int .i64 9)).is 1 (opv ⟨A0, n0, c0, A1, n1, c1, A2, n2, c2, (some ⟨be, oe, none⟩), n3, c3⟩ ⟨1, addr, 9, aad, used, 7, shard, sought, leaf, bit, word, full, ((tt : Int) + 1), tries, item, stamp⟩) rfl)
  try dsimp only [nput] at L
  generalize (w3).setCell ⟨gO, 3, none⟩ (.int .i64 9) = w4 at L ⊢
  go_wp2_with (refine wpList_load_row rfl 40 (.tmp 5) rfl gO rfl _ _ (0, 0) _ (L.bk_ 1 rfl) Tryz.underlying40 rfl op_sz ?_)
  refine ((TP _ ⟨1, addr, 9, aad, used, 7, shard, sought, leaf, bit, word, full, ((tt : Int) + 1), tries, item, stamp⟩).out).mono ?_
  rintro e w5 ⟨rfl, K'⟩
  replace L := L.over K'
  go_wp2_with (refine wpList_store_row rfl 40 (.tmp 6) (.tmp 118) rfl gR _ rfl rfl _ _ (L.bk_ 0 rfl) op_sz rfl (opv_one _ _) ?_)
  replace L := (L.row 0 rfl (opv ⟨A0, n0, c0, A1, n1, c1, A2, n2, c2, none, 0, 0⟩ ⟨1, addr, 9, aad, used, 0, shard, sought, leaf, bit, word, full, 0, tries, item, stamp⟩))
  try dsimp only [nput] at L
  generalize (w5).setRow gR (opv ⟨A0, n0, c0, A1, n1, c1, A2, n2, c2, none, 0, 0⟩ ⟨1, addr, 9, aad, used, 0, shard, sought, leaf, bit, word, full, 0, tries, item, stamp⟩) = w6 at L ⊢
  refine bodyPost_ret (v := .tuple #[.agg (opv ⟨A0, n0, c0, A1, n1, c1, A2, n2, c2, none, 0, 0⟩ ⟨1, addr, 9, aad, used, 0, shard, sought, leaf, bit, word, full, 0, tries, item, stamp⟩), .bool true]) ?_ rfl ?_
  · exact results_ct (fn := Tryz.f44) Tryz.results44 _ _ gR _ _ (0, 0) _ rfl (L.bk_ 0 rfl) Tryz.underlying40 rfl op_sz
  exact ⟨_, rfl, hZ2 _ _, sa_zero rfl, L.K⟩
end
end Go.Proofs.YtghecdccdmeooaaGreat

/-
  What the document's Step of layer 17 answers of a grant where it may be; a grant that marks marks full. Conditions: a block that may be, as many cells as there are.
-/
namespace Go.Proofs.YtghecdccdmeooaaGreat
set_option maxRecDepth 100000
set_option maxRecDepth 100000
open Go.RowKit
set_option linter.unusedVariables false
section
variable {w w1 : World} {lo a m d M ns N hd k t tt lf cl b x : Nat} {p wo qu tr : Int} {A B : Option Addr} {n c : Nat} {zs : List Int} {sn ys : List Nat} {h : Hd} {s : Sc}
theorem mf_start {hd : Int} : Mf (gS0 hd) := fun h => by
  rcases h with h | h <;> exact absurd h (by show ¬ (1 : Int) = _; omega)
theorem mf_no {s' : Sc} (h : s'.phase ≠ 4 ∧ s'.phase ≠ 5) : Mf s' := fun hp => by omega
theorem mf_ende {s' : Sc} : Mf (ende s') := mf_no ⟨by show (0 : Int) ≠ 4; omega, by show (0 : Int) ≠ 5; omega⟩
theorem mf_step (hns : 1 ≤ ns) (hM : M ≤ 65536) (hG : GI M ns zs N s sn) (hY : YI M zs ys) (h : Mf s) : Mf (gS a M ns ys s sn) := by
  have hfs := fit_all hY
  obtain ⟨kd, er, sd, so, it, aa, wd, ph⟩ := hG
  cases ph with
  | done q1 => rw [show gS a M ns ys s [] = s by unfold gS; rw [if_neg (by omega), if_neg (by omega), if_neg (by omega), if_neg (by omega), if_neg (by omega), if_neg (by omega)]]; exact h
  | seek k t q1 q2 q3 q4 q5 =>
    have e : s.sought.toNat = k := by rw [q2, Int.toNat_natCast]
    rw [show gS a M ns ys s [] = skS (ns : Int) M ys (sa M ns s.shard.toNat k) (sb M ns s.shard.toNat k) s by unfold gS; rw [if_pos q1, e]]
    rcases seek_mv (M := M) (ys := ys) (hd := s.shard.toNat) hns q2 q3 q4 wd (hfs _) with ⟨u, x, _, _, _, e3⟩ | ⟨i, _, e3⟩ | ⟨_, e3⟩ | ⟨_, e3⟩
    · rw [e3]; exact mf_no ⟨by show s.phase ≠ 4; omega, by show s.phase ≠ 5; omega⟩
    · rw [e3]; exact mf_no ⟨by show (2 : Int) ≠ 4; omega, by show (2 : Int) ≠ 5; omega⟩
    · rw [e3]; exact mf_no ⟨by show (1 : Int) ≠ 4; omega, by show (1 : Int) ≠ 5; omega⟩
    · rw [e3]; exact mf_no ⟨by show (6 : Int) ≠ 4; omega, by show (6 : Int) ≠ 5; omega⟩
  | look i q1 q2 q3 =>
    rw [show gS a M ns ys s [] = lookS (ns : Int) (gt ys s.leaf.toNat) s by unfold gS; rw [if_neg (by omega), if_pos q1]]
    unfold lookS
    split
    · exact mf_no ⟨by show (3 : Int) ≠ 4; omega, by show (3 : Int) ≠ 5; omega⟩
    · split
      · exact mf_no ⟨by show (1 : Int) ≠ 4; omega, by show (1 : Int) ≠ 5; omega⟩
      · exact mf_no ⟨by show (6 : Int) ≠ 4; omega, by show (6 : Int) ≠ 5; omega⟩
  | claim i b q1 q2 q3 q4 q5 q6 q7 =>
    rw [show gS a M ns ys s [] = claimS a 0 [] (gt ys s.leaf.toNat) s by unfold gS; rw [if_neg (by omega), if_neg (by omega), if_pos q1]]
    unfold claimS
    split
    · split
      · exact fun _ => rfl
      · rw [gon_one (show (adS s _).kind = 1 from kd)]; exact mf_ende
    · exact mf_no (by
        have e : (againS s).phase = 2 := by unfold againS; exact if_pos kd
        omega)
  | mark i q1 q2 q3 q4 =>
    have hf := h q1
    rw [show gS a M ns ys s [] = stO a M 0 [] ys s by unfold gS; rw [if_neg (by omega), if_neg (by omega), if_neg (by omega), if_pos q1]]
    have hd : ∀ x, Mf (dn a 0 [] (worded s x)) := fun x => by
      rcases dn_mv (a := a) (n := 0) (xs := []) (s := worded s x) kd with e | ⟨_, e⟩
      · rw [e]; exact mf_ende
      · rw [e]; exact fun _ => hf
    unfold stO
    split
    · unfold lk
      split
      · exact hd _
      · exact fun _ => hf
    · exact hd _
  | first sn q1 q2 q3 q4 =>
    rw [show gS a M ns ys s sn = swF (lv M) (gt ys s.at_.toNat) s by unfold gS; rw [if_neg (by omega), if_neg (by omega), if_neg (by omega), if_neg (by omega), if_pos q1]]
    unfold swF
    split
    · exact mf_no ⟨by show (3 : Int) ≠ 4; omega, by show (3 : Int) ≠ 5; omega⟩
    · split
      · exact mf_no ⟨by show s.phase ≠ 4; omega, by show s.phase ≠ 5; omega⟩
      · exact mf_no ⟨by show (7 : Int) ≠ 4; omega, by show (7 : Int) ≠ 5; omega⟩
  | again sn t q1 q2 q3 q4 q5 =>
    rw [show gS a M ns ys s sn = swA (lv M) (gt ys s.at_.toNat) (gt sn s.at_.toNat) s by unfold gS; rw [if_neg (by omega), if_neg (by omega), if_neg (by omega), if_neg (by omega), if_neg (by omega), if_pos q1]]
    unfold swA
    split
    · split
      · exact mf_no ⟨by show s.phase ≠ 4; omega, by show s.phase ≠ 5; omega⟩
      · exact mf_no ⟨by show (0 : Int) ≠ 4; omega, by show (0 : Int) ≠ 5; omega⟩
    · exact mf_no ⟨by show (6 : Int) ≠ 4; omega, by show (6 : Int) ≠ 5; omega⟩
theorem gpr_seek (ha : a < 4294967296) (hM : Much a p M) (h1 : 1 ≤ ns) (h2 : ns ≤ 64) (hN : N ≤ 60000) (hG : GI M ns zs N s sn) (hY : YI M zs ys) (hU : US w B m d ys) (hL : Lists lo w h (gl sn)) (hph : s.phase = 1) :
    Calls Tryz.prog 41 #[.agg #[.int .u32 (a : Int), .int .i64 p, .slice A n c, .int .i64 (ns : Int), .int .i64 wo, .int .i64 qu, .int .i64 tr], .slice B m d, .agg (opv h s)] w (RetRO (gS a M ns ys s sn) (gl (gN M ys s sn)) h w) := by
  have hml := hU.len
  have hyl := hY.len
  obtain ⟨kd, er, sd, so, it, aa, wd, ph⟩ := hG
  have e1 : gS a M ns ys s sn = skS (ns : Int) M ys (sa M ns s.shard.toNat s.sought.toNat) (sb M ns s.shard.toNat s.sought.toNat) s := by unfold gS; rw [if_pos hph]
  have e2 : gN M ys s sn = sn := by unfold gN; rw [if_neg (by omega), if_neg (by omega)]
  rw [e1, e2]
  cases ph with
  | seek k t q1 q2 q3 q4 q5 =>
    have e : s.sought.toNat = k := by rw [q2, Int.toNat_natCast]
    rw [e]
    rcases Nat.eq_zero_or_pos t with h0 | h0
    · exact rs15_root (wo := wo) (qu := qu) (tr := tr) (A := A) (n := n) (c := c) hM h1 h2 (hd := s.shard.toNat) (by omega) (by omega) q2 q4 hU (by omega) hph wd hL (by omega)
    · exact rs15_top (wo := wo) (qu := qu) (tr := tr) (A := A) (n := n) (c := c) hM h1 h2 (hd := s.shard.toNat) (t := t - 1) (by omega) (by omega) q2 q4 hU (by omega) hph wd hL (by omega) (by omega)
  | _ => omega
theorem gpr_claim (ha : a < 4294967296) (hM : Much a p M) (h1 : 1 ≤ ns) (h2 : ns ≤ 64) (hN : N ≤ 60000) (hG : GI M ns zs N s sn) (hY : YI M zs ys) (hU : US w B m d ys) (hL : Lists lo w h (gl sn)) (hph : s.phase = 2 ∨ s.phase = 3) :
    Calls Tryz.prog 42 #[.agg #[.int .u32 (a : Int), .int .i64 p, .slice A n c, .int .i64 (ns : Int), .int .i64 wo, .int .i64 qu, .int .i64 tr], .slice B m d, .agg (opv h s)] w (RetRG (gS a M ns ys s sn) (gl (gN M ys s sn)) m (gC M ys s) (gB M ys s sn) h B w) := by
  have hml := hU.len
  have hyl := hY.len
  obtain ⟨kd, er, sd, so, it, aa, wd, ph⟩ := hG
  cases ph with
  | look i q1 q2 q3 =>
    have e : s.leaf.toNat = i := by rw [q2, Int.toNat_natCast]
    have e1 : gS a M ns ys s [] = lookS (ns : Int) (gt ys i) s := by unfold gS; rw [if_neg (by omega), if_pos q1, e]
    have e2 : gN M ys s [] = [] := by unfold gN; rw [if_neg (by omega), if_neg (by omega)]
    have e3 : gC M ys s = ys := by unfold gC; rw [if_neg (by omega), if_neg (by omega)]
    have e4 : gB M ys s [] = false := by unfold gB; rw [if_neg (by omega), if_neg (by omega)]
    rw [e1, e2, e3, e4]
    unfold lookS
    cases hb : fb (gt ys i) 32 with
    | true => rw [if_pos rfl]; exact rlk_found (wo := wo) (qu := qu) (tr := tr) (A := A) (n := n) (c := c) ha hM hL hU (by omega) kd q2 q3 q1 hb
    | false =>
      rw [if_neg Bool.false_ne_true]
      by_cases hlt : s.sought + 1 < (ns : Int)
      · rw [if_pos hlt]; exact rlk_seek (wo := wo) (qu := qu) (tr := tr) (A := A) (n := n) (c := c) ha hM hL hU (by omega) kd q2 q3 q1 hb (k := s.sought.toNat) (by omega) (by omega) (by omega)
      · rw [if_neg hlt]; exact rlk_first (wo := wo) (qu := qu) (tr := tr) (A := A) (n := n) (c := c) ha hM hL hU (by omega) kd q2 q3 q1 hb (k := s.sought.toNat) (by omega) (by omega) (by omega)
  | claim i b q1 q2 q3 q4 q5 q6 q7 =>
    have e : s.leaf.toNat = i := by rw [q2, Int.toNat_natCast]
    have eb : s.bit.toNat = b := by rw [q3, Int.toNat_natCast]
    have e1 : gS a M ns ys s [] = claimS a 0 [] (gt ys i) s := by unfold gS; rw [if_neg (by omega), if_neg (by omega), if_pos q1, e]
    have e2 : gN M ys s [] = [] := by unfold gN; rw [if_neg (by omega), if_neg (by omega)]
    have e3 : gC M ys s = claimC ys s := by unfold gC; rw [if_pos q1]
    have e4 : gB M ys s [] = decide (gt ys i = s.word) := by unfold gB; rw [if_pos q1, e]
    rw [e1, e2, e3, e4]
    have hf := nf_no q6
    unfold claimS claimC
    rw [e, eb]
    by_cases hne : gt ys i = s.word
    · rw [if_pos hne, if_pos hne, decide_eq_true hne]
      cases hfl : fl (clm s.word b) with
      | true => rw [if_pos rfl]; exact rcl_full (wo := wo) (qu := qu) (tr := tr) (A := A) (n := n) (c := c) ha hM hL hU (by omega) kd q2 q4 q1 it q3 q5 hf.1 wd hne hfl
      | false =>
        rw [if_neg Bool.false_ne_true, gon_one (show (adS s _).kind = 1 from kd)]
        exact rcl_go (wo := wo) (qu := qu) (tr := tr) (A := A) (n := n) (c := c) ha hM hL hU (by omega) kd q2 q4 q1 it q3 q5 hf.1 wd hne hfl
    · rw [if_neg hne, if_neg hne, decide_eq_false hne]; exact rcl_not (wo := wo) (qu := qu) (tr := tr) (A := A) (n := n) (c := c) ha hM hL hU (by omega) kd q2 q4 q1 hne
  | _ => omega
theorem gpr_mark (ha : a < 4294967296) (hM : Much a p M) (h1 : 1 ≤ ns) (h2 : ns ≤ 64) (hN : N ≤ 60000) (hG : GI M ns zs N s sn) (hY : YI M zs ys) (hU : US w B m d ys) (hL : Lists lo w h (gl sn)) (hMf : Mf s) (hph : s.phase = 4 ∨ s.phase = 5) :
    Calls Tryz.prog 43 #[.agg #[.int .u32 (a : Int), .int .i64 p, .slice A n c, .int .i64 (ns : Int), .int .i64 wo, .int .i64 qu, .int .i64 tr], .slice B m d, .agg (opv h s)] w (RetRM (gS a M ns ys s sn) h m (gC M ys s) B w) := by
  have hml := hU.len
  have hyl := hY.len
  obtain ⟨kd, er, sd, so, it, aa, wd, ph⟩ := hG
  have e1 : gS a M ns ys s sn = stO a M 0 [] ys s := by unfold gS; rw [if_neg (by omega), if_neg (by omega), if_neg (by omega), if_pos hph]
  have e3 : gC M ys s = stC M ys s := by unfold gC; rw [if_neg (by omega), if_pos hph]
  rw [e1, e3]
  cases ph with
  | mark i q1 q2 q3 q4 => exact rmk_any (wo := wo) (qu := qu) (tr := tr) (A := A) (n := n) (c := c) ha hM hL hU (by omega) kd it q2 q3 wd (hMf hph) q4 hph
  | _ => omega
theorem gpr_sweep (ha : a < 4294967296) (hM : Much a p M) (h1 : 1 ≤ ns) (h2 : ns ≤ 64) (hN : N ≤ 60000) (hG : GI M ns zs N s sn) (hY : YI M zs ys) (hU : US w B m d ys) (hL : Lists lo w h (gl sn)) (hph : s.phase = 6 ∨ s.phase = 7) :
    Calls Tryz.prog 44 #[.agg #[.int .u32 (a : Int), .int .i64 p, .slice A n c, .int .i64 (ns : Int), .int .i64 wo, .int .i64 qu, .int .i64 tr], .slice B m d, .agg (opv h s)] w (RetROB (gS a M ns ys s sn) (gl (gN M ys s sn)) (gB M ys s sn) h w) := by
  have hml := hU.len
  have hyl := hY.len
  obtain ⟨kd, er, sd, so, it, aa, wd, ph⟩ := hG
  have hU3 : (∀ x ∈ sn, x < U64) → US w h.A3 h.n3 h.c3 sn := fun hf => by
    have R := IS.toUS hL.i3 (fun z hz => by
      obtain ⟨v, hv, rfl⟩ := List.mem_map.1 hz
      exact wf_ofU64 (hf v hv))
    have e : ((gl sn).ses.map Int.toNat) = sn := by unfold gl; rw [List.map_map]; exact (List.map_congr_left (fun x _ => Int.toNat_natCast x)).trans (List.map_id sn)
    rwa [e] at R
  cases ph with
  | first sn q1 q2 q3 q4 =>
    have e : s.at_.toNat = sn.length := by rw [q2, Int.toNat_natCast]
    have e1 : gS a M ns ys s sn = swF (lv M) (gt ys sn.length) s := by unfold gS; rw [if_neg (by omega), if_neg (by omega), if_neg (by omega), if_neg (by omega), if_pos q1, e]
    have e4 : gB M ys s sn = false := by unfold gB; rw [if_neg (by omega), if_neg (by omega)]
    have e2 : gN M ys s sn = if fb (gt ys sn.length) 32 = true then [] else sn ++ [gt ys sn.length] := by unfold gN; rw [if_pos q1, e]
    rw [e1, e2, e4]
    unfold swF
    cases hb : fb (gt ys sn.length) 32 with
    | true => rw [if_pos rfl, if_pos rfl]; exact rsw_found (wo := wo) (qu := qu) (tr := tr) (A := A) (n := n) (c := c) hM hL hU (by omega) kd q2 q3 q1 hb
    | false =>
      rw [if_neg Bool.false_ne_true, if_neg Bool.false_ne_true]
      by_cases hlt : sn.length + 1 < lv M
      · rw [if_pos (by omega)]; exact rsw_mv (wo := wo) (qu := qu) (tr := tr) (A := A) (n := n) (c := c) hM hL hU (by omega) kd q2 q3 (hU3 (fun x hx => (q4 x hx).1)) rfl q1 hb hlt
      · rw [if_neg (by omega)]; exact rsw_ag (wo := wo) (qu := qu) (tr := tr) (A := A) (n := n) (c := c) hM hL hU (by omega) kd q2 q3 (hU3 (fun x hx => (q4 x hx).1)) rfl q1 hb hlt
  | again sn t q1 q2 q3 q4 q5 =>
    have e : s.at_.toNat = t := by rw [q2, Int.toNat_natCast]
    have e1 : gS a M ns ys s sn = swA (lv M) (gt ys t) (gt sn t) s := by unfold gS; rw [if_neg (by omega), if_neg (by omega), if_neg (by omega), if_neg (by omega), if_neg (by omega), if_pos q1, e]
    have e4 : gB M ys s sn = swAB (lv M) (gt ys t) (gt sn t) s := by unfold gB; rw [if_neg (by omega), if_pos q1, e]
    have e2 : gN M ys s sn = if gt ys t = gt sn t then (if s.at_ + 1 < (lv M : Int) then sn else []) else [] := by unfold gN; rw [if_neg (by omega), if_pos q1, e]
    rw [e1, e2, e4]
    unfold swA swAB
    have hf3 := hU3 (fun x hx => (q5 x hx).1)
    by_cases hne : gt ys t = gt sn t
    · rw [if_pos hne, if_pos hne, decide_eq_true hne]
      by_cases hlt : t + 1 < lv M
      · rw [if_pos (by omega), if_pos (by omega), decide_eq_false (by omega)]; exact rsw_on (wo := wo) (qu := qu) (tr := tr) (A := A) (n := n) (c := c) hM hL hU (by omega) kd q2 q3 hf3 (by omega) q1 hne hlt
      · rw [if_neg (by omega), if_neg (by omega), decide_eq_true (by omega)]; exact rsw_end (wo := wo) (qu := qu) (tr := tr) (A := A) (n := n) (c := c) hM hL hU (by omega) kd q2 q3 hf3 (by omega) q1 hne hlt
    · rw [if_neg hne, if_neg hne, decide_eq_false hne]; exact rsw_not (wo := wo) (qu := qu) (tr := tr) (A := A) (n := n) (c := c) hM hL hU (by omega) kd q2 q3 hf3 (by omega) q1 hne
  | _ => omega
set_option maxHeartbeats 2000000 in
theorem grs1 (ha : a < 4294967296) (hM : Much a p M) (h1 : 1 ≤ ns) (h2 : ns ≤ 64) (hN : N ≤ 60000) (hG : GI M ns zs N s sn) (hY : YI M zs ys) (hU : US w B m d ys) (hL : Lists lo w h (gl sn)) (hMf : Mf s) (hph : s.phase = 1) :
    Calls Tryz.prog 14 #[.agg #[.int .u32 (a : Int), .int .i64 p, .slice A n c, .int .i64 (ns : Int), .int .i64 wo, .int .i64 qu, .int .i64 tr], .slice B m d, .agg (opv h s)] w (RetRG (gS a M ns ys s sn) (gl (gN M ys s sn)) m (gC M ys s) (gB M ys s sn) h B w) := by
  have hm0 : 0 < m := by have := hU.len; have := hY.len; omega
  obtain ⟨s2, hs2⟩ : ∃ s2, s2 = gS a M ns ys s sn := ⟨_, rfl⟩
  obtain ⟨sn2, hn2⟩ : ∃ sn2, sn2 = gN M ys s sn := ⟨_, rfl⟩
  obtain ⟨y2, hy2⟩ : ∃ y2, y2 = gC M ys s := ⟨_, rfl⟩
  obtain ⟨b2, hb2⟩ : ∃ b2, b2 = gB M ys s sn := ⟨_, rfl⟩
  have TK := fun w lo h (U : US w B m d ys) (L : Lists lo w h (gl sn)) => Lib.hid (gpr_seek (w := w) (lo := lo) (h := h) (s := s) (wo := wo) (qu := qu) (tr := tr) (A := A) (n := n) (c := c) ha hM h1 h2 hN hG hY U L hph)
  simp only [← hs2, ← hn2, ← hy2, ← hb2] at TK ⊢
  rw [show y2 = ys from hy2.trans (gp_quiet (.inl hph)), show b2 = false from hb2.trans (gp_calm (.inl hph))]
  clear hG hY hs2 hn2 hy2 hb2 ha hM
  rcases s with ⟨kind, addr, err, aad, used, phase, shard, sought, leaf, bit, word, full, at_, tries, item, stamp⟩
  rcases h with ⟨A0, n0, c0, A1, n1, c1, A2, n2, c2, A3, n3, c3⟩
  try dsimp only at *
  subst hph
  go_enter Tryz.func14, Tryz.ntmps14
  go_upto_region 1 with (fail)
  have L := Loc.start w
  replace L := (((L).alloc #[.int .u32 (a : Int), .int .i64 p, .slice A n c, .int .i64 (ns : Int), .int .i64 wo, .int .i64 qu, .int .i64 tr] 27).alloc (opv ⟨A0, n0, c0, A1, n1, c1, A2, n2, c2, A3, n3, c3⟩ ⟨kind, addr, err, aad, used, 1, shard, sought, leaf, bit, word, full, at_, tries, item, stamp⟩) 40).alloc #[.int .i64 0, .int .u32 0, .slice none 0 0, .int .i64 0, .int .u32 0, .bool false, .slice none 0 0, .slice none 0 0, .int .i64 0, .int .i64 0, .int .i64 0, .int .i64 0, .int .i64 0, .int .u64 0, .bool false, .slice none 0 0, .int .i64 0, .int .i64 0, .int .i64 0, .int .i64 0] 40
  try simp only [World.size_alloc] at L
  replace L := L.is 0 (opv hd0 sc0) rfl
  try dsimp only [nput] at L
  generalize (((w).alloc (.cells #[.int .u32 (a : Int), .int .i64 p, .slice A n c, .int .i64 (ns : Int), .int .i64 wo, .int .i64 qu, .int .i64 tr] 27)).alloc (.cells (opv ⟨A0, n0, c0, A1, n1, c1, A2, n2, c2, A3, n3, c3⟩ ⟨kind, addr, err, aad, used, 1, shard, sought, leaf, bit, word, full, at_, tries, item, stamp⟩) 40)).alloc (.cells #[.int .i64 0, .int .u32 0, .slice none 0 0, .int .i64 0, .int .u32 0, .bool false, .slice none 0 0, .slice none 0 0, .int .i64 0, .int .i64 0, .int .i64 0, .int .i64 0, .int .i64 0, .int .u64 0, .bool false, .slice none 0 0, .int .i64 0, .int .i64 0, .int .i64 0, .int .i64 0] 40) = w1 at L ⊢
  generalize w.heap.size + 1 + 1 = gR at L ⊢
  generalize w.heap.size + 1 = gO at L ⊢
  generalize w.heap.size = gH at L ⊢
  have O_8 := L.at_ 1 8 rfl (v := .int .i64 1) rfl
  have O_z := L.lt 1 rfl
  go_wp2_with (first | (refine wpList_load_row rfl 27 (.tmp 3) rfl gH rfl _ _ (0, 0) _ (L.bk_ 2 rfl) Tryz.underlying27 rfl cf_sz ?_) | (refine wpList_load_row rfl 40 (.tmp 5) rfl gO rfl _ _ (0, 0) _ (L.bk_ 1 rfl) Tryz.underlying40 rfl op_sz ?_))
  have KS := L.K.size
  refine ((TK _ _ _ (hU.below L.K) (hL.below L.K)).out).mono ?_
  rintro e w2 ⟨h3, rfl, L', hSA, K'⟩
  clear O_8 O_z
  have Lb := L.lts
  replace L := L.over K'
  replace L := L.gf_ap L' (fun i b e => fun hn b1 o1 e1 => hSA b.1 (Lb i b e) (fun hn0 => apart3 hL hn0 L i b e) hn b1 o1 e1)
  clear Lb
  try dsimp only [lF, List.cons_append, List.nil_append] at L
  clear L'
  go_wp2_with (refine wpList_store_row rfl 40 (.tmp 7) (.tmp 21) rfl gR _ rfl rfl _ _ (L.bk_ 0 rfl) op_sz rfl (opv_one _ _) ?_)
  replace L := (L.row 0 rfl (opv h3 s2))
  try dsimp only [nput] at L
  generalize (w2).setRow gR (opv h3 s2) = w3 at L ⊢
  refine bodyPost_ret (v := .tuple #[.slice B m d, .agg (opv h3 s2), .bool false]) ?_ rfl ?_
  · exact results_tct (fn := Tryz.f14) Tryz.results14 _ _ gR _ _ (0, 0) _ rfl (L.bk_ 0 rfl) Tryz.underlying40 rfl op_sz
  exact ⟨_, _, _, rfl, hU.below L.K, L.gf_ 0 rfl, fun k _ h => h, fun k hk => hSA k (Nat.lt_of_lt_of_le hk KS), L.K⟩
set_option maxHeartbeats 2000000 in
theorem grs2 (ha : a < 4294967296) (hM : Much a p M) (h1 : 1 ≤ ns) (h2 : ns ≤ 64) (hN : N ≤ 60000) (hG : GI M ns zs N s sn) (hY : YI M zs ys) (hU : US w B m d ys) (hL : Lists lo w h (gl sn)) (hMf : Mf s) (hph : s.phase = 2) :
    Calls Tryz.prog 14 #[.agg #[.int .u32 (a : Int), .int .i64 p, .slice A n c, .int .i64 (ns : Int), .int .i64 wo, .int .i64 qu, .int .i64 tr], .slice B m d, .agg (opv h s)] w (RetRG (gS a M ns ys s sn) (gl (gN M ys s sn)) m (gC M ys s) (gB M ys s sn) h B w) := by
  have hm0 : 0 < m := by have := hU.len; have := hY.len; omega
  obtain ⟨s2, hs2⟩ : ∃ s2, s2 = gS a M ns ys s sn := ⟨_, rfl⟩
  obtain ⟨sn2, hn2⟩ : ∃ sn2, sn2 = gN M ys s sn := ⟨_, rfl⟩
  obtain ⟨y2, hy2⟩ : ∃ y2, y2 = gC M ys s := ⟨_, rfl⟩
  obtain ⟨b2, hb2⟩ : ∃ b2, b2 = gB M ys s sn := ⟨_, rfl⟩
  have TK := fun w lo h (U : US w B m d ys) (L : Lists lo w h (gl sn)) => Lib.hid (gpr_claim (w := w) (lo := lo) (h := h) (s := s) (wo := wo) (qu := qu) (tr := tr) (A := A) (n := n) (c := c) ha hM h1 h2 hN hG hY U L (.inl hph))
  simp only [← hs2, ← hn2, ← hy2, ← hb2] at TK ⊢
  clear hG hY hs2 hn2 hy2 hb2 ha hM
  rcases s with ⟨kind, addr, err, aad, used, phase, shard, sought, leaf, bit, word, full, at_, tries, item, stamp⟩
  rcases h with ⟨A0, n0, c0, A1, n1, c1, A2, n2, c2, A3, n3, c3⟩
  try dsimp only at *
  subst hph
  go_enter Tryz.func14, Tryz.ntmps14
  go_upto_region 1 with (fail)
  have L := Loc.start w
  replace L := (((L).alloc #[.int .u32 (a : Int), .int .i64 p, .slice A n c, .int .i64 (ns : Int), .int .i64 wo, .int .i64 qu, .int .i64 tr] 27).alloc (opv ⟨A0, n0, c0, A1, n1, c1, A2, n2, c2, A3, n3, c3⟩ ⟨kind, addr, err, aad, used, 2, shard, sought, leaf, bit, word, full, at_, tries, item, stamp⟩) 40).alloc #[.int .i64 0, .int .u32 0, .slice none 0 0, .int .i64 0, .int .u32 0, .bool false, .slice none 0 0, .slice none 0 0, .int .i64 0, .int .i64 0, .int .i64 0, .int .i64 0, .int .i64 0, .int .u64 0, .bool false, .slice none 0 0, .int .i64 0, .int .i64 0, .int .i64 0, .int .i64 0] 40
  try simp only [World.size_alloc] at L
  replace L := L.is 0 (opv hd0 sc0) rfl
  try dsimp only [nput] at L
  generalize (((w).alloc (.cells #[.int .u32 (a : Int), .int .i64 p, .slice A n c, .int .i64 (ns : Int), .int .i64 wo, .int .i64 qu, .int .i64 tr] 27)).alloc (.cells (opv ⟨A0, n0, c0, A1, n1, c1, A2, n2, c2, A3, n3, c3⟩ ⟨kind, addr, err, aad, used, 2, shard, sought, leaf, bit, word, full, at_, tries, item, stamp⟩) 40)).alloc (.cells #[.int .i64 0, .int .u32 0, .slice none 0 0, .int .i64 0, .int .u32 0, .bool false, .slice none 0 0, .slice none 0 0, .int .i64 0, .int .i64 0, .int .i64 0, .int .i64 0, .int .i64 0, .int .u64 0, .bool false, .slice none 0 0, .int .i64 0, .int .i64 0, .int .i64 0, .int .i64 0] 40) = w1 at L ⊢
  generalize w.heap.size + 1 + 1 = gR at L ⊢
  generalize w.heap.size + 1 = gO at L ⊢
  generalize w.heap.size = gH at L ⊢
  have O_8 := L.at_ 1 8 rfl (v := .int .i64 2) rfl
  have O_z := L.lt 1 rfl
  go_wp2_with (first | (refine wpList_load_row rfl 27 (.tmp 3) rfl gH rfl _ _ (0, 0) _ (L.bk_ 2 rfl) Tryz.underlying27 rfl cf_sz ?_) | (refine wpList_load_row rfl 40 (.tmp 5) rfl gO rfl _ _ (0, 0) _ (L.bk_ 1 rfl) Tryz.underlying40 rfl op_sz ?_))
  have KS := L.K.size
  refine ((TK _ _ _ (hU.below L.K) (hL.below L.K)).out).mono ?_
  rintro e w2 ⟨h3, B2, d2, rfl, U, L', hA, hSA, K'⟩
  clear O_8 O_z
  have Lb := L.lts
  replace L := L.over K'
  replace L := L.us_av (fun i b e => hA b.1 (Lb i b e) (hU.apart0 hm0 L i b e)) U
  replace L := L.gf_ap L' (fun i b e => fun hn b1 o1 e1 => hSA b.1 (Lb i b e) (fun hn0 => apart3 hL hn0 L i b e) hn b1 o1 e1)
  clear Lb
  try dsimp only [lF, List.cons_append, List.nil_append] at L
  clear U
  clear L'
  go_wp2_with (refine wpList_store_row rfl 40 (.tmp 7) (.tmp 30) rfl gR _ rfl rfl _ _ (L.bk_ 0 rfl) op_sz rfl (opv_one _ _) ?_)
  replace L := (L.row 0 rfl (opv h3 s2))
  try dsimp only [nput] at L
  generalize (w2).setRow gR (opv h3 s2) = w3 at L ⊢
  refine bodyPost_ret (v := .tuple #[.slice B2 m d2, .agg (opv h3 s2), .bool b2]) ?_ rfl ?_
  · exact results_tct (fn := Tryz.f14) Tryz.results14 _ _ gR _ _ (0, 0) _ rfl (L.bk_ 0 rfl) Tryz.underlying40 rfl op_sz
  exact ⟨_, _, _, rfl, L.us_ 1 rfl, L.gf_ 0 rfl, fun k hk => hA k (Nat.lt_of_lt_of_le hk KS), fun k hk => hSA k (Nat.lt_of_lt_of_le hk KS), L.K⟩
set_option maxHeartbeats 2000000 in
theorem grs3 (ha : a < 4294967296) (hM : Much a p M) (h1 : 1 ≤ ns) (h2 : ns ≤ 64) (hN : N ≤ 60000) (hG : GI M ns zs N s sn) (hY : YI M zs ys) (hU : US w B m d ys) (hL : Lists lo w h (gl sn)) (hMf : Mf s) (hph : s.phase = 3) :
    Calls Tryz.prog 14 #[.agg #[.int .u32 (a : Int), .int .i64 p, .slice A n c, .int .i64 (ns : Int), .int .i64 wo, .int .i64 qu, .int .i64 tr], .slice B m d, .agg (opv h s)] w (RetRG (gS a M ns ys s sn) (gl (gN M ys s sn)) m (gC M ys s) (gB M ys s sn) h B w) := by
  have hm0 : 0 < m := by have := hU.len; have := hY.len; omega
  obtain ⟨s2, hs2⟩ : ∃ s2, s2 = gS a M ns ys s sn := ⟨_, rfl⟩
  obtain ⟨sn2, hn2⟩ : ∃ sn2, sn2 = gN M ys s sn := ⟨_, rfl⟩
  obtain ⟨y2, hy2⟩ : ∃ y2, y2 = gC M ys s := ⟨_, rfl⟩
  obtain ⟨b2, hb2⟩ : ∃ b2, b2 = gB M ys s sn := ⟨_, rfl⟩
  have TK := fun w lo h (U : US w B m d ys) (L : Lists lo w h (gl sn)) => Lib.hid (gpr_claim (w := w) (lo := lo) (h := h) (s := s) (wo := wo) (qu := qu) (tr := tr) (A := A) (n := n) (c := c) ha hM h1 h2 hN hG hY U L (.inr hph))
  simp only [← hs2, ← hn2, ← hy2, ← hb2] at TK ⊢
  clear hG hY hs2 hn2 hy2 hb2 ha hM
  rcases s with ⟨kind, addr, err, aad, used, phase, shard, sought, leaf, bit, word, full, at_, tries, item, stamp⟩
  rcases h with ⟨A0, n0, c0, A1, n1, c1, A2, n2, c2, A3, n3, c3⟩
  try dsimp only at *
  subst hph
  go_enter Tryz.func14, Tryz.ntmps14
  go_upto_region 1 with (fail)
  have L := Loc.start w
  replace L := (((L).alloc #[.int .u32 (a : Int), .int .i64 p, .slice A n c, .int .i64 (ns : Int), .int .i64 wo, .int .i64 qu, .int .i64 tr] 27).alloc (opv ⟨A0, n0, c0, A1, n1, c1, A2, n2, c2, A3, n3, c3⟩ ⟨kind, addr, err, aad, used, 3, shard, sought, leaf, bit, word, full, at_, tries, item, stamp⟩) 40).alloc #[.int .i64 0, .int .u32 0, .slice none 0 0, .int .i64 0, .int .u32 0, .bool false, .slice none 0 0, .slice none 0 0, .int .i64 0, .int .i64 0, .int .i64 0, .int .i64 0, .int .i64 0, .int .u64 0, .bool false, .slice none 0 0, .int .i64 0, .int .i64 0, .int .i64 0, .int .i64 0] 40
  try simp only [World.size_alloc] at L
  replace L := L.is 0 (opv hd0 sc0) rfl
  try dsimp only [nput] at L
  generalize (((w).alloc (.cells #[.int .u32 (a : Int), .int .i64 p, .slice A n c, .int .i64 (ns : Int), .int .i64 wo, .int .i64 qu, .int .i64 tr] 27)).alloc (.cells (opv ⟨A0, n0, c0, A1, n1, c1, A2, n2, c2, A3, n3, c3⟩ ⟨kind, addr, err, aad, used, 3, shard, sought, leaf, bit, word, full, at_, tries, item, stamp⟩) 40)).alloc (.cells #[.int .i64 0, .int .u32 0, .slice none 0 0, .int .i64 0, .int .u32 0, .bool false, .slice none 0 0, .slice none 0 0, .int .i64 0, .int .i64 0, .int .i64 0, .int .i64 0, .int .i64 0, .int .u64 0, .bool false, .slice none 0 0, .int .i64 0, .int .i64 0, .int .i64 0, .int .i64 0] 40) = w1 at L ⊢
  generalize w.heap.size + 1 + 1 = gR at L ⊢
  generalize w.heap.size + 1 = gO at L ⊢
  generalize w.heap.size = gH at L ⊢
  have O_8 := L.at_ 1 8 rfl (v := .int .i64 3) rfl
  have O_z := L.lt 1 rfl
  go_wp2_with (first | (refine wpList_load_row rfl 27 (.tmp 3) rfl gH rfl _ _ (0, 0) _ (L.bk_ 2 rfl) Tryz.underlying27 rfl cf_sz ?_) | (refine wpList_load_row rfl 40 (.tmp 5) rfl gO rfl _ _ (0, 0) _ (L.bk_ 1 rfl) Tryz.underlying40 rfl op_sz ?_))
  have KS := L.K.size
  refine ((TK _ _ _ (hU.below L.K) (hL.below L.K)).out).mono ?_
  rintro e w2 ⟨h3, B2, d2, rfl, U, L', hA, hSA, K'⟩
  clear O_8 O_z
  have Lb := L.lts
  replace L := L.over K'
  replace L := L.us_av (fun i b e => hA b.1 (Lb i b e) (hU.apart0 hm0 L i b e)) U
  replace L := L.gf_ap L' (fun i b e => fun hn b1 o1 e1 => hSA b.1 (Lb i b e) (fun hn0 => apart3 hL hn0 L i b e) hn b1 o1 e1)
  clear Lb
  try dsimp only [lF, List.cons_append, List.nil_append] at L
  clear U
  clear L'
  go_wp2_with (refine wpList_store_row rfl 40 (.tmp 7) (.tmp 30) rfl gR _ rfl rfl _ _ (L.bk_ 0 rfl) op_sz rfl (opv_one _ _) ?_)
  replace L := (L.row 0 rfl (opv h3 s2))
  try dsimp only [nput] at L
  generalize (w2).setRow gR (opv h3 s2) = w3 at L ⊢
  refine bodyPost_ret (v := .tuple #[.slice B2 m d2, .agg (opv h3 s2), .bool b2]) ?_ rfl ?_
  · exact results_tct (fn := Tryz.f14) Tryz.results14 _ _ gR _ _ (0, 0) _ rfl (L.bk_ 0 rfl) Tryz.underlying40 rfl op_sz
  exact ⟨_, _, _, rfl, L.us_ 1 rfl, L.gf_ 0 rfl, fun k hk => hA k (Nat.lt_of_lt_of_le hk KS), fun k hk => hSA k (Nat.lt_of_lt_of_le hk KS), L.K⟩
set_option maxHeartbeats 2000000 in
theorem grs4 (ha : a < 4294967296) (hM : Much a p M) (h1 : 1 ≤ ns) (h2 : ns ≤ 64) (hN : N ≤ 60000) (hG : GI M ns zs N s sn) (hY : YI M zs ys) (hU : US w B m d ys) (hL : Lists lo w h (gl sn)) (hMf : Mf s) (hph : s.phase = 4) :
    Calls Tryz.prog 14 #[.agg #[.int .u32 (a : Int), .int .i64 p, .slice A n c, .int .i64 (ns : Int), .int .i64 wo, .int .i64 qu, .int .i64 tr], .slice B m d, .agg (opv h s)] w (RetRG (gS a M ns ys s sn) (gl (gN M ys s sn)) m (gC M ys s) (gB M ys s sn) h B w) := by
  have hm0 : 0 < m := by have := hU.len; have := hY.len; omega
  obtain ⟨s2, hs2⟩ : ∃ s2, s2 = gS a M ns ys s sn := ⟨_, rfl⟩
  obtain ⟨sn2, hn2⟩ : ∃ sn2, sn2 = gN M ys s sn := ⟨_, rfl⟩
  obtain ⟨y2, hy2⟩ : ∃ y2, y2 = gC M ys s := ⟨_, rfl⟩
  obtain ⟨b2, hb2⟩ : ∃ b2, b2 = gB M ys s sn := ⟨_, rfl⟩
  have TK := fun w lo h (U : US w B m d ys) (L : Lists lo w h (gl sn)) => Lib.hid (gpr_mark (w := w) (lo := lo) (h := h) (s := s) (wo := wo) (qu := qu) (tr := tr) (A := A) (n := n) (c := c) ha hM h1 h2 hN hG hY U L hMf (.inl hph))
  simp only [← hs2, ← hn2, ← hy2, ← hb2] at TK ⊢
  rw [show b2 = false from hb2.trans (gp_calm (.inr (.inl hph)))]
  have hE : ∀ lo2 w2, Lists lo2 w2 h (gl sn2) := fun lo2 w2 => by rw [hn2, show gN M ys s sn = sn by unfold gN; rw [if_neg (by omega), if_neg (by omega)]]; exact gp_emp hG (by omega) hL
  clear hG hY hs2 hn2 hy2 hb2 ha hM
  rcases s with ⟨kind, addr, err, aad, used, phase, shard, sought, leaf, bit, word, full, at_, tries, item, stamp⟩
  rcases h with ⟨A0, n0, c0, A1, n1, c1, A2, n2, c2, A3, n3, c3⟩
  try dsimp only at *
  subst hph
  go_enter Tryz.func14, Tryz.ntmps14
  go_upto_region 1 with (fail)
  have L := Loc.start w
  replace L := (((L).alloc #[.int .u32 (a : Int), .int .i64 p, .slice A n c, .int .i64 (ns : Int), .int .i64 wo, .int .i64 qu, .int .i64 tr] 27).alloc (opv ⟨A0, n0, c0, A1, n1, c1, A2, n2, c2, A3, n3, c3⟩ ⟨kind, addr, err, aad, used, 4, shard, sought, leaf, bit, word, full, at_, tries, item, stamp⟩) 40).alloc #[.int .i64 0, .int .u32 0, .slice none 0 0, .int .i64 0, .int .u32 0, .bool false, .slice none 0 0, .slice none 0 0, .int .i64 0, .int .i64 0, .int .i64 0, .int .i64 0, .int .i64 0, .int .u64 0, .bool false, .slice none 0 0, .int .i64 0, .int .i64 0, .int .i64 0, .int .i64 0] 40
  try simp only [World.size_alloc] at L
  replace L := L.is 0 (opv hd0 sc0) rfl
  try dsimp only [nput] at L
  generalize (((w).alloc (.cells #[.int .u32 (a : Int), .int .i64 p, .slice A n c, .int .i64 (ns : Int), .int .i64 wo, .int .i64 qu, .int .i64 tr] 27)).alloc (.cells (opv ⟨A0, n0, c0, A1, n1, c1, A2, n2, c2, A3, n3, c3⟩ ⟨kind, addr, err, aad, used, 4, shard, sought, leaf, bit, word, full, at_, tries, item, stamp⟩) 40)).alloc (.cells #[.int .i64 0, .int .u32 0, .slice none 0 0, .int .i64 0, .int .u32 0, .bool false, .slice none 0 0, .slice none 0 0, .int .i64 0, .int .i64 0, .int .i64 0, .int .i64 0, .int .i64 0, .int .u64 0, .bool false, .slice none 0 0, .int .i64 0, .int .i64 0, .int .i64 0, .int .i64 0] 40) = w1 at L ⊢
  generalize w.heap.size + 1 + 1 = gR at L ⊢
  generalize w.heap.size + 1 = gO at L ⊢
  generalize w.heap.size = gH at L ⊢
  have O_8 := L.at_ 1 8 rfl (v := .int .i64 4) rfl
  have O_z := L.lt 1 rfl
  go_wp2_with (first | (refine wpList_load_row rfl 27 (.tmp 3) rfl gH rfl _ _ (0, 0) _ (L.bk_ 2 rfl) Tryz.underlying27 rfl cf_sz ?_) | (refine wpList_load_row rfl 40 (.tmp 5) rfl gO rfl _ _ (0, 0) _ (L.bk_ 1 rfl) Tryz.underlying40 rfl op_sz ?_))
  have KS := L.K.size
  refine ((TK _ _ _ (hU.below L.K) (hL.below L.K)).out).mono ?_
  rintro e w2 ⟨B2, d2, rfl, U, hA, K'⟩
  clear O_8 O_z
  have Lb := L.lts
  replace L := L.over K'
  replace L := L.us_av (fun i b e => hA b.1 (Lb i b e) (hU.apart0 hm0 L i b e)) U
  clear Lb
  try dsimp only [lF, List.cons_append, List.nil_append] at L
  clear U
  go_upto_region 10 with (refine wpList_store_row rfl 40 (.tmp 10) (.tmp 41) rfl _ _ rfl (show _ = Value.agg (opv ⟨A0, n0, c0, A1, n1, c1, A2, n2, c2, A3, n3, c3⟩ s2) from rfl) _ _ (Bk.new _ _ _) op_sz rfl (opv_one _ _) ?_)
  try rw [World.setRow_alloc_new]
  replace L := (L).alloc (opv ⟨A0, n0, c0, A1, n1, c1, A2, n2, c2, A3, n3, c3⟩ s2) 40
  try simp only [World.size_alloc] at L
  try dsimp only [nput] at L
  generalize (w2).alloc (.cells (opv ⟨A0, n0, c0, A1, n1, c1, A2, n2, c2, A3, n3, c3⟩ s2) 40) = w3 at L ⊢
  generalize w2.heap.size = gP at L ⊢
  replace L := L.drew
  refine wp_region_held_drew (S := fun w' => ∃ v_R : Array Value, v_R.size = 20 ∧ Loc w w' [(gP, 40, opv ⟨A0, n0, c0, A1, n1, c1, A2, n2, c2, A3, n3, c3⟩ s2), (gR, 40, v_R), (gO, 40, opv ⟨A0, n0, c0, A1, n1, c1, A2, n2, c2, A3, n3, c3⟩ ⟨kind, addr, err, aad, used, 4, shard, sought, leaf, bit, word, full, at_, tries, item, stamp⟩), (gH, 27, #[.int .u32 (a : Int), .int .i64 p, .slice A n c, .int .i64 (ns : Int), .int .i64 wo, .int .i64 qu, .int .i64 tr])] [uF B2 m d2 y2]) (by kernel_rfl) (⟨_, rfl, L⟩) (fun hHeld => ?_)
  generalize w3.drew = v4 at hHeld L ⊢
  refine wpAnyH_take (i := 0) (oi := ⟨some 42, _, _, _, _, _⟩) (v := .slice B2 m d2) rfl (by kernel_rfl) (by kernel_rfl) (by kernel_rfl) (fun _ _ _ h => h) (Or.inl ⟨by rfl, ?_⟩) hHeld ?_
  · (intro ww hS; go_simp; try with_reducible rfl; try omega)
  try simp only [Act.put, sA, sZ, sS]
  refine wpAnyH_take (i := 1) (oi := ⟨some 43, _, _, _, _, _⟩) (v := .agg (opv ⟨A0, n0, c0, A1, n1, c1, A2, n2, c2, A3, n3, c3⟩ s2)) rfl (by kernel_rfl) (by kernel_rfl) (by kernel_rfl) (fun _ _ _ h => h) (yieldsIf_load_row (by rfl) 40 (.tmp 10) rfl gP rfl 40 _ (0, 0) _ (fun _ hS => ((hS.choose_spec.2).bk_ 0 rfl)) Tryz.underlying40 rfl op_sz) hHeld ?_
  try simp only [Act.put, sA, sZ, sS]
  refine wpAnyH_take (i := 2) (oi := ⟨some 6, _, _, _, _, _⟩) (v := .slice B2 m d2) rfl (by kernel_rfl) (by kernel_rfl) (by kernel_rfl) (fun _ _ _ h => h) (Or.inl ⟨by rfl, ?_⟩) hHeld ?_
  · (intro ww hS; go_simp; try with_reducible rfl; try omega)
  try simp only [Act.put, sA, sZ, sS]
  refine wpAnyH_ready (rs := [3]) (by kernel_rfl) (by simp) ?_
  refine AllReadyH.cons (o := ⟨none, _, _, _, _, _⟩) rfl (fun K0 hK => ?_) AllReadyH.nil
  rw [if_pos (by rfl)]
  refine wp_store_row 40 (.tmp 7) (.tmp 43) rfl gR _ rfl rfl _ _ (L.bk_ 1 rfl) op_sz rfl (opv_one _ _) ?_
  replace L := L.row 1 rfl (opv ⟨A0, n0, c0, A1, n1, c1, A2, n2, c2, A3, n3, c3⟩ s2)
  try dsimp only [nput] at L
  refine hK.out _ _ ⟨_, rfl, L⟩ (fun hHeld' => ?_)
  clear hHeld hK K0
  have hHeld := hHeld'
  clear hHeld'
  generalize v4.setRow gR (opv ⟨A0, n0, c0, A1, n1, c1, A2, n2, c2, A3, n3, c3⟩ s2) = v5 at hHeld L ⊢
  try simp only [Act.put]
  refine wpAnyH_take (i := 4) (oi := ⟨some 8, _, _, _, _, _⟩) (v := .bool false) rfl (by kernel_rfl) (by kernel_rfl) (by kernel_rfl) (fun _ _ _ h => h) (Or.inl ⟨by rfl, ?_⟩) hHeld ?_
  · (intro ww hS; go_simp; try with_reducible rfl; try omega)
  try simp only [Act.put, sA, sZ, sS]
  refine wpAnyH_done (by kernel_rfl) ?_ _
  clear hHeld
  go_wp2
  refine bodyPost_ret (v := .tuple #[.slice B2 m d2, .agg (opv ⟨A0, n0, c0, A1, n1, c1, A2, n2, c2, A3, n3, c3⟩ s2), .bool false]) ?_ rfl ?_
  · exact results_tct (fn := Tryz.f14) Tryz.results14 _ _ gR _ _ (0, 0) _ rfl (L.bk_ 1 rfl) Tryz.underlying40 rfl op_sz
  exact ⟨_, _, _, rfl, L.us_ 0 rfl, hE _ _, fun k hk => hA k (Nat.lt_of_lt_of_le hk KS), sa_same rfl rfl, L.K⟩
set_option maxHeartbeats 2000000 in
theorem grs5 (ha : a < 4294967296) (hM : Much a p M) (h1 : 1 ≤ ns) (h2 : ns ≤ 64) (hN : N ≤ 60000) (hG : GI M ns zs N s sn) (hY : YI M zs ys) (hU : US w B m d ys) (hL : Lists lo w h (gl sn)) (hMf : Mf s) (hph : s.phase = 5) :
    Calls Tryz.prog 14 #[.agg #[.int .u32 (a : Int), .int .i64 p, .slice A n c, .int .i64 (ns : Int), .int .i64 wo, .int .i64 qu, .int .i64 tr], .slice B m d, .agg (opv h s)] w (RetRG (gS a M ns ys s sn) (gl (gN M ys s sn)) m (gC M ys s) (gB M ys s sn) h B w) := by
  have hm0 : 0 < m := by have := hU.len; have := hY.len; omega
  obtain ⟨s2, hs2⟩ : ∃ s2, s2 = gS a M ns ys s sn := ⟨_, rfl⟩
  obtain ⟨sn2, hn2⟩ : ∃ sn2, sn2 = gN M ys s sn := ⟨_, rfl⟩
  obtain ⟨y2, hy2⟩ : ∃ y2, y2 = gC M ys s := ⟨_, rfl⟩
  obtain ⟨b2, hb2⟩ : ∃ b2, b2 = gB M ys s sn := ⟨_, rfl⟩
  have TK := fun w lo h (U : US w B m d ys) (L : Lists lo w h (gl sn)) => Lib.hid (gpr_mark (w := w) (lo := lo) (h := h) (s := s) (wo := wo) (qu := qu) (tr := tr) (A := A) (n := n) (c := c) ha hM h1 h2 hN hG hY U L hMf (.inr hph))
  simp only [← hs2, ← hn2, ← hy2, ← hb2] at TK ⊢
  rw [show b2 = false from hb2.trans (gp_calm (.inr (.inr hph)))]
  have hE : ∀ lo2 w2, Lists lo2 w2 h (gl sn2) := fun lo2 w2 => by rw [hn2, show gN M ys s sn = sn by unfold gN; rw [if_neg (by omega), if_neg (by omega)]]; exact gp_emp hG (by omega) hL
  clear hG hY hs2 hn2 hy2 hb2 ha hM
  rcases s with ⟨kind, addr, err, aad, used, phase, shard, sought, leaf, bit, word, full, at_, tries, item, stamp⟩
  rcases h with ⟨A0, n0, c0, A1, n1, c1, A2, n2, c2, A3, n3, c3⟩
  try dsimp only at *
  subst hph
  go_enter Tryz.func14, Tryz.ntmps14
  go_upto_region 1 with (fail)
  have L := Loc.start w
  replace L := (((L).alloc #[.int .u32 (a : Int), .int .i64 p, .slice A n c, .int .i64 (ns : Int), .int .i64 wo, .int .i64 qu, .int .i64 tr] 27).alloc (opv ⟨A0, n0, c0, A1, n1, c1, A2, n2, c2, A3, n3, c3⟩ ⟨kind, addr, err, aad, used, 5, shard, sought, leaf, bit, word, full, at_, tries, item, stamp⟩) 40).alloc #[.int .i64 0, .int .u32 0, .slice none 0 0, .int .i64 0, .int .u32 0, .bool false, .slice none 0 0, .slice none 0 0, .int .i64 0, .int .i64 0, .int .i64 0, .int .i64 0, .int .i64 0, .int .u64 0, .bool false, .slice none 0 0, .int .i64 0, .int .i64 0, .int .i64 0, .int .i64 0] 40
  try simp only [World.size_alloc] at L
  replace L := L.is 0 (opv hd0 sc0) rfl
  try dsimp only [nput] at L
  generalize (((w).alloc (.cells #[.int .u32 (a : Int), .int .i64 p, .slice A n c, .int .i64 (ns : Int), .int .i64 wo, .int .i64 qu, .int .i64 tr] 27)).alloc (.cells (opv ⟨A0, n0, c0, A1, n1, c1, A2, n2, c2, A3, n3, c3⟩ ⟨kind, addr, err, aad, used, 5, shard, sought, leaf, bit, word, full, at_, tries, item, stamp⟩) 40)).alloc (.cells #[.int .i64 0, .int .u32 0, .slice none 0 0, .int .i64 0, .int .u32 0, .bool false, .slice none 0 0, .slice none 0 0, .int .i64 0, .int .i64 0, .int .i64 0, .int .i64 0, .int .i64 0, .int .u64 0, .bool false, .slice none 0 0, .int .i64 0, .int .i64 0, .int .i64 0, .int .i64 0] 40) = w1 at L ⊢
  generalize w.heap.size + 1 + 1 = gR at L ⊢
  generalize w.heap.size + 1 = gO at L ⊢
  generalize w.heap.size = gH at L ⊢
  have O_8 := L.at_ 1 8 rfl (v := .int .i64 5) rfl
  have O_z := L.lt 1 rfl
  go_wp2_with (first | (refine wpList_load_row rfl 27 (.tmp 3) rfl gH rfl _ _ (0, 0) _ (L.bk_ 2 rfl) Tryz.underlying27 rfl cf_sz ?_) | (refine wpList_load_row rfl 40 (.tmp 5) rfl gO rfl _ _ (0, 0) _ (L.bk_ 1 rfl) Tryz.underlying40 rfl op_sz ?_))
  have KS := L.K.size
  refine ((TK _ _ _ (hU.below L.K) (hL.below L.K)).out).mono ?_
  rintro e w2 ⟨B2, d2, rfl, U, hA, K'⟩
  clear O_8 O_z
  have Lb := L.lts
  replace L := L.over K'
  replace L := L.us_av (fun i b e => hA b.1 (Lb i b e) (hU.apart0 hm0 L i b e)) U
  clear Lb
  try dsimp only [lF, List.cons_append, List.nil_append] at L
  clear U
  go_upto_region 10 with (refine wpList_store_row rfl 40 (.tmp 10) (.tmp 41) rfl _ _ rfl (show _ = Value.agg (opv ⟨A0, n0, c0, A1, n1, c1, A2, n2, c2, A3, n3, c3⟩ s2) from rfl) _ _ (Bk.new _ _ _) op_sz rfl (opv_one _ _) ?_)
  try rw [World.setRow_alloc_new]
  replace L := (L).alloc (opv ⟨A0, n0, c0, A1, n1, c1, A2, n2, c2, A3, n3, c3⟩ s2) 40
  try simp only [World.size_alloc] at L
  try dsimp only [nput] at L
  generalize (w2).alloc (.cells (opv ⟨A0, n0, c0, A1, n1, c1, A2, n2, c2, A3, n3, c3⟩ s2) 40) = w3 at L ⊢
  generalize w2.heap.size = gP at L ⊢
  replace L := L.drew
  refine wp_region_held_drew (S := fun w' => ∃ v_R : Array Value, v_R.size = 20 ∧ Loc w w' [(gP, 40, opv ⟨A0, n0, c0, A1, n1, c1, A2, n2, c2, A3, n3, c3⟩ s2), (gR, 40, v_R), (gO, 40, opv ⟨A0, n0, c0, A1, n1, c1, A2, n2, c2, A3, n3, c3⟩ ⟨kind, addr, err, aad, used, 5, shard, sought, leaf, bit, word, full, at_, tries, item, stamp⟩), (gH, 27, #[.int .u32 (a : Int), .int .i64 p, .slice A n c, .int .i64 (ns : Int), .int .i64 wo, .int .i64 qu, .int .i64 tr])] [uF B2 m d2 y2]) (by kernel_rfl) (⟨_, rfl, L⟩) (fun hHeld => ?_)
  generalize w3.drew = v4 at hHeld L ⊢
  refine wpAnyH_take (i := 0) (oi := ⟨some 42, _, _, _, _, _⟩) (v := .slice B2 m d2) rfl (by kernel_rfl) (by kernel_rfl) (by kernel_rfl) (fun _ _ _ h => h) (Or.inl ⟨by rfl, ?_⟩) hHeld ?_
  · (intro ww hS; go_simp; try with_reducible rfl; try omega)
  try simp only [Act.put, sA, sZ, sS]
  refine wpAnyH_take (i := 1) (oi := ⟨some 43, _, _, _, _, _⟩) (v := .agg (opv ⟨A0, n0, c0, A1, n1, c1, A2, n2, c2, A3, n3, c3⟩ s2)) rfl (by kernel_rfl) (by kernel_rfl) (by kernel_rfl) (fun _ _ _ h => h) (yieldsIf_load_row (by rfl) 40 (.tmp 10) rfl gP rfl 40 _ (0, 0) _ (fun _ hS => ((hS.choose_spec.2).bk_ 0 rfl)) Tryz.underlying40 rfl op_sz) hHeld ?_
  try simp only [Act.put, sA, sZ, sS]
  refine wpAnyH_take (i := 2) (oi := ⟨some 6, _, _, _, _, _⟩) (v := .slice B2 m d2) rfl (by kernel_rfl) (by kernel_rfl) (by kernel_rfl) (fun _ _ _ h => h) (Or.inl ⟨by rfl, ?_⟩) hHeld ?_
  · (intro ww hS; go_simp; try with_reducible rfl; try omega)
  try simp only [Act.put, sA, sZ, sS]
  refine wpAnyH_ready (rs := [3]) (by kernel_rfl) (by simp) ?_
  refine AllReadyH.cons (o := ⟨none, _, _, _, _, _⟩) rfl (fun K0 hK => ?_) AllReadyH.nil
  rw [if_pos (by rfl)]
  refine wp_store_row 40 (.tmp 7) (.tmp 43) rfl gR _ rfl rfl _ _ (L.bk_ 1 rfl) op_sz rfl (opv_one _ _) ?_
  replace L := L.row 1 rfl (opv ⟨A0, n0, c0, A1, n1, c1, A2, n2, c2, A3, n3, c3⟩ s2)
  try dsimp only [nput] at L
  refine hK.out _ _ ⟨_, rfl, L⟩ (fun hHeld' => ?_)
  clear hHeld hK K0
  have hHeld := hHeld'
  clear hHeld'
  generalize v4.setRow gR (opv ⟨A0, n0, c0, A1, n1, c1, A2, n2, c2, A3, n3, c3⟩ s2) = v5 at hHeld L ⊢
  try simp only [Act.put]
  refine wpAnyH_take (i := 4) (oi := ⟨some 8, _, _, _, _, _⟩) (v := .bool false) rfl (by kernel_rfl) (by kernel_rfl) (by kernel_rfl) (fun _ _ _ h => h) (Or.inl ⟨by rfl, ?_⟩) hHeld ?_
  · (intro ww hS; go_simp; try with_reducible rfl; try omega)
  try simp only [Act.put, sA, sZ, sS]
  refine wpAnyH_done (by kernel_rfl) ?_ _
  clear hHeld
  go_wp2
  refine bodyPost_ret (v := .tuple #[.slice B2 m d2, .agg (opv ⟨A0, n0, c0, A1, n1, c1, A2, n2, c2, A3, n3, c3⟩ s2), .bool false]) ?_ rfl ?_
  · exact results_tct (fn := Tryz.f14) Tryz.results14 _ _ gR _ _ (0, 0) _ rfl (L.bk_ 1 rfl) Tryz.underlying40 rfl op_sz
  exact ⟨_, _, _, rfl, L.us_ 0 rfl, hE _ _, fun k hk => hA k (Nat.lt_of_lt_of_le hk KS), sa_same rfl rfl, L.K⟩
set_option maxHeartbeats 2000000 in
theorem grs6 (ha : a < 4294967296) (hM : Much a p M) (h1 : 1 ≤ ns) (h2 : ns ≤ 64) (hN : N ≤ 60000) (hG : GI M ns zs N s sn) (hY : YI M zs ys) (hU : US w B m d ys) (hL : Lists lo w h (gl sn)) (hMf : Mf s) (hph : s.phase = 6) :
    Calls Tryz.prog 14 #[.agg #[.int .u32 (a : Int), .int .i64 p, .slice A n c, .int .i64 (ns : Int), .int .i64 wo, .int .i64 qu, .int .i64 tr], .slice B m d, .agg (opv h s)] w (RetRG (gS a M ns ys s sn) (gl (gN M ys s sn)) m (gC M ys s) (gB M ys s sn) h B w) := by
  have hm0 : 0 < m := by have := hU.len; have := hY.len; omega
  obtain ⟨s2, hs2⟩ : ∃ s2, s2 = gS a M ns ys s sn := ⟨_, rfl⟩
  obtain ⟨sn2, hn2⟩ : ∃ sn2, sn2 = gN M ys s sn := ⟨_, rfl⟩
  obtain ⟨y2, hy2⟩ : ∃ y2, y2 = gC M ys s := ⟨_, rfl⟩
  obtain ⟨b2, hb2⟩ : ∃ b2, b2 = gB M ys s sn := ⟨_, rfl⟩
  have TK := fun w lo h (U : US w B m d ys) (L : Lists lo w h (gl sn)) => Lib.hid (gpr_sweep (w := w) (lo := lo) (h := h) (s := s) (wo := wo) (qu := qu) (tr := tr) (A := A) (n := n) (c := c) ha hM h1 h2 hN hG hY U L (.inl hph))
  simp only [← hs2, ← hn2, ← hy2, ← hb2] at TK ⊢
  rw [show y2 = ys from hy2.trans (gp_quiet (.inr (.inl hph)))]
  clear hG hY hs2 hn2 hy2 hb2 ha hM
  rcases s with ⟨kind, addr, err, aad, used, phase, shard, sought, leaf, bit, word, full, at_, tries, item, stamp⟩
  rcases h with ⟨A0, n0, c0, A1, n1, c1, A2, n2, c2, A3, n3, c3⟩
  try dsimp only at *
  subst hph
  go_enter Tryz.func14, Tryz.ntmps14
  go_upto_region 1 with (fail)
  have L := Loc.start w
  replace L := (((L).alloc #[.int .u32 (a : Int), .int .i64 p, .slice A n c, .int .i64 (ns : Int), .int .i64 wo, .int .i64 qu, .int .i64 tr] 27).alloc (opv ⟨A0, n0, c0, A1, n1, c1, A2, n2, c2, A3, n3, c3⟩ ⟨kind, addr, err, aad, used, 6, shard, sought, leaf, bit, word, full, at_, tries, item, stamp⟩) 40).alloc #[.int .i64 0, .int .u32 0, .slice none 0 0, .int .i64 0, .int .u32 0, .bool false, .slice none 0 0, .slice none 0 0, .int .i64 0, .int .i64 0, .int .i64 0, .int .i64 0, .int .i64 0, .int .u64 0, .bool false, .slice none 0 0, .int .i64 0, .int .i64 0, .int .i64 0, .int .i64 0] 40
  try simp only [World.size_alloc] at L
  replace L := L.is 0 (opv hd0 sc0) rfl
  try dsimp only [nput] at L
  generalize (((w).alloc (.cells #[.int .u32 (a : Int), .int .i64 p, .slice A n c, .int .i64 (ns : Int), .int .i64 wo, .int .i64 qu, .int .i64 tr] 27)).alloc (.cells (opv ⟨A0, n0, c0, A1, n1, c1, A2, n2, c2, A3, n3, c3⟩ ⟨kind, addr, err, aad, used, 6, shard, sought, leaf, bit, word, full, at_, tries, item, stamp⟩) 40)).alloc (.cells #[.int .i64 0, .int .u32 0, .slice none 0 0, .int .i64 0, .int .u32 0, .bool false, .slice none 0 0, .slice none 0 0, .int .i64 0, .int .i64 0, .int .i64 0, .int .i64 0, .int .i64 0, .int .u64 0, .bool false, .slice none 0 0, .int .i64 0, .int .i64 0, .int .i64 0, .int .i64 0] 40) = w1 at L ⊢
  generalize w.heap.size + 1 + 1 = gR at L ⊢
  generalize w.heap.size + 1 = gO at L ⊢
  generalize w.heap.size = gH at L ⊢
  have O_8 := L.at_ 1 8 rfl (v := .int .i64 6) rfl
  have O_z := L.lt 1 rfl
  go_wp2_with (first | (refine wpList_load_row rfl 27 (.tmp 3) rfl gH rfl _ _ (0, 0) _ (L.bk_ 2 rfl) Tryz.underlying27 rfl cf_sz ?_) | (refine wpList_load_row rfl 40 (.tmp 5) rfl gO rfl _ _ (0, 0) _ (L.bk_ 1 rfl) Tryz.underlying40 rfl op_sz ?_))
  have KS := L.K.size
  refine ((TK _ _ _ (hU.below L.K) (hL.below L.K)).out).mono ?_
  rintro e w2 ⟨h3, rfl, L', hSA, K'⟩
  clear O_8 O_z
  have Lb := L.lts
  replace L := L.over K'
  replace L := L.gf_ap L' (fun i b e => fun hn b1 o1 e1 => hSA b.1 (Lb i b e) (fun hn0 => apart3 hL hn0 L i b e) hn b1 o1 e1)
  clear Lb
  try dsimp only [lF, List.cons_append, List.nil_append] at L
  clear L'
  go_upto_region 14 with (refine wpList_store_row rfl 40 (.tmp 11) (.tmp 52) rfl _ _ rfl (show _ = Value.agg (opv h3 s2) from rfl) _ _ (Bk.new _ _ _) op_sz rfl (opv_one _ _) ?_)
  try rw [World.setRow_alloc_new]
  replace L := (L).alloc (opv h3 s2) 40
  try simp only [World.size_alloc] at L
  try dsimp only [nput] at L
  generalize (w2).alloc (.cells (opv h3 s2) 40) = w3 at L ⊢
  generalize w2.heap.size = gP at L ⊢
  replace L := L.drew
  refine wp_region_held_drew (S := fun w' => ∃ v_R : Array Value, v_R.size = 20 ∧ Loc w w' [(gP, 40, opv h3 s2), (gR, 40, v_R), (gO, 40, opv ⟨A0, n0, c0, A1, n1, c1, A2, n2, c2, A3, n3, c3⟩ ⟨kind, addr, err, aad, used, 6, shard, sought, leaf, bit, word, full, at_, tries, item, stamp⟩), (gH, 27, #[.int .u32 (a : Int), .int .i64 p, .slice A n c, .int .i64 (ns : Int), .int .i64 wo, .int .i64 qu, .int .i64 tr])] [gF h3 sn2]) (by kernel_rfl) (⟨_, rfl, L⟩) (fun hHeld => ?_)
  generalize w3.drew = v4 at hHeld L ⊢
  refine wpAnyH_take (i := 0) (oi := ⟨some 54, _, _, _, _, _⟩) (v := .slice B m d) rfl (by kernel_rfl) (by kernel_rfl) (by kernel_rfl) (fun _ _ _ h => h) (Or.inl ⟨by rfl, ?_⟩) hHeld ?_
  · (intro ww hS; go_simp; try with_reducible rfl; try omega)
  try simp only [Act.put, sA, sZ, sS]
  refine wpAnyH_take (i := 1) (oi := ⟨some 55, _, _, _, _, _⟩) (v := .agg (opv h3 s2)) rfl (by kernel_rfl) (by kernel_rfl) (by kernel_rfl) (fun _ _ _ h => h) (yieldsIf_load_row (by rfl) 40 (.tmp 11) rfl gP rfl 40 _ (0, 0) _ (fun _ hS => ((hS.choose_spec.2).bk_ 0 rfl)) Tryz.underlying40 rfl op_sz) hHeld ?_
  try simp only [Act.put, sA, sZ, sS]
  refine wpAnyH_take (i := 2) (oi := ⟨some 56, _, _, _, _, _⟩) (v := .bool b2) rfl (by kernel_rfl) (by kernel_rfl) (by kernel_rfl) (fun _ _ _ h => h) (Or.inl ⟨by rfl, ?_⟩) hHeld ?_
  · (intro ww hS; go_simp; try with_reducible rfl; try omega)
  try simp only [Act.put, sA, sZ, sS]
  refine wpAnyH_take (i := 3) (oi := ⟨some 6, _, _, _, _, _⟩) (v := .slice B m d) rfl (by kernel_rfl) (by kernel_rfl) (by kernel_rfl) (fun _ _ _ h => h) (Or.inl ⟨by rfl, ?_⟩) hHeld ?_
  · (intro ww hS; go_simp; try with_reducible rfl; try omega)
  try simp only [Act.put, sA, sZ, sS]
  refine wpAnyH_ready (rs := [4]) (by kernel_rfl) (by simp) ?_
  refine AllReadyH.cons (o := ⟨none, _, _, _, _, _⟩) rfl (fun K0 hK => ?_) AllReadyH.nil
  rw [if_pos (by rfl)]
  refine wp_store_row 40 (.tmp 7) (.tmp 55) rfl gR _ rfl rfl _ _ (L.bk_ 1 rfl) op_sz rfl (opv_one _ _) ?_
  replace L := L.row 1 rfl (opv h3 s2)
  try dsimp only [nput] at L
  refine hK.out _ _ ⟨_, rfl, L⟩ (fun hHeld' => ?_)
  clear hHeld hK K0
  have hHeld := hHeld'
  clear hHeld'
  generalize v4.setRow gR (opv h3 s2) = v5 at hHeld L ⊢
  try simp only [Act.put]
  refine wpAnyH_take (i := 5) (oi := ⟨some 8, _, _, _, _, _⟩) (v := .bool b2) rfl (by kernel_rfl) (by kernel_rfl) (by kernel_rfl) (fun _ _ _ h => h) (Or.inl ⟨by rfl, ?_⟩) hHeld ?_
  · (intro ww hS; go_simp; try with_reducible rfl; try omega)
  try simp only [Act.put, sA, sZ, sS]
  refine wpAnyH_done (by kernel_rfl) ?_ _
  clear hHeld
  go_wp2
  refine bodyPost_ret (v := .tuple #[.slice B m d, .agg (opv h3 s2), .bool b2]) ?_ rfl ?_
  · exact results_tct (fn := Tryz.f14) Tryz.results14 _ _ gR _ _ (0, 0) _ rfl (L.bk_ 1 rfl) Tryz.underlying40 rfl op_sz
  exact ⟨_, _, _, rfl, hU.below L.K, L.gf_ 0 rfl, fun k _ h => h, fun k hk => hSA k (Nat.lt_of_lt_of_le hk KS), L.K⟩
set_option maxHeartbeats 2000000 in
theorem grs7 (ha : a < 4294967296) (hM : Much a p M) (h1 : 1 ≤ ns) (h2 : ns ≤ 64) (hN : N ≤ 60000) (hG : GI M ns zs N s sn) (hY : YI M zs ys) (hU : US w B m d ys) (hL : Lists lo w h (gl sn)) (hMf : Mf s) (hph : s.phase = 7) :
    Calls Tryz.prog 14 #[.agg #[.int .u32 (a : Int), .int .i64 p, .slice A n c, .int .i64 (ns : Int), .int .i64 wo, .int .i64 qu, .int .i64 tr], .slice B m d, .agg (opv h s)] w (RetRG (gS a M ns ys s sn) (gl (gN M ys s sn)) m (gC M ys s) (gB M ys s sn) h B w) := by
  have hm0 : 0 < m := by have := hU.len; have := hY.len; omega
  obtain ⟨s2, hs2⟩ : ∃ s2, s2 = gS a M ns ys s sn := ⟨_, rfl⟩
  obtain ⟨sn2, hn2⟩ : ∃ sn2, sn2 = gN M ys s sn := ⟨_, rfl⟩
  obtain ⟨y2, hy2⟩ : ∃ y2, y2 = gC M ys s := ⟨_, rfl⟩
  obtain ⟨b2, hb2⟩ : ∃ b2, b2 = gB M ys s sn := ⟨_, rfl⟩
  have TK := fun w lo h (U : US w B m d ys) (L : Lists lo w h (gl sn)) => Lib.hid (gpr_sweep (w := w) (lo := lo) (h := h) (s := s) (wo := wo) (qu := qu) (tr := tr) (A := A) (n := n) (c := c) ha hM h1 h2 hN hG hY U L (.inr hph))
  simp only [← hs2, ← hn2, ← hy2, ← hb2] at TK ⊢
  rw [show y2 = ys from hy2.trans (gp_quiet (.inr (.inr hph)))]
  clear hG hY hs2 hn2 hy2 hb2 ha hM
  rcases s with ⟨kind, addr, err, aad, used, phase, shard, sought, leaf, bit, word, full, at_, tries, item, stamp⟩
  rcases h with ⟨A0, n0, c0, A1, n1, c1, A2, n2, c2, A3, n3, c3⟩
  try dsimp only at *
  subst hph
  go_enter Tryz.func14, Tryz.ntmps14
  go_upto_region 1 with (fail)
  have L := Loc.start w
  replace L := (((L).alloc #[.int .u32 (a : Int), .int .i64 p, .slice A n c, .int .i64 (ns : Int), .int .i64 wo, .int .i64 qu, .int .i64 tr] 27).alloc (opv ⟨A0, n0, c0, A1, n1, c1, A2, n2, c2, A3, n3, c3⟩ ⟨kind, addr, err, aad, used, 7, shard, sought, leaf, bit, word, full, at_, tries, item, stamp⟩) 40).alloc #[.int .i64 0, .int .u32 0, .slice none 0 0, .int .i64 0, .int .u32 0, .bool false, .slice none 0 0, .slice none 0 0, .int .i64 0, .int .i64 0, .int .i64 0, .int .i64 0, .int .i64 0, .int .u64 0, .bool false, .slice none 0 0, .int .i64 0, .int .i64 0, .int .i64 0, .int .i64 0] 40
  try simp only [World.size_alloc] at L
  replace L := L.is 0 (opv hd0 sc0) rfl
  try dsimp only [nput] at L
  generalize (((w).alloc (.cells #[.int .u32 (a : Int), .int .i64 p, .slice A n c, .int .i64 (ns : Int), .int .i64 wo, .int .i64 qu, .int .i64 tr] 27)).alloc (.cells (opv ⟨A0, n0, c0, A1, n1, c1, A2, n2, c2, A3, n3, c3⟩ ⟨kind, addr, err, aad, used, 7, shard, sought, leaf, bit, word, full, at_, tries, item, stamp⟩) 40)).alloc (.cells #[.int .i64 0, .int .u32 0, .slice none 0 0, .int .i64 0, .int .u32 0, .bool false, .slice none 0 0, .slice none 0 0, .int .i64 0, .int .i64 0, .int .i64 0, .int .i64 0, .int .i64 0, .int .u64 0, .bool false, .slice none 0 0, .int .i64 0, .int .i64 0, .int .i64 0, .int .i64 0] 40) = w1 at L ⊢
  generalize w.heap.size + 1 + 1 = gR at L ⊢
  generalize w.heap.size + 1 = gO at L ⊢
  generalize w.heap.size = gH at L ⊢
  have O_8 := L.at_ 1 8 rfl (v := .int .i64 7) rfl
  have O_z := L.lt 1 rfl
  go_wp2_with (first | (refine wpList_load_row rfl 27 (.tmp 3) rfl gH rfl _ _ (0, 0) _ (L.bk_ 2 rfl) Tryz.underlying27 rfl cf_sz ?_) | (refine wpList_load_row rfl 40 (.tmp 5) rfl gO rfl _ _ (0, 0) _ (L.bk_ 1 rfl) Tryz.underlying40 rfl op_sz ?_))
  have KS := L.K.size
  refine ((TK _ _ _ (hU.below L.K) (hL.below L.K)).out).mono ?_
  rintro e w2 ⟨h3, rfl, L', hSA, K'⟩
  clear O_8 O_z
  have Lb := L.lts
  replace L := L.over K'
  replace L := L.gf_ap L' (fun i b e => fun hn b1 o1 e1 => hSA b.1 (Lb i b e) (fun hn0 => apart3 hL hn0 L i b e) hn b1 o1 e1)
  clear Lb
  try dsimp only [lF, List.cons_append, List.nil_append] at L
  clear L'
  go_upto_region 14 with (refine wpList_store_row rfl 40 (.tmp 11) (.tmp 52) rfl _ _ rfl (show _ = Value.agg (opv h3 s2) from rfl) _ _ (Bk.new _ _ _) op_sz rfl (opv_one _ _) ?_)
  try rw [World.setRow_alloc_new]
  replace L := (L).alloc (opv h3 s2) 40
  try simp only [World.size_alloc] at L
  try dsimp only [nput] at L
  generalize (w2).alloc (.cells (opv h3 s2) 40) = w3 at L ⊢
  generalize w2.heap.size = gP at L ⊢
  replace L := L.drew
  refine wp_region_held_drew (S := fun w' => ∃ v_R : Array Value, v_R.size = 20 ∧ Loc w w' [(gP, 40, opv h3 s2), (gR, 40, v_R), (gO, 40, opv ⟨A0, n0, c0, A1, n1, c1, A2, n2, c2, A3, n3, c3⟩ ⟨kind, addr, err, aad, used, 7, shard, sought, leaf, bit, word, full, at_, tries, item, stamp⟩), (gH, 27, #[.int .u32 (a : Int), .int .i64 p, .slice A n c, .int .i64 (ns : Int), .int .i64 wo, .int .i64 qu, .int .i64 tr])] [gF h3 sn2]) (by kernel_rfl) (⟨_, rfl, L⟩) (fun hHeld => ?_)
  generalize w3.drew = v4 at hHeld L ⊢
  refine wpAnyH_take (i := 0) (oi := ⟨some 54, _, _, _, _, _⟩) (v := .slice B m d) rfl (by kernel_rfl) (by kernel_rfl) (by kernel_rfl) (fun _ _ _ h => h) (Or.inl ⟨by rfl, ?_⟩) hHeld ?_
  · (intro ww hS; go_simp; try with_reducible rfl; try omega)
  try simp only [Act.put, sA, sZ, sS]
  refine wpAnyH_take (i := 1) (oi := ⟨some 55, _, _, _, _, _⟩) (v := .agg (opv h3 s2)) rfl (by kernel_rfl) (by kernel_rfl) (by kernel_rfl) (fun _ _ _ h => h) (yieldsIf_load_row (by rfl) 40 (.tmp 11) rfl gP rfl 40 _ (0, 0) _ (fun _ hS => ((hS.choose_spec.2).bk_ 0 rfl)) Tryz.underlying40 rfl op_sz) hHeld ?_
  try simp only [Act.put, sA, sZ, sS]
  refine wpAnyH_take (i := 2) (oi := ⟨some 56, _, _, _, _, _⟩) (v := .bool b2) rfl (by kernel_rfl) (by kernel_rfl) (by kernel_rfl) (fun _ _ _ h => h) (Or.inl ⟨by rfl, ?_⟩) hHeld ?_
  · (intro ww hS; go_simp; try with_reducible rfl; try omega)
  try simp only [Act.put, sA, sZ, sS]
  refine wpAnyH_take (i := 3) (oi := ⟨some 6, _, _, _, _, _⟩) (v := .slice B m d) rfl (by kernel_rfl) (by kernel_rfl) (by kernel_rfl) (fun _ _ _ h => h) (Or.inl ⟨by rfl, ?_⟩) hHeld ?_
  · (intro ww hS; go_simp; try with_reducible rfl; try omega)
  try simp only [Act.put, sA, sZ, sS]
  refine wpAnyH_ready (rs := [4]) (by kernel_rfl) (by simp) ?_
  refine AllReadyH.cons (o := ⟨none, _, _, _, _, _⟩) rfl (fun K0 hK => ?_) AllReadyH.nil
  rw [if_pos (by rfl)]
  refine wp_store_row 40 (.tmp 7) (.tmp 55) rfl gR _ rfl rfl _ _ (L.bk_ 1 rfl) op_sz rfl (opv_one _ _) ?_
  replace L := L.row 1 rfl (opv h3 s2)
  try dsimp only [nput] at L
  refine hK.out _ _ ⟨_, rfl, L⟩ (fun hHeld' => ?_)
  clear hHeld hK K0
  have hHeld := hHeld'
  clear hHeld'
  generalize v4.setRow gR (opv h3 s2) = v5 at hHeld L ⊢
  try simp only [Act.put]
  refine wpAnyH_take (i := 5) (oi := ⟨some 8, _, _, _, _, _⟩) (v := .bool b2) rfl (by kernel_rfl) (by kernel_rfl) (by kernel_rfl) (fun _ _ _ h => h) (Or.inl ⟨by rfl, ?_⟩) hHeld ?_
  · (intro ww hS; go_simp; try with_reducible rfl; try omega)
  try simp only [Act.put, sA, sZ, sS]
  refine wpAnyH_done (by kernel_rfl) ?_ _
  clear hHeld
  go_wp2
  refine bodyPost_ret (v := .tuple #[.slice B m d, .agg (opv h3 s2), .bool b2]) ?_ rfl ?_
  · exact results_tct (fn := Tryz.f14) Tryz.results14 _ _ gR _ _ (0, 0) _ rfl (L.bk_ 1 rfl) Tryz.underlying40 rfl op_sz
  exact ⟨_, _, _, rfl, hU.below L.K, L.gf_ 0 rfl, fun k _ h => h, fun k hk => hSA k (Nat.lt_of_lt_of_le hk KS), L.K⟩
set_option maxHeartbeats 2000000 in
theorem grs0 (ha : a < 4294967296) (hM : Much a p M) (h1 : 1 ≤ ns) (h2 : ns ≤ 64) (hN : N ≤ 60000) (hG : GI M ns zs N s sn) (hY : YI M zs ys) (hU : US w B m d ys) (hL : Lists lo w h (gl sn)) (hMf : Mf s) (hph : s.phase = 0) :
    Calls Tryz.prog 14 #[.agg #[.int .u32 (a : Int), .int .i64 p, .slice A n c, .int .i64 (ns : Int), .int .i64 wo, .int .i64 qu, .int .i64 tr], .slice B m d, .agg (opv h s)] w (RetRG (gS a M ns ys s sn) (gl (gN M ys s sn)) m (gC M ys s) (gB M ys s sn) h B w) := by
  obtain ⟨e1, e2, e3, e4⟩ := gp_done (a := a) (ys := ys) hG hph
  rw [e1, e2, e3, e4]
  have hE := fun lo2 w2 => gp_emp (lo' := lo2) (w' := w2) hG (by omega) hL
  clear e1 e2 e3 e4 hG hY ha hM
  rcases s with ⟨kind, addr, err, aad, used, phase, shard, sought, leaf, bit, word, full, at_, tries, item, stamp⟩
  rcases h with ⟨A0, n0, c0, A1, n1, c1, A2, n2, c2, A3, n3, c3⟩
  try dsimp only at *
  subst hph
  go_enter Tryz.func14, Tryz.ntmps14
  go_upto_region 1 with (fail)
  have L := Loc.start w
  replace L := (((L).alloc #[.int .u32 (a : Int), .int .i64 p, .slice A n c, .int .i64 (ns : Int), .int .i64 wo, .int .i64 qu, .int .i64 tr] 27).alloc (opv ⟨A0, n0, c0, A1, n1, c1, A2, n2, c2, A3, n3, c3⟩ ⟨kind, addr, err, aad, used, 0, shard, sought, leaf, bit, word, full, at_, tries, item, stamp⟩) 40).alloc #[.int .i64 0, .int .u32 0, .slice none 0 0, .int .i64 0, .int .u32 0, .bool false, .slice none 0 0, .slice none 0 0, .int .i64 0, .int .i64 0, .int .i64 0, .int .i64 0, .int .i64 0, .int .u64 0, .bool false, .slice none 0 0, .int .i64 0, .int .i64 0, .int .i64 0, .int .i64 0] 40
  try simp only [World.size_alloc] at L
  replace L := L.is 0 (opv hd0 sc0) rfl
  try dsimp only [nput] at L
  generalize (((w).alloc (.cells #[.int .u32 (a : Int), .int .i64 p, .slice A n c, .int .i64 (ns : Int), .int .i64 wo, .int .i64 qu, .int .i64 tr] 27)).alloc (.cells (opv ⟨A0, n0, c0, A1, n1, c1, A2, n2, c2, A3, n3, c3⟩ ⟨kind, addr, err, aad, used, 0, shard, sought, leaf, bit, word, full, at_, tries, item, stamp⟩) 40)).alloc (.cells #[.int .i64 0, .int .u32 0, .slice none 0 0, .int .i64 0, .int .u32 0, .bool false, .slice none 0 0, .slice none 0 0, .int .i64 0, .int .i64 0, .int .i64 0, .int .i64 0, .int .i64 0, .int .u64 0, .bool false, .slice none 0 0, .int .i64 0, .int .i64 0, .int .i64 0, .int .i64 0] 40) = w1 at L ⊢
  generalize w.heap.size + 1 + 1 = gR at L ⊢
  generalize w.heap.size + 1 = gO at L ⊢
  generalize w.heap.size = gH at L ⊢
  have O_8 := L.at_ 1 8 rfl (v := .int .i64 0) rfl
  have O_z := L.lt 1 rfl
  go_upto_region 15 with fail
  clear O_8 O_z
  replace L := L.drew
  refine wp_region_held_drew (S := fun w' => ∃ v_R : Array Value, v_R.size = 20 ∧ Loc w w' [(gR, 40, v_R), (gO, 40, opv ⟨A0, n0, c0, A1, n1, c1, A2, n2, c2, A3, n3, c3⟩ ⟨kind, addr, err, aad, used, 0, shard, sought, leaf, bit, word, full, at_, tries, item, stamp⟩), (gH, 27, #[.int .u32 (a : Int), .int .i64 p, .slice A n c, .int .i64 (ns : Int), .int .i64 wo, .int .i64 qu, .int .i64 tr])] []) (by kernel_rfl) (⟨_, rfl, L⟩) (fun hHeld => ?_)
  generalize w1.drew = v2 at hHeld L ⊢
  refine wpAnyH_take (i := 0) (oi := ⟨some 57, _, _, _, _, _⟩) (v := .slice B m d) rfl (by kernel_rfl) (by kernel_rfl) (by kernel_rfl) (fun _ _ _ h => h) (Or.inl ⟨by rfl, ?_⟩) hHeld ?_
  · (intro ww hS; go_simp; try with_reducible rfl; try omega)
  try simp only [Act.put, sA, sZ, sS]
  refine wpAnyH_take (i := 1) (oi := ⟨some 58, _, _, _, _, _⟩) (v := .agg (opv ⟨A0, n0, c0, A1, n1, c1, A2, n2, c2, A3, n3, c3⟩ ⟨kind, addr, err, aad, used, 0, shard, sought, leaf, bit, word, full, at_, tries, item, stamp⟩)) rfl (by kernel_rfl) (by kernel_rfl) (by kernel_rfl) (fun _ _ _ h => h) (yieldsIf_load_row (by rfl) 40 (.tmp 5) rfl gO rfl 40 _ (0, 0) _ (fun _ hS => ((hS.choose_spec.2).bk_ 1 rfl)) Tryz.underlying40 rfl op_sz) hHeld ?_
  try simp only [Act.put, sA, sZ, sS]
  refine wpAnyH_take (i := 2) (oi := ⟨some 6, _, _, _, _, _⟩) (v := .slice B m d) rfl (by kernel_rfl) (by kernel_rfl) (by kernel_rfl) (fun _ _ _ h => h) (Or.inl ⟨by rfl, ?_⟩) hHeld ?_
  · (intro ww hS; go_simp; try with_reducible rfl; try omega)
  try simp only [Act.put, sA, sZ, sS]
  refine wpAnyH_ready (rs := [3]) (by kernel_rfl) (by simp) ?_
  refine AllReadyH.cons (o := ⟨none, _, _, _, _, _⟩) rfl (fun K0 hK => ?_) AllReadyH.nil
  rw [if_pos (by rfl)]
  refine wp_store_row 40 (.tmp 7) (.tmp 58) rfl gR _ rfl rfl _ _ (L.bk_ 0 rfl) op_sz rfl (opv_one _ _) ?_
  replace L := L.row 0 rfl (opv ⟨A0, n0, c0, A1, n1, c1, A2, n2, c2, A3, n3, c3⟩ ⟨kind, addr, err, aad, used, 0, shard, sought, leaf, bit, word, full, at_, tries, item, stamp⟩)
  try dsimp only [nput] at L
  refine hK.out _ _ ⟨_, rfl, L⟩ (fun hHeld' => ?_)
  clear hHeld hK K0
  have hHeld := hHeld'
  clear hHeld'
  generalize v2.setRow gR (opv ⟨A0, n0, c0, A1, n1, c1, A2, n2, c2, A3, n3, c3⟩ ⟨kind, addr, err, aad, used, 0, shard, sought, leaf, bit, word, full, at_, tries, item, stamp⟩) = v3 at hHeld L ⊢
  try simp only [Act.put]
  refine wpAnyH_take (i := 4) (oi := ⟨some 8, _, _, _, _, _⟩) (v := .bool false) rfl (by kernel_rfl) (by kernel_rfl) (by kernel_rfl) (fun _ _ _ h => h) (Or.inl ⟨by rfl, ?_⟩) hHeld ?_
  · (intro ww hS; go_simp; try with_reducible rfl; try omega)
  try simp only [Act.put, sA, sZ, sS]
  refine wpAnyH_done (by kernel_rfl) ?_ _
  clear hHeld
  go_wp2
  refine bodyPost_ret (v := .tuple #[.slice B m d, .agg (opv ⟨A0, n0, c0, A1, n1, c1, A2, n2, c2, A3, n3, c3⟩ ⟨kind, addr, err, aad, used, 0, shard, sought, leaf, bit, word, full, at_, tries, item, stamp⟩), .bool false]) ?_ rfl ?_
  · exact results_tct (fn := Tryz.f14) Tryz.results14 _ _ gR _ _ (0, 0) _ rfl (L.bk_ 0 rfl) Tryz.underlying40 rfl op_sz
  exact ⟨_, _, _, rfl, hU.below L.K, hE _ _, fun k _ h => h, sa_same rfl rfl, L.K⟩
theorem grs_any (ha : a < 4294967296) (hM : Much a p M) (h1 : 1 ≤ ns) (h2 : ns ≤ 64) (hN : N ≤ 60000) (hG : GI M ns zs N s sn) (hY : YI M zs ys) (hU : US w B m d ys) (hL : Lists lo w h (gl sn)) (hMf : Mf s) :
    Calls Tryz.prog 14 #[.agg #[.int .u32 (a : Int), .int .i64 p, .slice A n c, .int .i64 (ns : Int), .int .i64 wo, .int .i64 qu, .int .i64 tr], .slice B m d, .agg (opv h s)] w (RetRG (gS a M ns ys s sn) (gl (gN M ys s sn)) m (gC M ys s) (gB M ys s sn) h B w) := by
  rcases gp_phase hG with h | h | h | h | h | h | h | h
  · exact grs0 ha hM h1 h2 hN hG hY hU hL hMf h
  · exact grs1 ha hM h1 h2 hN hG hY hU hL hMf h
  · exact grs2 ha hM h1 h2 hN hG hY hU hL hMf h
  · exact grs3 ha hM h1 h2 hN hG hY hU hL hMf h
  · exact grs4 ha hM h1 h2 hN hG hY hU hL hMf h
  · exact grs5 ha hM h1 h2 hN hG hY hU hL hMf h
  · exact grs6 ha hM h1 h2 hN hG hY hU hL hMf h
  · exact grs7 ha hM h1 h2 hN hG hY hU hL hMf h
end
end Go.Proofs.YtghecdccdmeooaaGreat
