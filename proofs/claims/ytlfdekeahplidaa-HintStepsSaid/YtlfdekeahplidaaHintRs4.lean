/-
  What the document's Step answers: the cells and the operation behind a step of marking. Conditions: a configuration that may be, as many cells as there are, an operation whose leaf there is, with At 0 or 1 and Phase 4 or 5, at most 65536 addresses, all the block's.
-/
import Derived.Test.YtlfdekeahplidaaHintStA
namespace Go.Proofs.Ytlfdekeahplidaa
open Go.RowKit
set_option linter.unusedVariables false
def RetRef (h : Hd) (s : Sc) (m : Nat) (ys : List Nat) (w : World) (e : Ending) (w' : World) : Prop := ∃ B d, e = .returned (.tuple #[.slice B m d, .agg (opv h s)]) ∧ US w' B m d ys ∧ Below w.heap.size w w'
section
variable {w : World} {lo lo2 a M m d cl b lf : Nat} {p sh wo qu tr : Int} {A B : Option Addr} {n c : Nat} {xs : List Int} {ys : List Nat} {h : Hd} {s : Sc} {l : Ls}
set_option maxRecDepth 100000 in
set_option maxHeartbeats 2000000 in
theorem rs4_0t_n (ha : a < 4294967296) (hM : Much a p M) (hn : h.n0 ≤ 65536) (hI : IS .u32 lo w h.A0 h.n0 h.c0 xs) (hin : InB a M h.n0 xs) (hU : US w B m d ys) (hm : m ≤ 65536) (hi1 : 0 ≤ s.item) (hi2 : s.item ≤ 65536) (hlf : s.leaf = (lf : Int)) (hlv : lf < lv M) (hcm : cl < m) (hb2 : b < 64) (hw : s.word < 18446744073709551616) (hcl : cl = lv M + lf / 64) (hb : b = lf % 64) (hat : s.at_ = 0) (hfu : s.full = true) (hph : s.phase = 4) (hbit : (gt ys cl).testBit b = false) :
    Calls Try.prog 18 #[.agg #[.int .u32 a, .int .i64 p, .slice A n c, .int .i64 sh, .int .i64 wo, .int .i64 qu, .int .i64 tr], .slice B m d, .agg (opv h s)] w (RetRef h (setp (worded s (gt ys cl))) m ys w) := by
  have hl3 := lv_le hM.most
  have TT := fun w => Lib.hid (rtop_any M lf hM.most (by omega) w)
  rw [← hcl, ← hb] at TT
  obtain ⟨bb, oo, rfl, hbb, hcc⟩ := hU.get hcm
  have TH := fun w => Lib.hid (rhas_any (gt ys cl) b (gt_lt hU.fit cl) hb2 w)
  rw [hbit] at TH
  clear hbit
  obtain ⟨x, hx⟩ : ∃ x, x = gt ys cl := ⟨_, rfl⟩
  rw [← hx] at hcc TH ⊢
  clear hx
  have hcm2 : (cl : Int) < (m : Int) := by omega
  clear hcl hb
  rcases s with ⟨kind, addr, err, aad, used, phase, shard, sought, leaf, bit, word, full, at_, tries, item, stamp⟩
  rcases h with ⟨A0, n0, c0, A1, n1, c1, A2, n2, c2, A3, n3, c3⟩
  dsimp only at *
  subst hlf hat hph hfu
  go_enter Try.func18, Try.ntmps18
  go_upto_region 1 with (fail)
  have K := below_alloc w (.cells #[.int .u32 a, .int .i64 p, .slice A n c, .int .i64 sh, .int .i64 wo, .int .i64 qu, .int .i64 tr] 27)
  have H : Bk (World.alloc (w) (.cells #[.int .u32 a, .int .i64 p, .slice A n c, .int .i64 sh, .int .i64 wo, .int .i64 qu, .int .i64 tr] 27)) (World.heap (w)).size 27 (#[.int .u32 a, .int .i64 p, .slice A n c, .int .i64 sh, .int .i64 wo, .int .i64 qu, .int .i64 tr]) := Bk.new _ _ _
  replace H := H.alloc (.cells (opv ⟨A0, n0, c0, A1, n1, c1, A2, n2, c2, A3, n3, c3⟩ ⟨kind, addr, err, aad, used, 4, shard, sought, (lf : Int), bit, word, true, 0, tries, item, stamp⟩) 38)
  replace K := Below.then_ K (below_alloc _ (.cells (opv ⟨A0, n0, c0, A1, n1, c1, A2, n2, c2, A3, n3, c3⟩ ⟨kind, addr, err, aad, used, 4, shard, sought, (lf : Int), bit, word, true, 0, tries, item, stamp⟩) 38))
  have O : Bk (World.alloc ((w).alloc (.cells #[.int .u32 a, .int .i64 p, .slice A n c, .int .i64 sh, .int .i64 wo, .int .i64 qu, .int .i64 tr] 27)) (.cells (opv ⟨A0, n0, c0, A1, n1, c1, A2, n2, c2, A3, n3, c3⟩ ⟨kind, addr, err, aad, used, 4, shard, sought, (lf : Int), bit, word, true, 0, tries, item, stamp⟩) 38)) (World.heap ((w).alloc (.cells #[.int .u32 a, .int .i64 p, .slice A n c, .int .i64 sh, .int .i64 wo, .int .i64 qu, .int .i64 tr] 27))).size 38 (opv ⟨A0, n0, c0, A1, n1, c1, A2, n2, c2, A3, n3, c3⟩ ⟨kind, addr, err, aad, used, 4, shard, sought, (lf : Int), bit, word, true, 0, tries, item, stamp⟩) := Bk.new _ _ _
  replace H := H.alloc (.cells #[.int .i64 0, .int .u32 0, .slice none 0 0, .int .i64 0, .int .u32 0, .bool false, .slice none 0 0, .slice none 0 0, .int .i64 0, .int .i64 0, .int .i64 0, .int .i64 0, .int .i64 0, .int .u64 0, .bool false, .slice none 0 0, .int .i64 0, .int .i64 0, .int .i64 0, .int .i64 0] 38)
  replace O := O.alloc (.cells #[.int .i64 0, .int .u32 0, .slice none 0 0, .int .i64 0, .int .u32 0, .bool false, .slice none 0 0, .slice none 0 0, .int .i64 0, .int .i64 0, .int .i64 0, .int .i64 0, .int .i64 0, .int .u64 0, .bool false, .slice none 0 0, .int .i64 0, .int .i64 0, .int .i64 0, .int .i64 0] 38)
  replace K := Below.then_ K (below_alloc _ (.cells #[.int .i64 0, .int .u32 0, .slice none 0 0, .int .i64 0, .int .u32 0, .bool false, .slice none 0 0, .slice none 0 0, .int .i64 0, .int .i64 0, .int .i64 0, .int .i64 0, .int .i64 0, .int .u64 0, .bool false, .slice none 0 0, .int .i64 0, .int .i64 0, .int .i64 0, .int .i64 0] 38))
  have R : Bk (World.alloc (((w).alloc (.cells #[.int .u32 a, .int .i64 p, .slice A n c, .int .i64 sh, .int .i64 wo, .int .i64 qu, .int .i64 tr] 27)).alloc (.cells (opv ⟨A0, n0, c0, A1, n1, c1, A2, n2, c2, A3, n3, c3⟩ ⟨kind, addr, err, aad, used, 4, shard, sought, (lf : Int), bit, word, true, 0, tries, item, stamp⟩) 38)) (.cells #[.int .i64 0, .int .u32 0, .slice none 0 0, .int .i64 0, .int .u32 0, .bool false, .slice none 0 0, .slice none 0 0, .int .i64 0, .int .i64 0, .int .i64 0, .int .i64 0, .int .i64 0, .int .u64 0, .bool false, .slice none 0 0, .int .i64 0, .int .i64 0, .int .i64 0, .int .i64 0] 38)) (World.heap (((w).alloc (.cells #[.int .u32 a, .int .i64 p, .slice A n c, .int .i64 sh, .int .i64 wo, .int .i64 qu, .int .i64 tr] 27)).alloc (.cells (opv ⟨A0, n0, c0, A1, n1, c1, A2, n2, c2, A3, n3, c3⟩ ⟨kind, addr, err, aad, used, 4, shard, sought, (lf : Int), bit, word, true, 0, tries, item, stamp⟩) 38))).size 38 (opv hd0 sc0) := Bk.new _ _ _
  try simp only [World.size_alloc] at H O R
  generalize (((w).alloc (.cells #[.int .u32 a, .int .i64 p, .slice A n c, .int .i64 sh, .int .i64 wo, .int .i64 qu, .int .i64 tr] 27)).alloc (.cells (opv ⟨A0, n0, c0, A1, n1, c1, A2, n2, c2, A3, n3, c3⟩ ⟨kind, addr, err, aad, used, 4, shard, sought, (lf : Int), bit, word, true, 0, tries, item, stamp⟩) 38)).alloc (.cells #[.int .i64 0, .int .u32 0, .slice none 0 0, .int .i64 0, .int .u32 0, .bool false, .slice none 0 0, .slice none 0 0, .int .i64 0, .int .i64 0, .int .i64 0, .int .i64 0, .int .i64 0, .int .u64 0, .bool false, .slice none 0 0, .int .i64 0, .int .i64 0, .int .i64 0, .int .i64 0] 38) = w1 at H O R K ⊢
  obtain ⟨gR, hgR⟩ : ∃ g, g = w.heap.size + 1 + 1 := ⟨_, rfl⟩
  rw [← hgR] at R ⊢
  obtain ⟨gO, hgO⟩ : ∃ g, g = w.heap.size + 1 := ⟨_, rfl⟩
  rw [← hgO] at O ⊢
  obtain ⟨gH, hgH⟩ : ∃ g, g = w.heap.size := ⟨_, rfl⟩
  rw [← hgH] at H ⊢
  have H_b : w.heap.size ≤ gH := by omega
  have O_b : w.heap.size ≤ gO := by omega
  have R_b : w.heap.size ≤ gR := by omega
  have ne_H_O : gH ≠ gO := by omega
  have ne_H_R : gH ≠ gR := by omega
  have ne_O_R : gO ≠ gR := by omega
  clear hgH hgO hgR
  have H_0 := H.at_ (v := .int .u32 a) 0 rfl
  have H_1 := H.at_ (v := .int .i64 p) 1 rfl
  have H_z := H.lt
  go_wp2_with fail
  refine (rmany_yes hM).mono ?_
  rintro e w2 ⟨rfl, K'⟩
  clear H_0 H_1 H_z
  replace H := H.below K'
  replace O := O.below K'
  replace R := R.below K'
  replace K := Below.then_ K K'
  clear K'
  have O_11 := O.at_ (v := .int .i64 (lf : Int)) 11 rfl
  have O_16 := O.at_ (v := .int .i64 0) 16 rfl
  have O_8 := O.at_ (v := .int .i64 4) 8 rfl
  have O_z := O.lt
  go_upto_region 6 with ((with_reducible refine ((TT _).out).mono ?_); rintro e w' ⟨rfl, rfl⟩)
  clear O_11 O_16 O_8 O_z
  have X := (K.cell (p := ⟨bb, oo + cl, none⟩) hbb).trans hcc
  have O_13 := O.at_ (v := .int .u64 ((word : Nat) : Int)) 13 rfl
  have O_z := O.lt
  have O_f13 := O.fz 13
  go_upto_region 7 with (fail)
  replace H := H.far (p := ⟨gO, 13, none⟩) ne_H_O (.int .u64 (x : Nat))
  replace R := R.far (p := ⟨gO, 13, none⟩) (Ne.symm ne_O_R) (.int .u64 (x : Nat))
  replace O := O.set_ 13 (.int .u64 (x : Nat))
  replace K := K.setCell (p := ⟨gO, 13, none⟩) O_b (.int .u64 (x : Nat))
  replace O : Bk ((w2).setCell ⟨gO, 13, none⟩ (.int .u64 (x : Nat))) gO 38 (opv ⟨A0, n0, c0, A1, n1, c1, A2, n2, c2, A3, n3, c3⟩ ⟨kind, addr, err, aad, used, 4, shard, sought, (lf : Int), bit, x, true, 0, tries, item, stamp⟩) := O
  clear O_13 O_z O_f13 X
  generalize (w2).setCell ⟨gO, 13, none⟩ (.int .u64 (x : Nat)) = w3 at H O R K ⊢
  refine wp_region_held_drew (S := fun w' => Below w.heap.size w w' ∧ Bk w' gH 27 (#[.int .u32 a, .int .i64 p, .slice A n c, .int .i64 sh, .int .i64 wo, .int .i64 qu, .int .i64 tr]) ∧ Bk w' gO 38 (opv ⟨A0, n0, c0, A1, n1, c1, A2, n2, c2, A3, n3, c3⟩ ⟨kind, addr, err, aad, used, 4, shard, sought, (lf : Int), bit, x, true, 0, tries, item, stamp⟩) ∧ Bk w' gR 38 (opv hd0 sc0) ∧ True) (by kernel_rfl) ⟨K.drew, H.below ((Below.refl _ _).drew), O.below ((Below.refl _ _).drew), R.below ((Below.refl _ _).drew), trivial⟩ (fun hHeld => ?_)
  generalize w3.drew = v4 at hHeld ⊢
  refine wpAnyH_take (i := 0) (oi := ⟨some 40, _, _, _, _, _⟩) (v := ?_) rfl (by kernel_rfl) (by kernel_rfl) (by kernel_rfl) (fun _ _ _ h => h) (Or.inl ⟨by rfl, ?_⟩) hHeld ?_
  rotate_left
  · intro ww hSw
    try dsimp only at hSw
    go_simp
    try with_reducible rfl
    try omega
  try simp only [Act.put, List.setIfInBounds_toArray, List.set_cons_zero, List.set_cons_succ]
  refine wpAnyH_take (i := 1) (oi := ⟨some 41, _, _, _, _, _⟩) (v := .int .u64 (x : Nat)) rfl (by kernel_rfl) (by kernel_rfl) (by kernel_rfl) (fun _ _ _ h => h) (Or.inl ⟨by rfl, ?_⟩) hHeld ?_
  · intro ww hSw
    try dsimp only at hSw
    have O_13 := hSw.2.2.1.at_ (v := .int .u64 (x : Nat)) 13 rfl
    have O_14 := hSw.2.2.1.at_ (v := .bool true) 14 rfl
    go_simp
    try with_reducible rfl
    try omega
  try simp only [Act.put, List.setIfInBounds_toArray, List.set_cons_zero, List.set_cons_succ]
  refine wpAnyH_take (i := 2) (oi := ⟨some 42, _, _, _, _, _⟩) (v := ?_) rfl (by kernel_rfl) (by kernel_rfl) (by kernel_rfl) (fun _ _ _ h => h) (Or.inl ⟨by rfl, ?_⟩) hHeld ?_
  rotate_left
  · intro ww hSw
    try dsimp only at hSw
    go_simp
    try with_reducible rfl
    try omega
  try simp only [Act.put, List.setIfInBounds_toArray, List.set_cons_zero, List.set_cons_succ]
  refine wpAnyH_take (i := 4) (oi := ⟨some 44, _, _, _, _, _⟩) (v := ?_) rfl (by kernel_rfl) (by kernel_rfl) (by kernel_rfl) (fun _ _ _ h => h) (Or.inl ⟨by rfl, ?_⟩) hHeld ?_
  rotate_left
  · intro ww hSw
    try dsimp only at hSw
    go_simp
    try with_reducible rfl
    try omega
  try simp only [Act.put, List.setIfInBounds_toArray, List.set_cons_zero, List.set_cons_succ]
  refine wpAnyH_take (i := 5) (oi := ⟨some 45, _, _, _, _, _⟩) (v := .bool true) rfl (by kernel_rfl) (by kernel_rfl) (by kernel_rfl) (fun _ _ _ h => h) (Or.inl ⟨by rfl, ?_⟩) hHeld ?_
  · intro ww hSw
    try dsimp only at hSw
    have O_13 := hSw.2.2.1.at_ (v := .int .u64 (x : Nat)) 13 rfl
    have O_14 := hSw.2.2.1.at_ (v := .bool true) 14 rfl
    go_simp
    try with_reducible rfl
    try omega
  try simp only [Act.put, List.setIfInBounds_toArray, List.set_cons_zero, List.set_cons_succ]
  refine wpAnyH_ready (rs := [3]) (by kernel_rfl) (by simp) ?_
  refine AllReadyH.cons (o := ⟨some 43, _, _, _, _, _⟩) rfl (fun K0 hK => ?_) AllReadyH.nil
  go_simp
  refine ((TH _).out).mono ?_
  rintro e _ ⟨rfl, rfl⟩
  refine hK.out _ _ hHeld (fun hHeld' => ?_)
  clear hHeld hK K0
  have hHeld := hHeld'
  clear hHeld'
  try simp only [Act.put, List.setIfInBounds_toArray, List.set_cons_zero, List.set_cons_succ]
  refine wpAnyH_take (i := 6) (oi := ⟨some 46, _, _, _, _, _⟩) (v := .bool true) rfl (by kernel_rfl) (by kernel_rfl) (by kernel_rfl) (fun _ _ _ h => h) (Or.inl ⟨by rfl, ?_⟩) hHeld ?_
  · intro ww hSw
    try dsimp only at hSw
    go_simp
    try with_reducible rfl
    try omega
  try simp only [Act.put, List.setIfInBounds_toArray, List.set_cons_zero, List.set_cons_succ]
  refine wpAnyH_done (by kernel_rfl) ?_ _
  replace K := hHeld.1
  replace H := hHeld.2.1
  replace O := hHeld.2.2.1
  replace R := hHeld.2.2.2.1
  clear hHeld
  have O_8 := O.at_ (v := .int .i64 4) 8 rfl
  have O_z := O.lt
  have O_f8 := O.fz 8
  go_upto_region 9 with (fail)
  replace H := H.far (p := ⟨gO, 8, none⟩) ne_H_O (.int .i64 5)
  replace R := R.far (p := ⟨gO, 8, none⟩) (Ne.symm ne_O_R) (.int .i64 5)
  replace O := O.set_ 8 (.int .i64 5)
  replace K := K.setCell (p := ⟨gO, 8, none⟩) O_b (.int .i64 5)
  replace O : Bk ((v4).setCell ⟨gO, 8, none⟩ (.int .i64 5)) gO 38 (opv ⟨A0, n0, c0, A1, n1, c1, A2, n2, c2, A3, n3, c3⟩ ⟨kind, addr, err, aad, used, 5, shard, sought, (lf : Int), bit, x, true, 0, tries, item, stamp⟩) := O
  clear O_8 O_z O_f8
  generalize (v4).setCell ⟨gO, 8, none⟩ (.int .i64 5) = w5 at H O R K ⊢
  refine wp_region_held_drew (S := fun w' => Below w.heap.size w w' ∧ Bk w' gH 27 (#[.int .u32 a, .int .i64 p, .slice A n c, .int .i64 sh, .int .i64 wo, .int .i64 qu, .int .i64 tr]) ∧ Bk w' gO 38 (opv ⟨A0, n0, c0, A1, n1, c1, A2, n2, c2, A3, n3, c3⟩ ⟨kind, addr, err, aad, used, 5, shard, sought, (lf : Int), bit, x, true, 0, tries, item, stamp⟩) ∧ (∃ v : Array Value, v.size = 20 ∧ Bk w' gR 38 v) ∧ True) (by kernel_rfl) ⟨K.drew, H.below ((Below.refl _ _).drew), O.below ((Below.refl _ _).drew), ⟨_, rfl, R.below ((Below.refl _ _).drew)⟩, trivial⟩ (fun hHeld => ?_)
  generalize w5.drew = v6 at hHeld ⊢
  refine wpAnyH_take (i := 0) (oi := ⟨some 48, _, _, _, _, _⟩) (v := ?_) rfl (by kernel_rfl) (by kernel_rfl) (by kernel_rfl) (fun _ _ _ h => h) (Or.inl ⟨by rfl, ?_⟩) hHeld ?_
  rotate_left
  · intro ww hSw
    try dsimp only at hSw
    go_simp
    try with_reducible rfl
    try omega
  try simp only [Act.put, List.setIfInBounds_toArray, List.set_cons_zero, List.set_cons_succ]
  refine wpAnyH_take (i := 1) (oi := ⟨some 49, _, _, _, _, _⟩) (v := .agg (opv ⟨A0, n0, c0, A1, n1, c1, A2, n2, c2, A3, n3, c3⟩ ⟨kind, addr, err, aad, used, 5, shard, sought, (lf : Int), bit, x, true, 0, tries, item, stamp⟩)) rfl (by kernel_rfl) (by kernel_rfl) (by kernel_rfl) (fun _ _ _ h => h) (yieldsIf_load_row (by rfl) 38 (.tmp 5) rfl gO rfl 38 _ (0, 0) _ (fun _ hS => hS.2.2.1) Try.underlying38 rfl op_sz) hHeld ?_
  try simp only [Act.put, List.setIfInBounds_toArray, List.set_cons_zero, List.set_cons_succ]
  refine wpAnyH_take (i := 2) (oi := ⟨some 6, _, _, _, _, _⟩) (v := ?_) rfl (by kernel_rfl) (by kernel_rfl) (by kernel_rfl) (fun _ _ _ h => h) (Or.inl ⟨by rfl, ?_⟩) hHeld ?_
  rotate_left
  · intro ww hSw
    try dsimp only at hSw
    go_simp
    try with_reducible rfl
    try omega
  try simp only [Act.put, List.setIfInBounds_toArray, List.set_cons_zero, List.set_cons_succ]
  refine wpAnyH_ready (rs := [3]) (by kernel_rfl) (by simp) ?_
  refine AllReadyH.cons (o := ⟨none, _, _, _, _, _⟩) rfl (fun K0 hK => ?_) AllReadyH.nil
  rw [if_pos (by rfl)]
  refine wp_store_row 38 (.tmp 7) (.tmp 49) rfl gR _ rfl rfl _ _ hHeld.2.2.2.1.choose_spec.2 op_sz hHeld.2.2.2.1.choose_spec.1 (opv_one _ _) ?_
  have new_R := Bk.row hHeld.2.2.2.1.choose_spec.2 (opv ⟨A0, n0, c0, A1, n1, c1, A2, n2, c2, A3, n3, c3⟩ ⟨kind, addr, err, aad, used, 5, shard, sought, (lf : Int), bit, x, true, 0, tries, item, stamp⟩)
  refine hK.out _ _ ⟨below_setRow hHeld.1 R_b _, hHeld.2.1.row_far ne_H_R _, hHeld.2.2.1.row_far ne_O_R _, ⟨_, rfl, new_R⟩, trivial⟩ (fun hHeld' => ?_)
  clear hHeld hK K0
  have hHeld := hHeld'
  clear hHeld'
  generalize v6.setRow gR (opv ⟨A0, n0, c0, A1, n1, c1, A2, n2, c2, A3, n3, c3⟩ ⟨kind, addr, err, aad, used, 5, shard, sought, (lf : Int), bit, x, true, 0, tries, item, stamp⟩) = v7 at hHeld new_R  ⊢
  try simp only [Act.put]
  refine wpAnyH_done (by kernel_rfl) ?_ _
  replace K := hHeld.1
  replace H := hHeld.2.1
  replace O := hHeld.2.2.1
  replace R := new_R
  clear new_R
  clear hHeld
  go_wp2
  refine bodyPost_ret (v := .tuple #[.slice (some ⟨bb, oo, none⟩) m d, .agg (opv ⟨A0, n0, c0, A1, n1, c1, A2, n2, c2, A3, n3, c3⟩ ⟨kind, addr, err, aad, used, 5, shard, sought, (lf : Int), bit, x, true, 0, tries, item, stamp⟩)]) ?_ rfl ?_
  · exact results_tc (fn := Try.f18) Try.results18 _ _ gR _ _ (0, 0) _ rfl R Try.underlying38 rfl op_sz
  exact ⟨_, _, rfl, hU.below K, K⟩
set_option maxRecDepth 100000 in
set_option maxHeartbeats 2000000 in
theorem rs4_0t_ya (ha : a < 4294967296) (hM : Much a p M) (hn : h.n0 ≤ 65536) (hI : IS .u32 lo w h.A0 h.n0 h.c0 xs) (hin : InB a M h.n0 xs) (hU : US w B m d ys) (hm : m ≤ 65536) (hi1 : 0 ≤ s.item) (hi2 : s.item ≤ 65536) (hlf : s.leaf = (lf : Int)) (hlv : lf < lv M) (hcm : cl < m) (hb2 : b < 64) (hw : s.word < 18446744073709551616) (hcl : cl = lv M + lf / 64) (hb : b = lf % 64) (hat : s.at_ = 0) (hfu : s.full = true) (hph : s.phase = 4) (hbit : (gt ys cl).testBit b = true) (hone : gt ys cl ≠ 18446744073709551615) :
    Calls Try.prog 18 #[.agg #[.int .u32 a, .int .i64 p, .slice A n c, .int .i64 sh, .int .i64 wo, .int .i64 qu, .int .i64 tr], .slice B m d, .agg (opv h s)] w (RetRef h (gon a h.n0 xs (worded s (gt ys cl))) m ys w) := by
  have hl3 := lv_le hM.most
  have TT := fun w => Lib.hid (rtop_any M lf hM.most (by omega) w)
  rw [← hcl, ← hb] at TT
  obtain ⟨bb, oo, rfl, hbb, hcc⟩ := hU.get hcm
  have TH := fun w => Lib.hid (rhas_any (gt ys cl) b (gt_lt hU.fit cl) hb2 w)
  rw [hbit] at TH
  clear hbit
  obtain ⟨x, hx⟩ : ∃ x, x = gt ys cl := ⟨_, rfl⟩
  rw [← hx] at hcc TH ⊢
  rw [← hx] at hone
  clear hx
  have f2 : ((x : Int) == 18446744073709551615) = false := by simp; omega
  have f3 : ((x : Int) != 18446744073709551615) = true := by simp; omega
  clear hone
  have TG := fun w (hI : IS .u32 lo w h.A0 h.n0 h.c0 xs) => Lib.hid (rgoes_any (w := w) (sh := sh) (wo := wo) (qu := qu) (tr := tr) (A := A) (n := n) (c := c) (s := worded s x) ha hM hn hI hin hi1 hi2)
  have hcm2 : (cl : Int) < (m : Int) := by omega
  clear hcl hb
  rcases s with ⟨kind, addr, err, aad, used, phase, shard, sought, leaf, bit, word, full, at_, tries, item, stamp⟩
  rcases h with ⟨A0, n0, c0, A1, n1, c1, A2, n2, c2, A3, n3, c3⟩
  dsimp only at *
  subst hlf hat hph hfu
  go_enter Try.func18, Try.ntmps18
  go_upto_region 1 with (fail)
  have K := below_alloc w (.cells #[.int .u32 a, .int .i64 p, .slice A n c, .int .i64 sh, .int .i64 wo, .int .i64 qu, .int .i64 tr] 27)
  have H : Bk (World.alloc (w) (.cells #[.int .u32 a, .int .i64 p, .slice A n c, .int .i64 sh, .int .i64 wo, .int .i64 qu, .int .i64 tr] 27)) (World.heap (w)).size 27 (#[.int .u32 a, .int .i64 p, .slice A n c, .int .i64 sh, .int .i64 wo, .int .i64 qu, .int .i64 tr]) := Bk.new _ _ _
  replace H := H.alloc (.cells (opv ⟨A0, n0, c0, A1, n1, c1, A2, n2, c2, A3, n3, c3⟩ ⟨kind, addr, err, aad, used, 4, shard, sought, (lf : Int), bit, word, true, 0, tries, item, stamp⟩) 38)
  replace K := Below.then_ K (below_alloc _ (.cells (opv ⟨A0, n0, c0, A1, n1, c1, A2, n2, c2, A3, n3, c3⟩ ⟨kind, addr, err, aad, used, 4, shard, sought, (lf : Int), bit, word, true, 0, tries, item, stamp⟩) 38))
  have O : Bk (World.alloc ((w).alloc (.cells #[.int .u32 a, .int .i64 p, .slice A n c, .int .i64 sh, .int .i64 wo, .int .i64 qu, .int .i64 tr] 27)) (.cells (opv ⟨A0, n0, c0, A1, n1, c1, A2, n2, c2, A3, n3, c3⟩ ⟨kind, addr, err, aad, used, 4, shard, sought, (lf : Int), bit, word, true, 0, tries, item, stamp⟩) 38)) (World.heap ((w).alloc (.cells #[.int .u32 a, .int .i64 p, .slice A n c, .int .i64 sh, .int .i64 wo, .int .i64 qu, .int .i64 tr] 27))).size 38 (opv ⟨A0, n0, c0, A1, n1, c1, A2, n2, c2, A3, n3, c3⟩ ⟨kind, addr, err, aad, used, 4, shard, sought, (lf : Int), bit, word, true, 0, tries, item, stamp⟩) := Bk.new _ _ _
  replace H := H.alloc (.cells #[.int .i64 0, .int .u32 0, .slice none 0 0, .int .i64 0, .int .u32 0, .bool false, .slice none 0 0, .slice none 0 0, .int .i64 0, .int .i64 0, .int .i64 0, .int .i64 0, .int .i64 0, .int .u64 0, .bool false, .slice none 0 0, .int .i64 0, .int .i64 0, .int .i64 0, .int .i64 0] 38)
  replace O := O.alloc (.cells #[.int .i64 0, .int .u32 0, .slice none 0 0, .int .i64 0, .int .u32 0, .bool false, .slice none 0 0, .slice none 0 0, .int .i64 0, .int .i64 0, .int .i64 0, .int .i64 0, .int .i64 0, .int .u64 0, .bool false, .slice none 0 0, .int .i64 0, .int .i64 0, .int .i64 0, .int .i64 0] 38)
  replace K := Below.then_ K (below_alloc _ (.cells #[.int .i64 0, .int .u32 0, .slice none 0 0, .int .i64 0, .int .u32 0, .bool false, .slice none 0 0, .slice none 0 0, .int .i64 0, .int .i64 0, .int .i64 0, .int .i64 0, .int .i64 0, .int .u64 0, .bool false, .slice none 0 0, .int .i64 0, .int .i64 0, .int .i64 0, .int .i64 0] 38))
  have R : Bk (World.alloc (((w).alloc (.cells #[.int .u32 a, .int .i64 p, .slice A n c, .int .i64 sh, .int .i64 wo, .int .i64 qu, .int .i64 tr] 27)).alloc (.cells (opv ⟨A0, n0, c0, A1, n1, c1, A2, n2, c2, A3, n3, c3⟩ ⟨kind, addr, err, aad, used, 4, shard, sought, (lf : Int), bit, word, true, 0, tries, item, stamp⟩) 38)) (.cells #[.int .i64 0, .int .u32 0, .slice none 0 0, .int .i64 0, .int .u32 0, .bool false, .slice none 0 0, .slice none 0 0, .int .i64 0, .int .i64 0, .int .i64 0, .int .i64 0, .int .i64 0, .int .u64 0, .bool false, .slice none 0 0, .int .i64 0, .int .i64 0, .int .i64 0, .int .i64 0] 38)) (World.heap (((w).alloc (.cells #[.int .u32 a, .int .i64 p, .slice A n c, .int .i64 sh, .int .i64 wo, .int .i64 qu, .int .i64 tr] 27)).alloc (.cells (opv ⟨A0, n0, c0, A1, n1, c1, A2, n2, c2, A3, n3, c3⟩ ⟨kind, addr, err, aad, used, 4, shard, sought, (lf : Int), bit, word, true, 0, tries, item, stamp⟩) 38))).size 38 (opv hd0 sc0) := Bk.new _ _ _
  try simp only [World.size_alloc] at H O R
  generalize (((w).alloc (.cells #[.int .u32 a, .int .i64 p, .slice A n c, .int .i64 sh, .int .i64 wo, .int .i64 qu, .int .i64 tr] 27)).alloc (.cells (opv ⟨A0, n0, c0, A1, n1, c1, A2, n2, c2, A3, n3, c3⟩ ⟨kind, addr, err, aad, used, 4, shard, sought, (lf : Int), bit, word, true, 0, tries, item, stamp⟩) 38)).alloc (.cells #[.int .i64 0, .int .u32 0, .slice none 0 0, .int .i64 0, .int .u32 0, .bool false, .slice none 0 0, .slice none 0 0, .int .i64 0, .int .i64 0, .int .i64 0, .int .i64 0, .int .i64 0, .int .u64 0, .bool false, .slice none 0 0, .int .i64 0, .int .i64 0, .int .i64 0, .int .i64 0] 38) = w1 at H O R K ⊢
  obtain ⟨gR, hgR⟩ : ∃ g, g = w.heap.size + 1 + 1 := ⟨_, rfl⟩
  rw [← hgR] at R ⊢
  obtain ⟨gO, hgO⟩ : ∃ g, g = w.heap.size + 1 := ⟨_, rfl⟩
  rw [← hgO] at O ⊢
  obtain ⟨gH, hgH⟩ : ∃ g, g = w.heap.size := ⟨_, rfl⟩
  rw [← hgH] at H ⊢
  have H_b : w.heap.size ≤ gH := by omega
  have O_b : w.heap.size ≤ gO := by omega
  have R_b : w.heap.size ≤ gR := by omega
  have ne_H_O : gH ≠ gO := by omega
  have ne_H_R : gH ≠ gR := by omega
  have ne_O_R : gO ≠ gR := by omega
  clear hgH hgO hgR
  have H_0 := H.at_ (v := .int .u32 a) 0 rfl
  have H_1 := H.at_ (v := .int .i64 p) 1 rfl
  have H_z := H.lt
  go_wp2_with fail
  refine (rmany_yes hM).mono ?_
  rintro e w2 ⟨rfl, K'⟩
  clear H_0 H_1 H_z
  replace H := H.below K'
  replace O := O.below K'
  replace R := R.below K'
  replace K := Below.then_ K K'
  clear K'
  have O_11 := O.at_ (v := .int .i64 (lf : Int)) 11 rfl
  have O_16 := O.at_ (v := .int .i64 0) 16 rfl
  have O_8 := O.at_ (v := .int .i64 4) 8 rfl
  have O_z := O.lt
  go_upto_region 6 with ((with_reducible refine ((TT _).out).mono ?_); rintro e w' ⟨rfl, rfl⟩)
  clear O_11 O_16 O_8 O_z
  have X := (K.cell (p := ⟨bb, oo + cl, none⟩) hbb).trans hcc
  have O_13 := O.at_ (v := .int .u64 ((word : Nat) : Int)) 13 rfl
  have O_z := O.lt
  have O_f13 := O.fz 13
  go_upto_region 7 with (fail)
  replace H := H.far (p := ⟨gO, 13, none⟩) ne_H_O (.int .u64 (x : Nat))
  replace R := R.far (p := ⟨gO, 13, none⟩) (Ne.symm ne_O_R) (.int .u64 (x : Nat))
  replace O := O.set_ 13 (.int .u64 (x : Nat))
  replace K := K.setCell (p := ⟨gO, 13, none⟩) O_b (.int .u64 (x : Nat))
  replace O : Bk ((w2).setCell ⟨gO, 13, none⟩ (.int .u64 (x : Nat))) gO 38 (opv ⟨A0, n0, c0, A1, n1, c1, A2, n2, c2, A3, n3, c3⟩ ⟨kind, addr, err, aad, used, 4, shard, sought, (lf : Int), bit, x, true, 0, tries, item, stamp⟩) := O
  clear O_13 O_z O_f13 X
  generalize (w2).setCell ⟨gO, 13, none⟩ (.int .u64 (x : Nat)) = w3 at H O R K ⊢
  refine wp_region_held_drew (S := fun w' => Below w.heap.size w w' ∧ Bk w' gH 27 (#[.int .u32 a, .int .i64 p, .slice A n c, .int .i64 sh, .int .i64 wo, .int .i64 qu, .int .i64 tr]) ∧ Bk w' gO 38 (opv ⟨A0, n0, c0, A1, n1, c1, A2, n2, c2, A3, n3, c3⟩ ⟨kind, addr, err, aad, used, 4, shard, sought, (lf : Int), bit, x, true, 0, tries, item, stamp⟩) ∧ Bk w' gR 38 (opv hd0 sc0) ∧ True) (by kernel_rfl) ⟨K.drew, H.below ((Below.refl _ _).drew), O.below ((Below.refl _ _).drew), R.below ((Below.refl _ _).drew), trivial⟩ (fun hHeld => ?_)
  generalize w3.drew = v4 at hHeld ⊢
  refine wpAnyH_take (i := 0) (oi := ⟨some 40, _, _, _, _, _⟩) (v := ?_) rfl (by kernel_rfl) (by kernel_rfl) (by kernel_rfl) (fun _ _ _ h => h) (Or.inl ⟨by rfl, ?_⟩) hHeld ?_
  rotate_left
  · intro ww hSw
    try dsimp only at hSw
    go_simp
    try with_reducible rfl
    try omega
  try simp only [Act.put, List.setIfInBounds_toArray, List.set_cons_zero, List.set_cons_succ]
  refine wpAnyH_take (i := 1) (oi := ⟨some 41, _, _, _, _, _⟩) (v := .int .u64 (x : Nat)) rfl (by kernel_rfl) (by kernel_rfl) (by kernel_rfl) (fun _ _ _ h => h) (Or.inl ⟨by rfl, ?_⟩) hHeld ?_
  · intro ww hSw
    try dsimp only at hSw
    have O_13 := hSw.2.2.1.at_ (v := .int .u64 (x : Nat)) 13 rfl
    have O_14 := hSw.2.2.1.at_ (v := .bool true) 14 rfl
    go_simp
    try with_reducible rfl
    try omega
  try simp only [Act.put, List.setIfInBounds_toArray, List.set_cons_zero, List.set_cons_succ]
  refine wpAnyH_take (i := 2) (oi := ⟨some 42, _, _, _, _, _⟩) (v := ?_) rfl (by kernel_rfl) (by kernel_rfl) (by kernel_rfl) (fun _ _ _ h => h) (Or.inl ⟨by rfl, ?_⟩) hHeld ?_
  rotate_left
  · intro ww hSw
    try dsimp only at hSw
    go_simp
    try with_reducible rfl
    try omega
  try simp only [Act.put, List.setIfInBounds_toArray, List.set_cons_zero, List.set_cons_succ]
  refine wpAnyH_take (i := 4) (oi := ⟨some 44, _, _, _, _, _⟩) (v := ?_) rfl (by kernel_rfl) (by kernel_rfl) (by kernel_rfl) (fun _ _ _ h => h) (Or.inl ⟨by rfl, ?_⟩) hHeld ?_
  rotate_left
  · intro ww hSw
    try dsimp only at hSw
    go_simp
    try with_reducible rfl
    try omega
  try simp only [Act.put, List.setIfInBounds_toArray, List.set_cons_zero, List.set_cons_succ]
  refine wpAnyH_take (i := 5) (oi := ⟨some 45, _, _, _, _, _⟩) (v := .bool true) rfl (by kernel_rfl) (by kernel_rfl) (by kernel_rfl) (fun _ _ _ h => h) (Or.inl ⟨by rfl, ?_⟩) hHeld ?_
  · intro ww hSw
    try dsimp only at hSw
    have O_13 := hSw.2.2.1.at_ (v := .int .u64 (x : Nat)) 13 rfl
    have O_14 := hSw.2.2.1.at_ (v := .bool true) 14 rfl
    go_simp
    try with_reducible rfl
    try omega
  try simp only [Act.put, List.setIfInBounds_toArray, List.set_cons_zero, List.set_cons_succ]
  refine wpAnyH_ready (rs := [3]) (by kernel_rfl) (by simp) ?_
  refine AllReadyH.cons (o := ⟨some 43, _, _, _, _, _⟩) rfl (fun K0 hK => ?_) AllReadyH.nil
  go_simp
  refine ((TH _).out).mono ?_
  rintro e _ ⟨rfl, rfl⟩
  refine hK.out _ _ hHeld (fun hHeld' => ?_)
  clear hHeld hK K0
  have hHeld := hHeld'
  clear hHeld'
  try simp only [Act.put, List.setIfInBounds_toArray, List.set_cons_zero, List.set_cons_succ]
  refine wpAnyH_take (i := 6) (oi := ⟨some 46, _, _, _, _, _⟩) (v := .bool false) rfl (by kernel_rfl) (by kernel_rfl) (by kernel_rfl) (fun _ _ _ h => h) (Or.inl ⟨by rfl, ?_⟩) hHeld ?_
  · intro ww hSw
    try dsimp only at hSw
    go_simp
    try with_reducible rfl
    try omega
  try simp only [Act.put, List.setIfInBounds_toArray, List.set_cons_zero, List.set_cons_succ]
  refine wpAnyH_done (by kernel_rfl) ?_ _
  replace K := hHeld.1
  replace H := hHeld.2.1
  replace O := hHeld.2.2.1
  replace R := hHeld.2.2.2.1
  clear hHeld
  have O_16 := O.at_ (v := .int .i64 0) 16 rfl
  have O_14 := O.at_ (v := .bool true) 14 rfl
  have O_13 := O.at_ (v := .int .u64 (x : Nat)) 13 rfl
  have O_z := O.lt
  go_upto_region 17 with (fail)
  clear O_16 O_14 O_13 O_z
  go_wp2_with (first | (refine wpList_load_row rfl 27 (.tmp 3) rfl gH rfl _ _ (0, 0) _ H Try.underlying27 rfl cf_sz ?_) | (refine wpList_load_row rfl 38 (.tmp 5) rfl gO rfl _ _ (0, 0) _ O Try.underlying38 rfl op_sz ?_))
  refine ((TG _ (hI.below K)).out).mono ?_
  rintro e w5 ⟨rfl, K'⟩
  replace H := H.below K'
  replace O := O.below K'
  replace R := R.below K'
  replace K := Below.then_ K K'
  clear K'
  go_wp2_with (refine wpList_store_row rfl 38 (.tmp 7) (.tmp 88) rfl gR _ rfl rfl _ _ R op_sz rfl (opv_one _ _) ?_)
  replace H := H.row_far ne_H_R (opv ⟨A0, n0, c0, A1, n1, c1, A2, n2, c2, A3, n3, c3⟩ (gon a n0 xs (worded ⟨kind, addr, err, aad, used, 4, shard, sought, (lf : Int), bit, word, true, 0, tries, item, stamp⟩ x)))
  replace O := O.row_far ne_O_R (opv ⟨A0, n0, c0, A1, n1, c1, A2, n2, c2, A3, n3, c3⟩ (gon a n0 xs (worded ⟨kind, addr, err, aad, used, 4, shard, sought, (lf : Int), bit, word, true, 0, tries, item, stamp⟩ x)))
  replace R := R.row (opv ⟨A0, n0, c0, A1, n1, c1, A2, n2, c2, A3, n3, c3⟩ (gon a n0 xs (worded ⟨kind, addr, err, aad, used, 4, shard, sought, (lf : Int), bit, word, true, 0, tries, item, stamp⟩ x)))
  replace K := below_setRow K R_b (opv ⟨A0, n0, c0, A1, n1, c1, A2, n2, c2, A3, n3, c3⟩ (gon a n0 xs (worded ⟨kind, addr, err, aad, used, 4, shard, sought, (lf : Int), bit, word, true, 0, tries, item, stamp⟩ x)))
  generalize w5.setRow gR (opv ⟨A0, n0, c0, A1, n1, c1, A2, n2, c2, A3, n3, c3⟩ (gon a n0 xs (worded ⟨kind, addr, err, aad, used, 4, shard, sought, (lf : Int), bit, word, true, 0, tries, item, stamp⟩ x))) = w6 at H O R K ⊢
  refine bodyPost_ret (v := .tuple #[.slice (some ⟨bb, oo, none⟩) m d, .agg (opv ⟨A0, n0, c0, A1, n1, c1, A2, n2, c2, A3, n3, c3⟩ (gon a n0 xs (worded ⟨kind, addr, err, aad, used, 4, shard, sought, (lf : Int), bit, word, true, 0, tries, item, stamp⟩ x)))]) ?_ rfl ?_
  · exact results_tc (fn := Try.f18) Try.results18 _ _ gR _ _ (0, 0) _ rfl R Try.underlying38 rfl op_sz
  exact ⟨_, _, rfl, hU.below K, K⟩
set_option maxRecDepth 100000 in
set_option maxHeartbeats 2000000 in
theorem rs4_0t_yb (ha : a < 4294967296) (hM : Much a p M) (hn : h.n0 ≤ 65536) (hI : IS .u32 lo w h.A0 h.n0 h.c0 xs) (hin : InB a M h.n0 xs) (hU : US w B m d ys) (hm : m ≤ 65536) (hi1 : 0 ≤ s.item) (hi2 : s.item ≤ 65536) (hlf : s.leaf = (lf : Int)) (hlv : lf < lv M) (hcm : cl < m) (hb2 : b < 64) (hw : s.word < 18446744073709551616) (hcl : cl = lv M + lf / 64) (hb : b = lf % 64) (hat : s.at_ = 0) (hfu : s.full = true) (hph : s.phase = 4) (hbit : (gt ys cl).testBit b = true) (hone : gt ys cl = 18446744073709551615) :
    Calls Try.prog 18 #[.agg #[.int .u32 a, .int .i64 p, .slice A n c, .int .i64 sh, .int .i64 wo, .int .i64 qu, .int .i64 tr], .slice B m d, .agg (opv h s)] w (RetRef h (root_ (worded s (gt ys cl))) m ys w) := by
  have hl3 := lv_le hM.most
  have TT := fun w => Lib.hid (rtop_any M lf hM.most (by omega) w)
  rw [← hcl, ← hb] at TT
  obtain ⟨bb, oo, rfl, hbb, hcc⟩ := hU.get hcm
  have TH := fun w => Lib.hid (rhas_any (gt ys cl) b (gt_lt hU.fit cl) hb2 w)
  rw [hbit] at TH
  clear hbit
  obtain ⟨x, hx⟩ : ∃ x, x = gt ys cl := ⟨_, rfl⟩
  rw [← hx] at hcc TH ⊢
  rw [← hx] at hone
  clear hx
  have f2 : ((x : Int) == 18446744073709551615) = true := by simp; omega
  have f3 : ((x : Int) != 18446744073709551615) = false := by simp; omega
  clear hone
  have hcm2 : (cl : Int) < (m : Int) := by omega
  clear hcl hb
  rcases s with ⟨kind, addr, err, aad, used, phase, shard, sought, leaf, bit, word, full, at_, tries, item, stamp⟩
  rcases h with ⟨A0, n0, c0, A1, n1, c1, A2, n2, c2, A3, n3, c3⟩
  dsimp only at *
  subst hlf hat hph hfu
  go_enter Try.func18, Try.ntmps18
  go_upto_region 1 with (fail)
  have K := below_alloc w (.cells #[.int .u32 a, .int .i64 p, .slice A n c, .int .i64 sh, .int .i64 wo, .int .i64 qu, .int .i64 tr] 27)
  have H : Bk (World.alloc (w) (.cells #[.int .u32 a, .int .i64 p, .slice A n c, .int .i64 sh, .int .i64 wo, .int .i64 qu, .int .i64 tr] 27)) (World.heap (w)).size 27 (#[.int .u32 a, .int .i64 p, .slice A n c, .int .i64 sh, .int .i64 wo, .int .i64 qu, .int .i64 tr]) := Bk.new _ _ _
  replace H := H.alloc (.cells (opv ⟨A0, n0, c0, A1, n1, c1, A2, n2, c2, A3, n3, c3⟩ ⟨kind, addr, err, aad, used, 4, shard, sought, (lf : Int), bit, word, true, 0, tries, item, stamp⟩) 38)
  replace K := Below.then_ K (below_alloc _ (.cells (opv ⟨A0, n0, c0, A1, n1, c1, A2, n2, c2, A3, n3, c3⟩ ⟨kind, addr, err, aad, used, 4, shard, sought, (lf : Int), bit, word, true, 0, tries, item, stamp⟩) 38))
  have O : Bk (World.alloc ((w).alloc (.cells #[.int .u32 a, .int .i64 p, .slice A n c, .int .i64 sh, .int .i64 wo, .int .i64 qu, .int .i64 tr] 27)) (.cells (opv ⟨A0, n0, c0, A1, n1, c1, A2, n2, c2, A3, n3, c3⟩ ⟨kind, addr, err, aad, used, 4, shard, sought, (lf : Int), bit, word, true, 0, tries, item, stamp⟩) 38)) (World.heap ((w).alloc (.cells #[.int .u32 a, .int .i64 p, .slice A n c, .int .i64 sh, .int .i64 wo, .int .i64 qu, .int .i64 tr] 27))).size 38 (opv ⟨A0, n0, c0, A1, n1, c1, A2, n2, c2, A3, n3, c3⟩ ⟨kind, addr, err, aad, used, 4, shard, sought, (lf : Int), bit, word, true, 0, tries, item, stamp⟩) := Bk.new _ _ _
  replace H := H.alloc (.cells #[.int .i64 0, .int .u32 0, .slice none 0 0, .int .i64 0, .int .u32 0, .bool false, .slice none 0 0, .slice none 0 0, .int .i64 0, .int .i64 0, .int .i64 0, .int .i64 0, .int .i64 0, .int .u64 0, .bool false, .slice none 0 0, .int .i64 0, .int .i64 0, .int .i64 0, .int .i64 0] 38)
  replace O := O.alloc (.cells #[.int .i64 0, .int .u32 0, .slice none 0 0, .int .i64 0, .int .u32 0, .bool false, .slice none 0 0, .slice none 0 0, .int .i64 0, .int .i64 0, .int .i64 0, .int .i64 0, .int .i64 0, .int .u64 0, .bool false, .slice none 0 0, .int .i64 0, .int .i64 0, .int .i64 0, .int .i64 0] 38)
  replace K := Below.then_ K (below_alloc _ (.cells #[.int .i64 0, .int .u32 0, .slice none 0 0, .int .i64 0, .int .u32 0, .bool false, .slice none 0 0, .slice none 0 0, .int .i64 0, .int .i64 0, .int .i64 0, .int .i64 0, .int .i64 0, .int .u64 0, .bool false, .slice none 0 0, .int .i64 0, .int .i64 0, .int .i64 0, .int .i64 0] 38))
  have R : Bk (World.alloc (((w).alloc (.cells #[.int .u32 a, .int .i64 p, .slice A n c, .int .i64 sh, .int .i64 wo, .int .i64 qu, .int .i64 tr] 27)).alloc (.cells (opv ⟨A0, n0, c0, A1, n1, c1, A2, n2, c2, A3, n3, c3⟩ ⟨kind, addr, err, aad, used, 4, shard, sought, (lf : Int), bit, word, true, 0, tries, item, stamp⟩) 38)) (.cells #[.int .i64 0, .int .u32 0, .slice none 0 0, .int .i64 0, .int .u32 0, .bool false, .slice none 0 0, .slice none 0 0, .int .i64 0, .int .i64 0, .int .i64 0, .int .i64 0, .int .i64 0, .int .u64 0, .bool false, .slice none 0 0, .int .i64 0, .int .i64 0, .int .i64 0, .int .i64 0] 38)) (World.heap (((w).alloc (.cells #[.int .u32 a, .int .i64 p, .slice A n c, .int .i64 sh, .int .i64 wo, .int .i64 qu, .int .i64 tr] 27)).alloc (.cells (opv ⟨A0, n0, c0, A1, n1, c1, A2, n2, c2, A3, n3, c3⟩ ⟨kind, addr, err, aad, used, 4, shard, sought, (lf : Int), bit, word, true, 0, tries, item, stamp⟩) 38))).size 38 (opv hd0 sc0) := Bk.new _ _ _
  try simp only [World.size_alloc] at H O R
  generalize (((w).alloc (.cells #[.int .u32 a, .int .i64 p, .slice A n c, .int .i64 sh, .int .i64 wo, .int .i64 qu, .int .i64 tr] 27)).alloc (.cells (opv ⟨A0, n0, c0, A1, n1, c1, A2, n2, c2, A3, n3, c3⟩ ⟨kind, addr, err, aad, used, 4, shard, sought, (lf : Int), bit, word, true, 0, tries, item, stamp⟩) 38)).alloc (.cells #[.int .i64 0, .int .u32 0, .slice none 0 0, .int .i64 0, .int .u32 0, .bool false, .slice none 0 0, .slice none 0 0, .int .i64 0, .int .i64 0, .int .i64 0, .int .i64 0, .int .i64 0, .int .u64 0, .bool false, .slice none 0 0, .int .i64 0, .int .i64 0, .int .i64 0, .int .i64 0] 38) = w1 at H O R K ⊢
  obtain ⟨gR, hgR⟩ : ∃ g, g = w.heap.size + 1 + 1 := ⟨_, rfl⟩
  rw [← hgR] at R ⊢
  obtain ⟨gO, hgO⟩ : ∃ g, g = w.heap.size + 1 := ⟨_, rfl⟩
  rw [← hgO] at O ⊢
  obtain ⟨gH, hgH⟩ : ∃ g, g = w.heap.size := ⟨_, rfl⟩
  rw [← hgH] at H ⊢
  have H_b : w.heap.size ≤ gH := by omega
  have O_b : w.heap.size ≤ gO := by omega
  have R_b : w.heap.size ≤ gR := by omega
  have ne_H_O : gH ≠ gO := by omega
  have ne_H_R : gH ≠ gR := by omega
  have ne_O_R : gO ≠ gR := by omega
  clear hgH hgO hgR
  have H_0 := H.at_ (v := .int .u32 a) 0 rfl
  have H_1 := H.at_ (v := .int .i64 p) 1 rfl
  have H_z := H.lt
  go_wp2_with fail
  refine (rmany_yes hM).mono ?_
  rintro e w2 ⟨rfl, K'⟩
  clear H_0 H_1 H_z
  replace H := H.below K'
  replace O := O.below K'
  replace R := R.below K'
  replace K := Below.then_ K K'
  clear K'
  have O_11 := O.at_ (v := .int .i64 (lf : Int)) 11 rfl
  have O_16 := O.at_ (v := .int .i64 0) 16 rfl
  have O_8 := O.at_ (v := .int .i64 4) 8 rfl
  have O_z := O.lt
  go_upto_region 6 with ((with_reducible refine ((TT _).out).mono ?_); rintro e w' ⟨rfl, rfl⟩)
  clear O_11 O_16 O_8 O_z
  have X := (K.cell (p := ⟨bb, oo + cl, none⟩) hbb).trans hcc
  have O_13 := O.at_ (v := .int .u64 ((word : Nat) : Int)) 13 rfl
  have O_z := O.lt
  have O_f13 := O.fz 13
  go_upto_region 7 with (fail)
  replace H := H.far (p := ⟨gO, 13, none⟩) ne_H_O (.int .u64 (x : Nat))
  replace R := R.far (p := ⟨gO, 13, none⟩) (Ne.symm ne_O_R) (.int .u64 (x : Nat))
  replace O := O.set_ 13 (.int .u64 (x : Nat))
  replace K := K.setCell (p := ⟨gO, 13, none⟩) O_b (.int .u64 (x : Nat))
  replace O : Bk ((w2).setCell ⟨gO, 13, none⟩ (.int .u64 (x : Nat))) gO 38 (opv ⟨A0, n0, c0, A1, n1, c1, A2, n2, c2, A3, n3, c3⟩ ⟨kind, addr, err, aad, used, 4, shard, sought, (lf : Int), bit, x, true, 0, tries, item, stamp⟩) := O
  clear O_13 O_z O_f13 X
  generalize (w2).setCell ⟨gO, 13, none⟩ (.int .u64 (x : Nat)) = w3 at H O R K ⊢
  refine wp_region_held_drew (S := fun w' => Below w.heap.size w w' ∧ Bk w' gH 27 (#[.int .u32 a, .int .i64 p, .slice A n c, .int .i64 sh, .int .i64 wo, .int .i64 qu, .int .i64 tr]) ∧ Bk w' gO 38 (opv ⟨A0, n0, c0, A1, n1, c1, A2, n2, c2, A3, n3, c3⟩ ⟨kind, addr, err, aad, used, 4, shard, sought, (lf : Int), bit, x, true, 0, tries, item, stamp⟩) ∧ Bk w' gR 38 (opv hd0 sc0) ∧ True) (by kernel_rfl) ⟨K.drew, H.below ((Below.refl _ _).drew), O.below ((Below.refl _ _).drew), R.below ((Below.refl _ _).drew), trivial⟩ (fun hHeld => ?_)
  generalize w3.drew = v4 at hHeld ⊢
  refine wpAnyH_take (i := 0) (oi := ⟨some 40, _, _, _, _, _⟩) (v := ?_) rfl (by kernel_rfl) (by kernel_rfl) (by kernel_rfl) (fun _ _ _ h => h) (Or.inl ⟨by rfl, ?_⟩) hHeld ?_
  rotate_left
  · intro ww hSw
    try dsimp only at hSw
    go_simp
    try with_reducible rfl
    try omega
  try simp only [Act.put, List.setIfInBounds_toArray, List.set_cons_zero, List.set_cons_succ]
  refine wpAnyH_take (i := 1) (oi := ⟨some 41, _, _, _, _, _⟩) (v := .int .u64 (x : Nat)) rfl (by kernel_rfl) (by kernel_rfl) (by kernel_rfl) (fun _ _ _ h => h) (Or.inl ⟨by rfl, ?_⟩) hHeld ?_
  · intro ww hSw
    try dsimp only at hSw
    have O_13 := hSw.2.2.1.at_ (v := .int .u64 (x : Nat)) 13 rfl
    have O_14 := hSw.2.2.1.at_ (v := .bool true) 14 rfl
    go_simp
    try with_reducible rfl
    try omega
  try simp only [Act.put, List.setIfInBounds_toArray, List.set_cons_zero, List.set_cons_succ]
  refine wpAnyH_take (i := 2) (oi := ⟨some 42, _, _, _, _, _⟩) (v := ?_) rfl (by kernel_rfl) (by kernel_rfl) (by kernel_rfl) (fun _ _ _ h => h) (Or.inl ⟨by rfl, ?_⟩) hHeld ?_
  rotate_left
  · intro ww hSw
    try dsimp only at hSw
    go_simp
    try with_reducible rfl
    try omega
  try simp only [Act.put, List.setIfInBounds_toArray, List.set_cons_zero, List.set_cons_succ]
  refine wpAnyH_take (i := 4) (oi := ⟨some 44, _, _, _, _, _⟩) (v := ?_) rfl (by kernel_rfl) (by kernel_rfl) (by kernel_rfl) (fun _ _ _ h => h) (Or.inl ⟨by rfl, ?_⟩) hHeld ?_
  rotate_left
  · intro ww hSw
    try dsimp only at hSw
    go_simp
    try with_reducible rfl
    try omega
  try simp only [Act.put, List.setIfInBounds_toArray, List.set_cons_zero, List.set_cons_succ]
  refine wpAnyH_take (i := 5) (oi := ⟨some 45, _, _, _, _, _⟩) (v := .bool true) rfl (by kernel_rfl) (by kernel_rfl) (by kernel_rfl) (fun _ _ _ h => h) (Or.inl ⟨by rfl, ?_⟩) hHeld ?_
  · intro ww hSw
    try dsimp only at hSw
    have O_13 := hSw.2.2.1.at_ (v := .int .u64 (x : Nat)) 13 rfl
    have O_14 := hSw.2.2.1.at_ (v := .bool true) 14 rfl
    go_simp
    try with_reducible rfl
    try omega
  try simp only [Act.put, List.setIfInBounds_toArray, List.set_cons_zero, List.set_cons_succ]
  refine wpAnyH_ready (rs := [3]) (by kernel_rfl) (by simp) ?_
  refine AllReadyH.cons (o := ⟨some 43, _, _, _, _, _⟩) rfl (fun K0 hK => ?_) AllReadyH.nil
  go_simp
  refine ((TH _).out).mono ?_
  rintro e _ ⟨rfl, rfl⟩
  refine hK.out _ _ hHeld (fun hHeld' => ?_)
  clear hHeld hK K0
  have hHeld := hHeld'
  clear hHeld'
  try simp only [Act.put, List.setIfInBounds_toArray, List.set_cons_zero, List.set_cons_succ]
  refine wpAnyH_take (i := 6) (oi := ⟨some 46, _, _, _, _, _⟩) (v := .bool false) rfl (by kernel_rfl) (by kernel_rfl) (by kernel_rfl) (fun _ _ _ h => h) (Or.inl ⟨by rfl, ?_⟩) hHeld ?_
  · intro ww hSw
    try dsimp only at hSw
    go_simp
    try with_reducible rfl
    try omega
  try simp only [Act.put, List.setIfInBounds_toArray, List.set_cons_zero, List.set_cons_succ]
  refine wpAnyH_done (by kernel_rfl) ?_ _
  replace K := hHeld.1
  replace H := hHeld.2.1
  replace O := hHeld.2.2.1
  replace R := hHeld.2.2.2.1
  clear hHeld
  have O_16 := O.at_ (v := .int .i64 0) 16 rfl
  have O_14 := O.at_ (v := .bool true) 14 rfl
  have O_13 := O.at_ (v := .int .u64 (x : Nat)) 13 rfl
  have O_z := O.lt
  have O_f16 := O.fz 16
  go_upto_region 19 with (fail)
  replace H := H.far (p := ⟨gO, 16, none⟩) ne_H_O (.int .i64 1)
  replace R := R.far (p := ⟨gO, 16, none⟩) (Ne.symm ne_O_R) (.int .i64 1)
  replace O := O.set_ 16 (.int .i64 1)
  replace K := K.setCell (p := ⟨gO, 16, none⟩) O_b (.int .i64 1)
  replace O : Bk ((v4).setCell ⟨gO, 16, none⟩ (.int .i64 1)) gO 38 (opv ⟨A0, n0, c0, A1, n1, c1, A2, n2, c2, A3, n3, c3⟩ ⟨kind, addr, err, aad, used, 4, shard, sought, (lf : Int), bit, x, true, 1, tries, item, stamp⟩) := O
  clear O_16 O_14 O_13 O_z O_f16
  generalize (v4).setCell ⟨gO, 16, none⟩ (.int .i64 1) = w5 at H O R K ⊢
  have O_8 := O.at_ (v := .int .i64 4) 8 rfl
  have O_z := O.lt
  have O_f8 := O.fz 8
  go_upto_region 20 with (fail)
  replace H := H.far (p := ⟨gO, 8, none⟩) ne_H_O (.int .i64 4)
  replace R := R.far (p := ⟨gO, 8, none⟩) (Ne.symm ne_O_R) (.int .i64 4)
  replace O := O.set_ 8 (.int .i64 4)
  replace K := K.setCell (p := ⟨gO, 8, none⟩) O_b (.int .i64 4)
  replace O : Bk ((w5).setCell ⟨gO, 8, none⟩ (.int .i64 4)) gO 38 (opv ⟨A0, n0, c0, A1, n1, c1, A2, n2, c2, A3, n3, c3⟩ ⟨kind, addr, err, aad, used, 4, shard, sought, (lf : Int), bit, x, true, 1, tries, item, stamp⟩) := O
  clear O_8 O_z O_f8
  generalize (w5).setCell ⟨gO, 8, none⟩ (.int .i64 4) = w6 at H O R K ⊢
  refine wp_region_held_drew (S := fun w' => Below w.heap.size w w' ∧ Bk w' gH 27 (#[.int .u32 a, .int .i64 p, .slice A n c, .int .i64 sh, .int .i64 wo, .int .i64 qu, .int .i64 tr]) ∧ Bk w' gO 38 (opv ⟨A0, n0, c0, A1, n1, c1, A2, n2, c2, A3, n3, c3⟩ ⟨kind, addr, err, aad, used, 4, shard, sought, (lf : Int), bit, x, true, 1, tries, item, stamp⟩) ∧ (∃ v : Array Value, v.size = 20 ∧ Bk w' gR 38 v) ∧ True) (by kernel_rfl) ⟨K.drew, H.below ((Below.refl _ _).drew), O.below ((Below.refl _ _).drew), ⟨_, rfl, R.below ((Below.refl _ _).drew)⟩, trivial⟩ (fun hHeld => ?_)
  generalize w6.drew = v7 at hHeld ⊢
  refine wpAnyH_take (i := 0) (oi := ⟨some 91, _, _, _, _, _⟩) (v := ?_) rfl (by kernel_rfl) (by kernel_rfl) (by kernel_rfl) (fun _ _ _ h => h) (Or.inl ⟨by rfl, ?_⟩) hHeld ?_
  rotate_left
  · intro ww hSw
    try dsimp only at hSw
    go_simp
    try with_reducible rfl
    try omega
  try simp only [Act.put, List.setIfInBounds_toArray, List.set_cons_zero, List.set_cons_succ]
  refine wpAnyH_take (i := 1) (oi := ⟨some 92, _, _, _, _, _⟩) (v := .agg (opv ⟨A0, n0, c0, A1, n1, c1, A2, n2, c2, A3, n3, c3⟩ ⟨kind, addr, err, aad, used, 4, shard, sought, (lf : Int), bit, x, true, 1, tries, item, stamp⟩)) rfl (by kernel_rfl) (by kernel_rfl) (by kernel_rfl) (fun _ _ _ h => h) (yieldsIf_load_row (by rfl) 38 (.tmp 5) rfl gO rfl 38 _ (0, 0) _ (fun _ hS => hS.2.2.1) Try.underlying38 rfl op_sz) hHeld ?_
  try simp only [Act.put, List.setIfInBounds_toArray, List.set_cons_zero, List.set_cons_succ]
  refine wpAnyH_take (i := 2) (oi := ⟨some 6, _, _, _, _, _⟩) (v := ?_) rfl (by kernel_rfl) (by kernel_rfl) (by kernel_rfl) (fun _ _ _ h => h) (Or.inl ⟨by rfl, ?_⟩) hHeld ?_
  rotate_left
  · intro ww hSw
    try dsimp only at hSw
    go_simp
    try with_reducible rfl
    try omega
  try simp only [Act.put, List.setIfInBounds_toArray, List.set_cons_zero, List.set_cons_succ]
  refine wpAnyH_ready (rs := [3]) (by kernel_rfl) (by simp) ?_
  refine AllReadyH.cons (o := ⟨none, _, _, _, _, _⟩) rfl (fun K0 hK => ?_) AllReadyH.nil
  rw [if_pos (by rfl)]
  refine wp_store_row 38 (.tmp 7) (.tmp 92) rfl gR _ rfl rfl _ _ hHeld.2.2.2.1.choose_spec.2 op_sz hHeld.2.2.2.1.choose_spec.1 (opv_one _ _) ?_
  have new_R := Bk.row hHeld.2.2.2.1.choose_spec.2 (opv ⟨A0, n0, c0, A1, n1, c1, A2, n2, c2, A3, n3, c3⟩ ⟨kind, addr, err, aad, used, 4, shard, sought, (lf : Int), bit, x, true, 1, tries, item, stamp⟩)
  refine hK.out _ _ ⟨below_setRow hHeld.1 R_b _, hHeld.2.1.row_far ne_H_R _, hHeld.2.2.1.row_far ne_O_R _, ⟨_, rfl, new_R⟩, trivial⟩ (fun hHeld' => ?_)
  clear hHeld hK K0
  have hHeld := hHeld'
  clear hHeld'
  generalize v7.setRow gR (opv ⟨A0, n0, c0, A1, n1, c1, A2, n2, c2, A3, n3, c3⟩ ⟨kind, addr, err, aad, used, 4, shard, sought, (lf : Int), bit, x, true, 1, tries, item, stamp⟩) = v8 at hHeld new_R  ⊢
  try simp only [Act.put]
  refine wpAnyH_done (by kernel_rfl) ?_ _
  replace K := hHeld.1
  replace H := hHeld.2.1
  replace O := hHeld.2.2.1
  replace R := new_R
  clear new_R
  clear hHeld
  go_wp2
  refine bodyPost_ret (v := .tuple #[.slice (some ⟨bb, oo, none⟩) m d, .agg (opv ⟨A0, n0, c0, A1, n1, c1, A2, n2, c2, A3, n3, c3⟩ ⟨kind, addr, err, aad, used, 4, shard, sought, (lf : Int), bit, x, true, 1, tries, item, stamp⟩)]) ?_ rfl ?_
  · exact results_tc (fn := Try.f18) Try.results18 _ _ gR _ _ (0, 0) _ rfl R Try.underlying38 rfl op_sz
  exact ⟨_, _, rfl, hU.below K, K⟩
set_option maxRecDepth 100000 in
set_option maxHeartbeats 2000000 in
theorem rs4_0f_n (ha : a < 4294967296) (hM : Much a p M) (hn : h.n0 ≤ 65536) (hI : IS .u32 lo w h.A0 h.n0 h.c0 xs) (hin : InB a M h.n0 xs) (hU : US w B m d ys) (hm : m ≤ 65536) (hi1 : 0 ≤ s.item) (hi2 : s.item ≤ 65536) (hlf : s.leaf = (lf : Int)) (hlv : lf < lv M) (hcm : cl < m) (hb2 : b < 64) (hw : s.word < 18446744073709551616) (hcl : cl = lv M + lf / 64) (hb : b = lf % 64) (hat : s.at_ = 0) (hfu : s.full = false) (hph : s.phase = 4) (hbit : (gt ys cl).testBit b = true) :
    Calls Try.prog 18 #[.agg #[.int .u32 a, .int .i64 p, .slice A n c, .int .i64 sh, .int .i64 wo, .int .i64 qu, .int .i64 tr], .slice B m d, .agg (opv h s)] w (RetRef h (setp (worded s (gt ys cl))) m ys w) := by
  have hl3 := lv_le hM.most
  have TT := fun w => Lib.hid (rtop_any M lf hM.most (by omega) w)
  rw [← hcl, ← hb] at TT
  obtain ⟨bb, oo, rfl, hbb, hcc⟩ := hU.get hcm
  have TH := fun w => Lib.hid (rhas_any (gt ys cl) b (gt_lt hU.fit cl) hb2 w)
  rw [hbit] at TH
  clear hbit
  obtain ⟨x, hx⟩ : ∃ x, x = gt ys cl := ⟨_, rfl⟩
  rw [← hx] at hcc TH ⊢
  clear hx
  have hcm2 : (cl : Int) < (m : Int) := by omega
  clear hcl hb
  rcases s with ⟨kind, addr, err, aad, used, phase, shard, sought, leaf, bit, word, full, at_, tries, item, stamp⟩
  rcases h with ⟨A0, n0, c0, A1, n1, c1, A2, n2, c2, A3, n3, c3⟩
  dsimp only at *
  subst hlf hat hph hfu
  go_enter Try.func18, Try.ntmps18
  go_upto_region 1 with (fail)
  have K := below_alloc w (.cells #[.int .u32 a, .int .i64 p, .slice A n c, .int .i64 sh, .int .i64 wo, .int .i64 qu, .int .i64 tr] 27)
  have H : Bk (World.alloc (w) (.cells #[.int .u32 a, .int .i64 p, .slice A n c, .int .i64 sh, .int .i64 wo, .int .i64 qu, .int .i64 tr] 27)) (World.heap (w)).size 27 (#[.int .u32 a, .int .i64 p, .slice A n c, .int .i64 sh, .int .i64 wo, .int .i64 qu, .int .i64 tr]) := Bk.new _ _ _
  replace H := H.alloc (.cells (opv ⟨A0, n0, c0, A1, n1, c1, A2, n2, c2, A3, n3, c3⟩ ⟨kind, addr, err, aad, used, 4, shard, sought, (lf : Int), bit, word, false, 0, tries, item, stamp⟩) 38)
  replace K := Below.then_ K (below_alloc _ (.cells (opv ⟨A0, n0, c0, A1, n1, c1, A2, n2, c2, A3, n3, c3⟩ ⟨kind, addr, err, aad, used, 4, shard, sought, (lf : Int), bit, word, false, 0, tries, item, stamp⟩) 38))
  have O : Bk (World.alloc ((w).alloc (.cells #[.int .u32 a, .int .i64 p, .slice A n c, .int .i64 sh, .int .i64 wo, .int .i64 qu, .int .i64 tr] 27)) (.cells (opv ⟨A0, n0, c0, A1, n1, c1, A2, n2, c2, A3, n3, c3⟩ ⟨kind, addr, err, aad, used, 4, shard, sought, (lf : Int), bit, word, false, 0, tries, item, stamp⟩) 38)) (World.heap ((w).alloc (.cells #[.int .u32 a, .int .i64 p, .slice A n c, .int .i64 sh, .int .i64 wo, .int .i64 qu, .int .i64 tr] 27))).size 38 (opv ⟨A0, n0, c0, A1, n1, c1, A2, n2, c2, A3, n3, c3⟩ ⟨kind, addr, err, aad, used, 4, shard, sought, (lf : Int), bit, word, false, 0, tries, item, stamp⟩) := Bk.new _ _ _
  replace H := H.alloc (.cells #[.int .i64 0, .int .u32 0, .slice none 0 0, .int .i64 0, .int .u32 0, .bool false, .slice none 0 0, .slice none 0 0, .int .i64 0, .int .i64 0, .int .i64 0, .int .i64 0, .int .i64 0, .int .u64 0, .bool false, .slice none 0 0, .int .i64 0, .int .i64 0, .int .i64 0, .int .i64 0] 38)
  replace O := O.alloc (.cells #[.int .i64 0, .int .u32 0, .slice none 0 0, .int .i64 0, .int .u32 0, .bool false, .slice none 0 0, .slice none 0 0, .int .i64 0, .int .i64 0, .int .i64 0, .int .i64 0, .int .i64 0, .int .u64 0, .bool false, .slice none 0 0, .int .i64 0, .int .i64 0, .int .i64 0, .int .i64 0] 38)
  replace K := Below.then_ K (below_alloc _ (.cells #[.int .i64 0, .int .u32 0, .slice none 0 0, .int .i64 0, .int .u32 0, .bool false, .slice none 0 0, .slice none 0 0, .int .i64 0, .int .i64 0, .int .i64 0, .int .i64 0, .int .i64 0, .int .u64 0, .bool false, .slice none 0 0, .int .i64 0, .int .i64 0, .int .i64 0, .int .i64 0] 38))
  have R : Bk (World.alloc (((w).alloc (.cells #[.int .u32 a, .int .i64 p, .slice A n c, .int .i64 sh, .int .i64 wo, .int .i64 qu, .int .i64 tr] 27)).alloc (.cells (opv ⟨A0, n0, c0, A1, n1, c1, A2, n2, c2, A3, n3, c3⟩ ⟨kind, addr, err, aad, used, 4, shard, sought, (lf : Int), bit, word, false, 0, tries, item, stamp⟩) 38)) (.cells #[.int .i64 0, .int .u32 0, .slice none 0 0, .int .i64 0, .int .u32 0, .bool false, .slice none 0 0, .slice none 0 0, .int .i64 0, .int .i64 0, .int .i64 0, .int .i64 0, .int .i64 0, .int .u64 0, .bool false, .slice none 0 0, .int .i64 0, .int .i64 0, .int .i64 0, .int .i64 0] 38)) (World.heap (((w).alloc (.cells #[.int .u32 a, .int .i64 p, .slice A n c, .int .i64 sh, .int .i64 wo, .int .i64 qu, .int .i64 tr] 27)).alloc (.cells (opv ⟨A0, n0, c0, A1, n1, c1, A2, n2, c2, A3, n3, c3⟩ ⟨kind, addr, err, aad, used, 4, shard, sought, (lf : Int), bit, word, false, 0, tries, item, stamp⟩) 38))).size 38 (opv hd0 sc0) := Bk.new _ _ _
  try simp only [World.size_alloc] at H O R
  generalize (((w).alloc (.cells #[.int .u32 a, .int .i64 p, .slice A n c, .int .i64 sh, .int .i64 wo, .int .i64 qu, .int .i64 tr] 27)).alloc (.cells (opv ⟨A0, n0, c0, A1, n1, c1, A2, n2, c2, A3, n3, c3⟩ ⟨kind, addr, err, aad, used, 4, shard, sought, (lf : Int), bit, word, false, 0, tries, item, stamp⟩) 38)).alloc (.cells #[.int .i64 0, .int .u32 0, .slice none 0 0, .int .i64 0, .int .u32 0, .bool false, .slice none 0 0, .slice none 0 0, .int .i64 0, .int .i64 0, .int .i64 0, .int .i64 0, .int .i64 0, .int .u64 0, .bool false, .slice none 0 0, .int .i64 0, .int .i64 0, .int .i64 0, .int .i64 0] 38) = w1 at H O R K ⊢
  obtain ⟨gR, hgR⟩ : ∃ g, g = w.heap.size + 1 + 1 := ⟨_, rfl⟩
  rw [← hgR] at R ⊢
  obtain ⟨gO, hgO⟩ : ∃ g, g = w.heap.size + 1 := ⟨_, rfl⟩
  rw [← hgO] at O ⊢
  obtain ⟨gH, hgH⟩ : ∃ g, g = w.heap.size := ⟨_, rfl⟩
  rw [← hgH] at H ⊢
  have H_b : w.heap.size ≤ gH := by omega
  have O_b : w.heap.size ≤ gO := by omega
  have R_b : w.heap.size ≤ gR := by omega
  have ne_H_O : gH ≠ gO := by omega
  have ne_H_R : gH ≠ gR := by omega
  have ne_O_R : gO ≠ gR := by omega
  clear hgH hgO hgR
  have H_0 := H.at_ (v := .int .u32 a) 0 rfl
  have H_1 := H.at_ (v := .int .i64 p) 1 rfl
  have H_z := H.lt
  go_wp2_with fail
  refine (rmany_yes hM).mono ?_
  rintro e w2 ⟨rfl, K'⟩
  clear H_0 H_1 H_z
  replace H := H.below K'
  replace O := O.below K'
  replace R := R.below K'
  replace K := Below.then_ K K'
  clear K'
  have O_11 := O.at_ (v := .int .i64 (lf : Int)) 11 rfl
  have O_16 := O.at_ (v := .int .i64 0) 16 rfl
  have O_8 := O.at_ (v := .int .i64 4) 8 rfl
  have O_z := O.lt
  go_upto_region 6 with ((with_reducible refine ((TT _).out).mono ?_); rintro e w' ⟨rfl, rfl⟩)
  clear O_11 O_16 O_8 O_z
  have X := (K.cell (p := ⟨bb, oo + cl, none⟩) hbb).trans hcc
  have O_13 := O.at_ (v := .int .u64 ((word : Nat) : Int)) 13 rfl
  have O_z := O.lt
  have O_f13 := O.fz 13
  go_upto_region 7 with (fail)
  replace H := H.far (p := ⟨gO, 13, none⟩) ne_H_O (.int .u64 (x : Nat))
  replace R := R.far (p := ⟨gO, 13, none⟩) (Ne.symm ne_O_R) (.int .u64 (x : Nat))
  replace O := O.set_ 13 (.int .u64 (x : Nat))
  replace K := K.setCell (p := ⟨gO, 13, none⟩) O_b (.int .u64 (x : Nat))
  replace O : Bk ((w2).setCell ⟨gO, 13, none⟩ (.int .u64 (x : Nat))) gO 38 (opv ⟨A0, n0, c0, A1, n1, c1, A2, n2, c2, A3, n3, c3⟩ ⟨kind, addr, err, aad, used, 4, shard, sought, (lf : Int), bit, x, false, 0, tries, item, stamp⟩) := O
  clear O_13 O_z O_f13 X
  generalize (w2).setCell ⟨gO, 13, none⟩ (.int .u64 (x : Nat)) = w3 at H O R K ⊢
  refine wp_region_held_drew (S := fun w' => Below w.heap.size w w' ∧ Bk w' gH 27 (#[.int .u32 a, .int .i64 p, .slice A n c, .int .i64 sh, .int .i64 wo, .int .i64 qu, .int .i64 tr]) ∧ Bk w' gO 38 (opv ⟨A0, n0, c0, A1, n1, c1, A2, n2, c2, A3, n3, c3⟩ ⟨kind, addr, err, aad, used, 4, shard, sought, (lf : Int), bit, x, false, 0, tries, item, stamp⟩) ∧ Bk w' gR 38 (opv hd0 sc0) ∧ True) (by kernel_rfl) ⟨K.drew, H.below ((Below.refl _ _).drew), O.below ((Below.refl _ _).drew), R.below ((Below.refl _ _).drew), trivial⟩ (fun hHeld => ?_)
  generalize w3.drew = v4 at hHeld ⊢
  refine wpAnyH_take (i := 0) (oi := ⟨some 40, _, _, _, _, _⟩) (v := ?_) rfl (by kernel_rfl) (by kernel_rfl) (by kernel_rfl) (fun _ _ _ h => h) (Or.inl ⟨by rfl, ?_⟩) hHeld ?_
  rotate_left
  · intro ww hSw
    try dsimp only at hSw
    go_simp
    try with_reducible rfl
    try omega
  try simp only [Act.put, List.setIfInBounds_toArray, List.set_cons_zero, List.set_cons_succ]
  refine wpAnyH_take (i := 1) (oi := ⟨some 41, _, _, _, _, _⟩) (v := .int .u64 (x : Nat)) rfl (by kernel_rfl) (by kernel_rfl) (by kernel_rfl) (fun _ _ _ h => h) (Or.inl ⟨by rfl, ?_⟩) hHeld ?_
  · intro ww hSw
    try dsimp only at hSw
    have O_13 := hSw.2.2.1.at_ (v := .int .u64 (x : Nat)) 13 rfl
    have O_14 := hSw.2.2.1.at_ (v := .bool false) 14 rfl
    go_simp
    try with_reducible rfl
    try omega
  try simp only [Act.put, List.setIfInBounds_toArray, List.set_cons_zero, List.set_cons_succ]
  refine wpAnyH_take (i := 2) (oi := ⟨some 42, _, _, _, _, _⟩) (v := ?_) rfl (by kernel_rfl) (by kernel_rfl) (by kernel_rfl) (fun _ _ _ h => h) (Or.inl ⟨by rfl, ?_⟩) hHeld ?_
  rotate_left
  · intro ww hSw
    try dsimp only at hSw
    go_simp
    try with_reducible rfl
    try omega
  try simp only [Act.put, List.setIfInBounds_toArray, List.set_cons_zero, List.set_cons_succ]
  refine wpAnyH_take (i := 4) (oi := ⟨some 44, _, _, _, _, _⟩) (v := ?_) rfl (by kernel_rfl) (by kernel_rfl) (by kernel_rfl) (fun _ _ _ h => h) (Or.inl ⟨by rfl, ?_⟩) hHeld ?_
  rotate_left
  · intro ww hSw
    try dsimp only at hSw
    go_simp
    try with_reducible rfl
    try omega
  try simp only [Act.put, List.setIfInBounds_toArray, List.set_cons_zero, List.set_cons_succ]
  refine wpAnyH_take (i := 5) (oi := ⟨some 45, _, _, _, _, _⟩) (v := .bool false) rfl (by kernel_rfl) (by kernel_rfl) (by kernel_rfl) (fun _ _ _ h => h) (Or.inl ⟨by rfl, ?_⟩) hHeld ?_
  · intro ww hSw
    try dsimp only at hSw
    have O_13 := hSw.2.2.1.at_ (v := .int .u64 (x : Nat)) 13 rfl
    have O_14 := hSw.2.2.1.at_ (v := .bool false) 14 rfl
    go_simp
    try with_reducible rfl
    try omega
  try simp only [Act.put, List.setIfInBounds_toArray, List.set_cons_zero, List.set_cons_succ]
  refine wpAnyH_ready (rs := [3]) (by kernel_rfl) (by simp) ?_
  refine AllReadyH.cons (o := ⟨some 43, _, _, _, _, _⟩) rfl (fun K0 hK => ?_) AllReadyH.nil
  go_simp
  refine ((TH _).out).mono ?_
  rintro e _ ⟨rfl, rfl⟩
  refine hK.out _ _ hHeld (fun hHeld' => ?_)
  clear hHeld hK K0
  have hHeld := hHeld'
  clear hHeld'
  try simp only [Act.put, List.setIfInBounds_toArray, List.set_cons_zero, List.set_cons_succ]
  refine wpAnyH_take (i := 6) (oi := ⟨some 46, _, _, _, _, _⟩) (v := .bool true) rfl (by kernel_rfl) (by kernel_rfl) (by kernel_rfl) (fun _ _ _ h => h) (Or.inl ⟨by rfl, ?_⟩) hHeld ?_
  · intro ww hSw
    try dsimp only at hSw
    go_simp
    try with_reducible rfl
    try omega
  try simp only [Act.put, List.setIfInBounds_toArray, List.set_cons_zero, List.set_cons_succ]
  refine wpAnyH_done (by kernel_rfl) ?_ _
  replace K := hHeld.1
  replace H := hHeld.2.1
  replace O := hHeld.2.2.1
  replace R := hHeld.2.2.2.1
  clear hHeld
  have O_8 := O.at_ (v := .int .i64 4) 8 rfl
  have O_z := O.lt
  have O_f8 := O.fz 8
  go_upto_region 9 with (fail)
  replace H := H.far (p := ⟨gO, 8, none⟩) ne_H_O (.int .i64 5)
  replace R := R.far (p := ⟨gO, 8, none⟩) (Ne.symm ne_O_R) (.int .i64 5)
  replace O := O.set_ 8 (.int .i64 5)
  replace K := K.setCell (p := ⟨gO, 8, none⟩) O_b (.int .i64 5)
  replace O : Bk ((v4).setCell ⟨gO, 8, none⟩ (.int .i64 5)) gO 38 (opv ⟨A0, n0, c0, A1, n1, c1, A2, n2, c2, A3, n3, c3⟩ ⟨kind, addr, err, aad, used, 5, shard, sought, (lf : Int), bit, x, false, 0, tries, item, stamp⟩) := O
  clear O_8 O_z O_f8
  generalize (v4).setCell ⟨gO, 8, none⟩ (.int .i64 5) = w5 at H O R K ⊢
  refine wp_region_held_drew (S := fun w' => Below w.heap.size w w' ∧ Bk w' gH 27 (#[.int .u32 a, .int .i64 p, .slice A n c, .int .i64 sh, .int .i64 wo, .int .i64 qu, .int .i64 tr]) ∧ Bk w' gO 38 (opv ⟨A0, n0, c0, A1, n1, c1, A2, n2, c2, A3, n3, c3⟩ ⟨kind, addr, err, aad, used, 5, shard, sought, (lf : Int), bit, x, false, 0, tries, item, stamp⟩) ∧ (∃ v : Array Value, v.size = 20 ∧ Bk w' gR 38 v) ∧ True) (by kernel_rfl) ⟨K.drew, H.below ((Below.refl _ _).drew), O.below ((Below.refl _ _).drew), ⟨_, rfl, R.below ((Below.refl _ _).drew)⟩, trivial⟩ (fun hHeld => ?_)
  generalize w5.drew = v6 at hHeld ⊢
  refine wpAnyH_take (i := 0) (oi := ⟨some 48, _, _, _, _, _⟩) (v := ?_) rfl (by kernel_rfl) (by kernel_rfl) (by kernel_rfl) (fun _ _ _ h => h) (Or.inl ⟨by rfl, ?_⟩) hHeld ?_
  rotate_left
  · intro ww hSw
    try dsimp only at hSw
    go_simp
    try with_reducible rfl
    try omega
  try simp only [Act.put, List.setIfInBounds_toArray, List.set_cons_zero, List.set_cons_succ]
  refine wpAnyH_take (i := 1) (oi := ⟨some 49, _, _, _, _, _⟩) (v := .agg (opv ⟨A0, n0, c0, A1, n1, c1, A2, n2, c2, A3, n3, c3⟩ ⟨kind, addr, err, aad, used, 5, shard, sought, (lf : Int), bit, x, false, 0, tries, item, stamp⟩)) rfl (by kernel_rfl) (by kernel_rfl) (by kernel_rfl) (fun _ _ _ h => h) (yieldsIf_load_row (by rfl) 38 (.tmp 5) rfl gO rfl 38 _ (0, 0) _ (fun _ hS => hS.2.2.1) Try.underlying38 rfl op_sz) hHeld ?_
  try simp only [Act.put, List.setIfInBounds_toArray, List.set_cons_zero, List.set_cons_succ]
  refine wpAnyH_take (i := 2) (oi := ⟨some 6, _, _, _, _, _⟩) (v := ?_) rfl (by kernel_rfl) (by kernel_rfl) (by kernel_rfl) (fun _ _ _ h => h) (Or.inl ⟨by rfl, ?_⟩) hHeld ?_
  rotate_left
  · intro ww hSw
    try dsimp only at hSw
    go_simp
    try with_reducible rfl
    try omega
  try simp only [Act.put, List.setIfInBounds_toArray, List.set_cons_zero, List.set_cons_succ]
  refine wpAnyH_ready (rs := [3]) (by kernel_rfl) (by simp) ?_
  refine AllReadyH.cons (o := ⟨none, _, _, _, _, _⟩) rfl (fun K0 hK => ?_) AllReadyH.nil
  rw [if_pos (by rfl)]
  refine wp_store_row 38 (.tmp 7) (.tmp 49) rfl gR _ rfl rfl _ _ hHeld.2.2.2.1.choose_spec.2 op_sz hHeld.2.2.2.1.choose_spec.1 (opv_one _ _) ?_
  have new_R := Bk.row hHeld.2.2.2.1.choose_spec.2 (opv ⟨A0, n0, c0, A1, n1, c1, A2, n2, c2, A3, n3, c3⟩ ⟨kind, addr, err, aad, used, 5, shard, sought, (lf : Int), bit, x, false, 0, tries, item, stamp⟩)
  refine hK.out _ _ ⟨below_setRow hHeld.1 R_b _, hHeld.2.1.row_far ne_H_R _, hHeld.2.2.1.row_far ne_O_R _, ⟨_, rfl, new_R⟩, trivial⟩ (fun hHeld' => ?_)
  clear hHeld hK K0
  have hHeld := hHeld'
  clear hHeld'
  generalize v6.setRow gR (opv ⟨A0, n0, c0, A1, n1, c1, A2, n2, c2, A3, n3, c3⟩ ⟨kind, addr, err, aad, used, 5, shard, sought, (lf : Int), bit, x, false, 0, tries, item, stamp⟩) = v7 at hHeld new_R  ⊢
  try simp only [Act.put]
  refine wpAnyH_done (by kernel_rfl) ?_ _
  replace K := hHeld.1
  replace H := hHeld.2.1
  replace O := hHeld.2.2.1
  replace R := new_R
  clear new_R
  clear hHeld
  go_wp2
  refine bodyPost_ret (v := .tuple #[.slice (some ⟨bb, oo, none⟩) m d, .agg (opv ⟨A0, n0, c0, A1, n1, c1, A2, n2, c2, A3, n3, c3⟩ ⟨kind, addr, err, aad, used, 5, shard, sought, (lf : Int), bit, x, false, 0, tries, item, stamp⟩)]) ?_ rfl ?_
  · exact results_tc (fn := Try.f18) Try.results18 _ _ gR _ _ (0, 0) _ rfl R Try.underlying38 rfl op_sz
  exact ⟨_, _, rfl, hU.below K, K⟩
set_option maxRecDepth 100000 in
set_option maxHeartbeats 2000000 in
theorem rs4_0f_y (ha : a < 4294967296) (hM : Much a p M) (hn : h.n0 ≤ 65536) (hI : IS .u32 lo w h.A0 h.n0 h.c0 xs) (hin : InB a M h.n0 xs) (hU : US w B m d ys) (hm : m ≤ 65536) (hi1 : 0 ≤ s.item) (hi2 : s.item ≤ 65536) (hlf : s.leaf = (lf : Int)) (hlv : lf < lv M) (hcm : cl < m) (hb2 : b < 64) (hw : s.word < 18446744073709551616) (hcl : cl = lv M + lf / 64) (hb : b = lf % 64) (hat : s.at_ = 0) (hfu : s.full = false) (hph : s.phase = 4) (hbit : (gt ys cl).testBit b = false) :
    Calls Try.prog 18 #[.agg #[.int .u32 a, .int .i64 p, .slice A n c, .int .i64 sh, .int .i64 wo, .int .i64 qu, .int .i64 tr], .slice B m d, .agg (opv h s)] w (RetRef h (root_ (worded s (gt ys cl))) m ys w) := by
  have hl3 := lv_le hM.most
  have TT := fun w => Lib.hid (rtop_any M lf hM.most (by omega) w)
  rw [← hcl, ← hb] at TT
  obtain ⟨bb, oo, rfl, hbb, hcc⟩ := hU.get hcm
  have TH := fun w => Lib.hid (rhas_any (gt ys cl) b (gt_lt hU.fit cl) hb2 w)
  rw [hbit] at TH
  clear hbit
  obtain ⟨x, hx⟩ : ∃ x, x = gt ys cl := ⟨_, rfl⟩
  rw [← hx] at hcc TH ⊢
  clear hx
  have hcm2 : (cl : Int) < (m : Int) := by omega
  clear hcl hb
  rcases s with ⟨kind, addr, err, aad, used, phase, shard, sought, leaf, bit, word, full, at_, tries, item, stamp⟩
  rcases h with ⟨A0, n0, c0, A1, n1, c1, A2, n2, c2, A3, n3, c3⟩
  dsimp only at *
  subst hlf hat hph hfu
  go_enter Try.func18, Try.ntmps18
  go_upto_region 1 with (fail)
  have K := below_alloc w (.cells #[.int .u32 a, .int .i64 p, .slice A n c, .int .i64 sh, .int .i64 wo, .int .i64 qu, .int .i64 tr] 27)
  have H : Bk (World.alloc (w) (.cells #[.int .u32 a, .int .i64 p, .slice A n c, .int .i64 sh, .int .i64 wo, .int .i64 qu, .int .i64 tr] 27)) (World.heap (w)).size 27 (#[.int .u32 a, .int .i64 p, .slice A n c, .int .i64 sh, .int .i64 wo, .int .i64 qu, .int .i64 tr]) := Bk.new _ _ _
  replace H := H.alloc (.cells (opv ⟨A0, n0, c0, A1, n1, c1, A2, n2, c2, A3, n3, c3⟩ ⟨kind, addr, err, aad, used, 4, shard, sought, (lf : Int), bit, word, false, 0, tries, item, stamp⟩) 38)
  replace K := Below.then_ K (below_alloc _ (.cells (opv ⟨A0, n0, c0, A1, n1, c1, A2, n2, c2, A3, n3, c3⟩ ⟨kind, addr, err, aad, used, 4, shard, sought, (lf : Int), bit, word, false, 0, tries, item, stamp⟩) 38))
  have O : Bk (World.alloc ((w).alloc (.cells #[.int .u32 a, .int .i64 p, .slice A n c, .int .i64 sh, .int .i64 wo, .int .i64 qu, .int .i64 tr] 27)) (.cells (opv ⟨A0, n0, c0, A1, n1, c1, A2, n2, c2, A3, n3, c3⟩ ⟨kind, addr, err, aad, used, 4, shard, sought, (lf : Int), bit, word, false, 0, tries, item, stamp⟩) 38)) (World.heap ((w).alloc (.cells #[.int .u32 a, .int .i64 p, .slice A n c, .int .i64 sh, .int .i64 wo, .int .i64 qu, .int .i64 tr] 27))).size 38 (opv ⟨A0, n0, c0, A1, n1, c1, A2, n2, c2, A3, n3, c3⟩ ⟨kind, addr, err, aad, used, 4, shard, sought, (lf : Int), bit, word, false, 0, tries, item, stamp⟩) := Bk.new _ _ _
  replace H := H.alloc (.cells #[.int .i64 0, .int .u32 0, .slice none 0 0, .int .i64 0, .int .u32 0, .bool false, .slice none 0 0, .slice none 0 0, .int .i64 0, .int .i64 0, .int .i64 0, .int .i64 0, .int .i64 0, .int .u64 0, .bool false, .slice none 0 0, .int .i64 0, .int .i64 0, .int .i64 0, .int .i64 0] 38)
  replace O := O.alloc (.cells #[.int .i64 0, .int .u32 0, .slice none 0 0, .int .i64 0, .int .u32 0, .bool false, .slice none 0 0, .slice none 0 0, .int .i64 0, .int .i64 0, .int .i64 0, .int .i64 0, .int .i64 0, .int .u64 0, .bool false, .slice none 0 0, .int .i64 0, .int .i64 0, .int .i64 0, .int .i64 0] 38)
  replace K := Below.then_ K (below_alloc _ (.cells #[.int .i64 0, .int .u32 0, .slice none 0 0, .int .i64 0, .int .u32 0, .bool false, .slice none 0 0, .slice none 0 0, .int .i64 0, .int .i64 0, .int .i64 0, .int .i64 0, .int .i64 0, .int .u64 0, .bool false, .slice none 0 0, .int .i64 0, .int .i64 0, .int .i64 0, .int .i64 0] 38))
  have R : Bk (World.alloc (((w).alloc (.cells #[.int .u32 a, .int .i64 p, .slice A n c, .int .i64 sh, .int .i64 wo, .int .i64 qu, .int .i64 tr] 27)).alloc (.cells (opv ⟨A0, n0, c0, A1, n1, c1, A2, n2, c2, A3, n3, c3⟩ ⟨kind, addr, err, aad, used, 4, shard, sought, (lf : Int), bit, word, false, 0, tries, item, stamp⟩) 38)) (.cells #[.int .i64 0, .int .u32 0, .slice none 0 0, .int .i64 0, .int .u32 0, .bool false, .slice none 0 0, .slice none 0 0, .int .i64 0, .int .i64 0, .int .i64 0, .int .i64 0, .int .i64 0, .int .u64 0, .bool false, .slice none 0 0, .int .i64 0, .int .i64 0, .int .i64 0, .int .i64 0] 38)) (World.heap (((w).alloc (.cells #[.int .u32 a, .int .i64 p, .slice A n c, .int .i64 sh, .int .i64 wo, .int .i64 qu, .int .i64 tr] 27)).alloc (.cells (opv ⟨A0, n0, c0, A1, n1, c1, A2, n2, c2, A3, n3, c3⟩ ⟨kind, addr, err, aad, used, 4, shard, sought, (lf : Int), bit, word, false, 0, tries, item, stamp⟩) 38))).size 38 (opv hd0 sc0) := Bk.new _ _ _
  try simp only [World.size_alloc] at H O R
  generalize (((w).alloc (.cells #[.int .u32 a, .int .i64 p, .slice A n c, .int .i64 sh, .int .i64 wo, .int .i64 qu, .int .i64 tr] 27)).alloc (.cells (opv ⟨A0, n0, c0, A1, n1, c1, A2, n2, c2, A3, n3, c3⟩ ⟨kind, addr, err, aad, used, 4, shard, sought, (lf : Int), bit, word, false, 0, tries, item, stamp⟩) 38)).alloc (.cells #[.int .i64 0, .int .u32 0, .slice none 0 0, .int .i64 0, .int .u32 0, .bool false, .slice none 0 0, .slice none 0 0, .int .i64 0, .int .i64 0, .int .i64 0, .int .i64 0, .int .i64 0, .int .u64 0, .bool false, .slice none 0 0, .int .i64 0, .int .i64 0, .int .i64 0, .int .i64 0] 38) = w1 at H O R K ⊢
  obtain ⟨gR, hgR⟩ : ∃ g, g = w.heap.size + 1 + 1 := ⟨_, rfl⟩
  rw [← hgR] at R ⊢
  obtain ⟨gO, hgO⟩ : ∃ g, g = w.heap.size + 1 := ⟨_, rfl⟩
  rw [← hgO] at O ⊢
  obtain ⟨gH, hgH⟩ : ∃ g, g = w.heap.size := ⟨_, rfl⟩
  rw [← hgH] at H ⊢
  have H_b : w.heap.size ≤ gH := by omega
  have O_b : w.heap.size ≤ gO := by omega
  have R_b : w.heap.size ≤ gR := by omega
  have ne_H_O : gH ≠ gO := by omega
  have ne_H_R : gH ≠ gR := by omega
  have ne_O_R : gO ≠ gR := by omega
  clear hgH hgO hgR
  have H_0 := H.at_ (v := .int .u32 a) 0 rfl
  have H_1 := H.at_ (v := .int .i64 p) 1 rfl
  have H_z := H.lt
  go_wp2_with fail
  refine (rmany_yes hM).mono ?_
  rintro e w2 ⟨rfl, K'⟩
  clear H_0 H_1 H_z
  replace H := H.below K'
  replace O := O.below K'
  replace R := R.below K'
  replace K := Below.then_ K K'
  clear K'
  have O_11 := O.at_ (v := .int .i64 (lf : Int)) 11 rfl
  have O_16 := O.at_ (v := .int .i64 0) 16 rfl
  have O_8 := O.at_ (v := .int .i64 4) 8 rfl
  have O_z := O.lt
  go_upto_region 6 with ((with_reducible refine ((TT _).out).mono ?_); rintro e w' ⟨rfl, rfl⟩)
  clear O_11 O_16 O_8 O_z
  have X := (K.cell (p := ⟨bb, oo + cl, none⟩) hbb).trans hcc
  have O_13 := O.at_ (v := .int .u64 ((word : Nat) : Int)) 13 rfl
  have O_z := O.lt
  have O_f13 := O.fz 13
  go_upto_region 7 with (fail)
  replace H := H.far (p := ⟨gO, 13, none⟩) ne_H_O (.int .u64 (x : Nat))
  replace R := R.far (p := ⟨gO, 13, none⟩) (Ne.symm ne_O_R) (.int .u64 (x : Nat))
  replace O := O.set_ 13 (.int .u64 (x : Nat))
  replace K := K.setCell (p := ⟨gO, 13, none⟩) O_b (.int .u64 (x : Nat))
  replace O : Bk ((w2).setCell ⟨gO, 13, none⟩ (.int .u64 (x : Nat))) gO 38 (opv ⟨A0, n0, c0, A1, n1, c1, A2, n2, c2, A3, n3, c3⟩ ⟨kind, addr, err, aad, used, 4, shard, sought, (lf : Int), bit, x, false, 0, tries, item, stamp⟩) := O
  clear O_13 O_z O_f13 X
  generalize (w2).setCell ⟨gO, 13, none⟩ (.int .u64 (x : Nat)) = w3 at H O R K ⊢
  refine wp_region_held_drew (S := fun w' => Below w.heap.size w w' ∧ Bk w' gH 27 (#[.int .u32 a, .int .i64 p, .slice A n c, .int .i64 sh, .int .i64 wo, .int .i64 qu, .int .i64 tr]) ∧ Bk w' gO 38 (opv ⟨A0, n0, c0, A1, n1, c1, A2, n2, c2, A3, n3, c3⟩ ⟨kind, addr, err, aad, used, 4, shard, sought, (lf : Int), bit, x, false, 0, tries, item, stamp⟩) ∧ Bk w' gR 38 (opv hd0 sc0) ∧ True) (by kernel_rfl) ⟨K.drew, H.below ((Below.refl _ _).drew), O.below ((Below.refl _ _).drew), R.below ((Below.refl _ _).drew), trivial⟩ (fun hHeld => ?_)
  generalize w3.drew = v4 at hHeld ⊢
  refine wpAnyH_take (i := 0) (oi := ⟨some 40, _, _, _, _, _⟩) (v := ?_) rfl (by kernel_rfl) (by kernel_rfl) (by kernel_rfl) (fun _ _ _ h => h) (Or.inl ⟨by rfl, ?_⟩) hHeld ?_
  rotate_left
  · intro ww hSw
    try dsimp only at hSw
    go_simp
    try with_reducible rfl
    try omega
  try simp only [Act.put, List.setIfInBounds_toArray, List.set_cons_zero, List.set_cons_succ]
  refine wpAnyH_take (i := 1) (oi := ⟨some 41, _, _, _, _, _⟩) (v := .int .u64 (x : Nat)) rfl (by kernel_rfl) (by kernel_rfl) (by kernel_rfl) (fun _ _ _ h => h) (Or.inl ⟨by rfl, ?_⟩) hHeld ?_
  · intro ww hSw
    try dsimp only at hSw
    have O_13 := hSw.2.2.1.at_ (v := .int .u64 (x : Nat)) 13 rfl
    have O_14 := hSw.2.2.1.at_ (v := .bool false) 14 rfl
    go_simp
    try with_reducible rfl
    try omega
  try simp only [Act.put, List.setIfInBounds_toArray, List.set_cons_zero, List.set_cons_succ]
  refine wpAnyH_take (i := 2) (oi := ⟨some 42, _, _, _, _, _⟩) (v := ?_) rfl (by kernel_rfl) (by kernel_rfl) (by kernel_rfl) (fun _ _ _ h => h) (Or.inl ⟨by rfl, ?_⟩) hHeld ?_
  rotate_left
  · intro ww hSw
    try dsimp only at hSw
    go_simp
    try with_reducible rfl
    try omega
  try simp only [Act.put, List.setIfInBounds_toArray, List.set_cons_zero, List.set_cons_succ]
  refine wpAnyH_take (i := 4) (oi := ⟨some 44, _, _, _, _, _⟩) (v := ?_) rfl (by kernel_rfl) (by kernel_rfl) (by kernel_rfl) (fun _ _ _ h => h) (Or.inl ⟨by rfl, ?_⟩) hHeld ?_
  rotate_left
  · intro ww hSw
    try dsimp only at hSw
    go_simp
    try with_reducible rfl
    try omega
  try simp only [Act.put, List.setIfInBounds_toArray, List.set_cons_zero, List.set_cons_succ]
  refine wpAnyH_take (i := 5) (oi := ⟨some 45, _, _, _, _, _⟩) (v := .bool false) rfl (by kernel_rfl) (by kernel_rfl) (by kernel_rfl) (fun _ _ _ h => h) (Or.inl ⟨by rfl, ?_⟩) hHeld ?_
  · intro ww hSw
    try dsimp only at hSw
    have O_13 := hSw.2.2.1.at_ (v := .int .u64 (x : Nat)) 13 rfl
    have O_14 := hSw.2.2.1.at_ (v := .bool false) 14 rfl
    go_simp
    try with_reducible rfl
    try omega
  try simp only [Act.put, List.setIfInBounds_toArray, List.set_cons_zero, List.set_cons_succ]
  refine wpAnyH_ready (rs := [3]) (by kernel_rfl) (by simp) ?_
  refine AllReadyH.cons (o := ⟨some 43, _, _, _, _, _⟩) rfl (fun K0 hK => ?_) AllReadyH.nil
  go_simp
  refine ((TH _).out).mono ?_
  rintro e _ ⟨rfl, rfl⟩
  refine hK.out _ _ hHeld (fun hHeld' => ?_)
  clear hHeld hK K0
  have hHeld := hHeld'
  clear hHeld'
  try simp only [Act.put, List.setIfInBounds_toArray, List.set_cons_zero, List.set_cons_succ]
  refine wpAnyH_take (i := 6) (oi := ⟨some 46, _, _, _, _, _⟩) (v := .bool false) rfl (by kernel_rfl) (by kernel_rfl) (by kernel_rfl) (fun _ _ _ h => h) (Or.inl ⟨by rfl, ?_⟩) hHeld ?_
  · intro ww hSw
    try dsimp only at hSw
    go_simp
    try with_reducible rfl
    try omega
  try simp only [Act.put, List.setIfInBounds_toArray, List.set_cons_zero, List.set_cons_succ]
  refine wpAnyH_done (by kernel_rfl) ?_ _
  replace K := hHeld.1
  replace H := hHeld.2.1
  replace O := hHeld.2.2.1
  replace R := hHeld.2.2.2.1
  clear hHeld
  have O_16 := O.at_ (v := .int .i64 0) 16 rfl
  have O_14 := O.at_ (v := .bool false) 14 rfl
  have O_13 := O.at_ (v := .int .u64 (x : Nat)) 13 rfl
  have O_z := O.lt
  have O_f16 := O.fz 16
  go_upto_region 19 with (fail)
  replace H := H.far (p := ⟨gO, 16, none⟩) ne_H_O (.int .i64 1)
  replace R := R.far (p := ⟨gO, 16, none⟩) (Ne.symm ne_O_R) (.int .i64 1)
  replace O := O.set_ 16 (.int .i64 1)
  replace K := K.setCell (p := ⟨gO, 16, none⟩) O_b (.int .i64 1)
  replace O : Bk ((v4).setCell ⟨gO, 16, none⟩ (.int .i64 1)) gO 38 (opv ⟨A0, n0, c0, A1, n1, c1, A2, n2, c2, A3, n3, c3⟩ ⟨kind, addr, err, aad, used, 4, shard, sought, (lf : Int), bit, x, false, 1, tries, item, stamp⟩) := O
  clear O_16 O_14 O_13 O_z O_f16
  generalize (v4).setCell ⟨gO, 16, none⟩ (.int .i64 1) = w5 at H O R K ⊢
  have O_8 := O.at_ (v := .int .i64 4) 8 rfl
  have O_z := O.lt
  have O_f8 := O.fz 8
  go_upto_region 20 with (fail)
  replace H := H.far (p := ⟨gO, 8, none⟩) ne_H_O (.int .i64 4)
  replace R := R.far (p := ⟨gO, 8, none⟩) (Ne.symm ne_O_R) (.int .i64 4)
  replace O := O.set_ 8 (.int .i64 4)
  replace K := K.setCell (p := ⟨gO, 8, none⟩) O_b (.int .i64 4)
  replace O : Bk ((w5).setCell ⟨gO, 8, none⟩ (.int .i64 4)) gO 38 (opv ⟨A0, n0, c0, A1, n1, c1, A2, n2, c2, A3, n3, c3⟩ ⟨kind, addr, err, aad, used, 4, shard, sought, (lf : Int), bit, x, false, 1, tries, item, stamp⟩) := O
  clear O_8 O_z O_f8
  generalize (w5).setCell ⟨gO, 8, none⟩ (.int .i64 4) = w6 at H O R K ⊢
  refine wp_region_held_drew (S := fun w' => Below w.heap.size w w' ∧ Bk w' gH 27 (#[.int .u32 a, .int .i64 p, .slice A n c, .int .i64 sh, .int .i64 wo, .int .i64 qu, .int .i64 tr]) ∧ Bk w' gO 38 (opv ⟨A0, n0, c0, A1, n1, c1, A2, n2, c2, A3, n3, c3⟩ ⟨kind, addr, err, aad, used, 4, shard, sought, (lf : Int), bit, x, false, 1, tries, item, stamp⟩) ∧ (∃ v : Array Value, v.size = 20 ∧ Bk w' gR 38 v) ∧ True) (by kernel_rfl) ⟨K.drew, H.below ((Below.refl _ _).drew), O.below ((Below.refl _ _).drew), ⟨_, rfl, R.below ((Below.refl _ _).drew)⟩, trivial⟩ (fun hHeld => ?_)
  generalize w6.drew = v7 at hHeld ⊢
  refine wpAnyH_take (i := 0) (oi := ⟨some 91, _, _, _, _, _⟩) (v := ?_) rfl (by kernel_rfl) (by kernel_rfl) (by kernel_rfl) (fun _ _ _ h => h) (Or.inl ⟨by rfl, ?_⟩) hHeld ?_
  rotate_left
  · intro ww hSw
    try dsimp only at hSw
    go_simp
    try with_reducible rfl
    try omega
  try simp only [Act.put, List.setIfInBounds_toArray, List.set_cons_zero, List.set_cons_succ]
  refine wpAnyH_take (i := 1) (oi := ⟨some 92, _, _, _, _, _⟩) (v := .agg (opv ⟨A0, n0, c0, A1, n1, c1, A2, n2, c2, A3, n3, c3⟩ ⟨kind, addr, err, aad, used, 4, shard, sought, (lf : Int), bit, x, false, 1, tries, item, stamp⟩)) rfl (by kernel_rfl) (by kernel_rfl) (by kernel_rfl) (fun _ _ _ h => h) (yieldsIf_load_row (by rfl) 38 (.tmp 5) rfl gO rfl 38 _ (0, 0) _ (fun _ hS => hS.2.2.1) Try.underlying38 rfl op_sz) hHeld ?_
  try simp only [Act.put, List.setIfInBounds_toArray, List.set_cons_zero, List.set_cons_succ]
  refine wpAnyH_take (i := 2) (oi := ⟨some 6, _, _, _, _, _⟩) (v := ?_) rfl (by kernel_rfl) (by kernel_rfl) (by kernel_rfl) (fun _ _ _ h => h) (Or.inl ⟨by rfl, ?_⟩) hHeld ?_
  rotate_left
  · intro ww hSw
    try dsimp only at hSw
    go_simp
    try with_reducible rfl
    try omega
  try simp only [Act.put, List.setIfInBounds_toArray, List.set_cons_zero, List.set_cons_succ]
  refine wpAnyH_ready (rs := [3]) (by kernel_rfl) (by simp) ?_
  refine AllReadyH.cons (o := ⟨none, _, _, _, _, _⟩) rfl (fun K0 hK => ?_) AllReadyH.nil
  rw [if_pos (by rfl)]
  refine wp_store_row 38 (.tmp 7) (.tmp 92) rfl gR _ rfl rfl _ _ hHeld.2.2.2.1.choose_spec.2 op_sz hHeld.2.2.2.1.choose_spec.1 (opv_one _ _) ?_
  have new_R := Bk.row hHeld.2.2.2.1.choose_spec.2 (opv ⟨A0, n0, c0, A1, n1, c1, A2, n2, c2, A3, n3, c3⟩ ⟨kind, addr, err, aad, used, 4, shard, sought, (lf : Int), bit, x, false, 1, tries, item, stamp⟩)
  refine hK.out _ _ ⟨below_setRow hHeld.1 R_b _, hHeld.2.1.row_far ne_H_R _, hHeld.2.2.1.row_far ne_O_R _, ⟨_, rfl, new_R⟩, trivial⟩ (fun hHeld' => ?_)
  clear hHeld hK K0
  have hHeld := hHeld'
  clear hHeld'
  generalize v7.setRow gR (opv ⟨A0, n0, c0, A1, n1, c1, A2, n2, c2, A3, n3, c3⟩ ⟨kind, addr, err, aad, used, 4, shard, sought, (lf : Int), bit, x, false, 1, tries, item, stamp⟩) = v8 at hHeld new_R  ⊢
  try simp only [Act.put]
  refine wpAnyH_done (by kernel_rfl) ?_ _
  replace K := hHeld.1
  replace H := hHeld.2.1
  replace O := hHeld.2.2.1
  replace R := new_R
  clear new_R
  clear hHeld
  go_wp2
  refine bodyPost_ret (v := .tuple #[.slice (some ⟨bb, oo, none⟩) m d, .agg (opv ⟨A0, n0, c0, A1, n1, c1, A2, n2, c2, A3, n3, c3⟩ ⟨kind, addr, err, aad, used, 4, shard, sought, (lf : Int), bit, x, false, 1, tries, item, stamp⟩)]) ?_ rfl ?_
  · exact results_tc (fn := Try.f18) Try.results18 _ _ gR _ _ (0, 0) _ rfl R Try.underlying38 rfl op_sz
  exact ⟨_, _, rfl, hU.below K, K⟩
set_option maxRecDepth 100000 in
set_option maxHeartbeats 2000000 in
theorem rs4_1t_n (ha : a < 4294967296) (hM : Much a p M) (hn : h.n0 ≤ 65536) (hI : IS .u32 lo w h.A0 h.n0 h.c0 xs) (hin : InB a M h.n0 xs) (hU : US w B m d ys) (hm : m ≤ 65536) (hi1 : 0 ≤ s.item) (hi2 : s.item ≤ 65536) (hlf : s.leaf = (lf : Int)) (hlv : lf < lv M) (hcm : cl < m) (hb2 : b < 64) (hw : s.word < 18446744073709551616) (hcl : cl = lv M + tv M) (hb : b = lf / 64) (hat : s.at_ = 1) (hfu : s.full = true) (hph : s.phase = 4) (hbit : (gt ys cl).testBit b = false) :
    Calls Try.prog 18 #[.agg #[.int .u32 a, .int .i64 p, .slice A n c, .int .i64 sh, .int .i64 wo, .int .i64 qu, .int .i64 tr], .slice B m d, .agg (opv h s)] w (RetRef h (setp (worded s (gt ys cl))) m ys w) := by
  have hl3 := lv_le hM.most
  have TT := fun w => Lib.hid (rtop_any M lf hM.most (by omega) w)
  have TR := fun w => Lib.hid (rroot_any M lf hM.most (by omega) w)
  rw [← hcl, ← hb] at TR
  generalize (lv M + lf / 64) = z1 at TT
  generalize lf % 64 = z2 at TT
  obtain ⟨bb, oo, rfl, hbb, hcc⟩ := hU.get hcm
  have TH := fun w => Lib.hid (rhas_any (gt ys cl) b (gt_lt hU.fit cl) hb2 w)
  rw [hbit] at TH
  clear hbit
  obtain ⟨x, hx⟩ : ∃ x, x = gt ys cl := ⟨_, rfl⟩
  rw [← hx] at hcc TH ⊢
  clear hx
  have hcm2 : (cl : Int) < (m : Int) := by omega
  clear hcl hb
  rcases s with ⟨kind, addr, err, aad, used, phase, shard, sought, leaf, bit, word, full, at_, tries, item, stamp⟩
  rcases h with ⟨A0, n0, c0, A1, n1, c1, A2, n2, c2, A3, n3, c3⟩
  dsimp only at *
  subst hlf hat hph hfu
  go_enter Try.func18, Try.ntmps18
  go_upto_region 1 with (fail)
  have K := below_alloc w (.cells #[.int .u32 a, .int .i64 p, .slice A n c, .int .i64 sh, .int .i64 wo, .int .i64 qu, .int .i64 tr] 27)
  have H : Bk (World.alloc (w) (.cells #[.int .u32 a, .int .i64 p, .slice A n c, .int .i64 sh, .int .i64 wo, .int .i64 qu, .int .i64 tr] 27)) (World.heap (w)).size 27 (#[.int .u32 a, .int .i64 p, .slice A n c, .int .i64 sh, .int .i64 wo, .int .i64 qu, .int .i64 tr]) := Bk.new _ _ _
  replace H := H.alloc (.cells (opv ⟨A0, n0, c0, A1, n1, c1, A2, n2, c2, A3, n3, c3⟩ ⟨kind, addr, err, aad, used, 4, shard, sought, (lf : Int), bit, word, true, 1, tries, item, stamp⟩) 38)
  replace K := Below.then_ K (below_alloc _ (.cells (opv ⟨A0, n0, c0, A1, n1, c1, A2, n2, c2, A3, n3, c3⟩ ⟨kind, addr, err, aad, used, 4, shard, sought, (lf : Int), bit, word, true, 1, tries, item, stamp⟩) 38))
  have O : Bk (World.alloc ((w).alloc (.cells #[.int .u32 a, .int .i64 p, .slice A n c, .int .i64 sh, .int .i64 wo, .int .i64 qu, .int .i64 tr] 27)) (.cells (opv ⟨A0, n0, c0, A1, n1, c1, A2, n2, c2, A3, n3, c3⟩ ⟨kind, addr, err, aad, used, 4, shard, sought, (lf : Int), bit, word, true, 1, tries, item, stamp⟩) 38)) (World.heap ((w).alloc (.cells #[.int .u32 a, .int .i64 p, .slice A n c, .int .i64 sh, .int .i64 wo, .int .i64 qu, .int .i64 tr] 27))).size 38 (opv ⟨A0, n0, c0, A1, n1, c1, A2, n2, c2, A3, n3, c3⟩ ⟨kind, addr, err, aad, used, 4, shard, sought, (lf : Int), bit, word, true, 1, tries, item, stamp⟩) := Bk.new _ _ _
  replace H := H.alloc (.cells #[.int .i64 0, .int .u32 0, .slice none 0 0, .int .i64 0, .int .u32 0, .bool false, .slice none 0 0, .slice none 0 0, .int .i64 0, .int .i64 0, .int .i64 0, .int .i64 0, .int .i64 0, .int .u64 0, .bool false, .slice none 0 0, .int .i64 0, .int .i64 0, .int .i64 0, .int .i64 0] 38)
  replace O := O.alloc (.cells #[.int .i64 0, .int .u32 0, .slice none 0 0, .int .i64 0, .int .u32 0, .bool false, .slice none 0 0, .slice none 0 0, .int .i64 0, .int .i64 0, .int .i64 0, .int .i64 0, .int .i64 0, .int .u64 0, .bool false, .slice none 0 0, .int .i64 0, .int .i64 0, .int .i64 0, .int .i64 0] 38)
  replace K := Below.then_ K (below_alloc _ (.cells #[.int .i64 0, .int .u32 0, .slice none 0 0, .int .i64 0, .int .u32 0, .bool false, .slice none 0 0, .slice none 0 0, .int .i64 0, .int .i64 0, .int .i64 0, .int .i64 0, .int .i64 0, .int .u64 0, .bool false, .slice none 0 0, .int .i64 0, .int .i64 0, .int .i64 0, .int .i64 0] 38))
  have R : Bk (World.alloc (((w).alloc (.cells #[.int .u32 a, .int .i64 p, .slice A n c, .int .i64 sh, .int .i64 wo, .int .i64 qu, .int .i64 tr] 27)).alloc (.cells (opv ⟨A0, n0, c0, A1, n1, c1, A2, n2, c2, A3, n3, c3⟩ ⟨kind, addr, err, aad, used, 4, shard, sought, (lf : Int), bit, word, true, 1, tries, item, stamp⟩) 38)) (.cells #[.int .i64 0, .int .u32 0, .slice none 0 0, .int .i64 0, .int .u32 0, .bool false, .slice none 0 0, .slice none 0 0, .int .i64 0, .int .i64 0, .int .i64 0, .int .i64 0, .int .i64 0, .int .u64 0, .bool false, .slice none 0 0, .int .i64 0, .int .i64 0, .int .i64 0, .int .i64 0] 38)) (World.heap (((w).alloc (.cells #[.int .u32 a, .int .i64 p, .slice A n c, .int .i64 sh, .int .i64 wo, .int .i64 qu, .int .i64 tr] 27)).alloc (.cells (opv ⟨A0, n0, c0, A1, n1, c1, A2, n2, c2, A3, n3, c3⟩ ⟨kind, addr, err, aad, used, 4, shard, sought, (lf : Int), bit, word, true, 1, tries, item, stamp⟩) 38))).size 38 (opv hd0 sc0) := Bk.new _ _ _
  try simp only [World.size_alloc] at H O R
  generalize (((w).alloc (.cells #[.int .u32 a, .int .i64 p, .slice A n c, .int .i64 sh, .int .i64 wo, .int .i64 qu, .int .i64 tr] 27)).alloc (.cells (opv ⟨A0, n0, c0, A1, n1, c1, A2, n2, c2, A3, n3, c3⟩ ⟨kind, addr, err, aad, used, 4, shard, sought, (lf : Int), bit, word, true, 1, tries, item, stamp⟩) 38)).alloc (.cells #[.int .i64 0, .int .u32 0, .slice none 0 0, .int .i64 0, .int .u32 0, .bool false, .slice none 0 0, .slice none 0 0, .int .i64 0, .int .i64 0, .int .i64 0, .int .i64 0, .int .i64 0, .int .u64 0, .bool false, .slice none 0 0, .int .i64 0, .int .i64 0, .int .i64 0, .int .i64 0] 38) = w1 at H O R K ⊢
  obtain ⟨gR, hgR⟩ : ∃ g, g = w.heap.size + 1 + 1 := ⟨_, rfl⟩
  rw [← hgR] at R ⊢
  obtain ⟨gO, hgO⟩ : ∃ g, g = w.heap.size + 1 := ⟨_, rfl⟩
  rw [← hgO] at O ⊢
  obtain ⟨gH, hgH⟩ : ∃ g, g = w.heap.size := ⟨_, rfl⟩
  rw [← hgH] at H ⊢
  have H_b : w.heap.size ≤ gH := by omega
  have O_b : w.heap.size ≤ gO := by omega
  have R_b : w.heap.size ≤ gR := by omega
  have ne_H_O : gH ≠ gO := by omega
  have ne_H_R : gH ≠ gR := by omega
  have ne_O_R : gO ≠ gR := by omega
  clear hgH hgO hgR
  have H_0 := H.at_ (v := .int .u32 a) 0 rfl
  have H_1 := H.at_ (v := .int .i64 p) 1 rfl
  have H_z := H.lt
  go_wp2_with fail
  refine (rmany_yes hM).mono ?_
  rintro e w2 ⟨rfl, K'⟩
  clear H_0 H_1 H_z
  replace H := H.below K'
  replace O := O.below K'
  replace R := R.below K'
  replace K := Below.then_ K K'
  clear K'
  have O_11 := O.at_ (v := .int .i64 (lf : Int)) 11 rfl
  have O_16 := O.at_ (v := .int .i64 1) 16 rfl
  have O_8 := O.at_ (v := .int .i64 4) 8 rfl
  have O_z := O.lt
  go_upto_region 6 with (first | ((with_reducible refine ((TT _).out).mono ?_); rintro e w' ⟨rfl, rfl⟩) | ((with_reducible refine ((TR _).out).mono ?_); rintro e w' ⟨rfl, rfl⟩))
  clear O_11 O_16 O_8 O_z
  have X := (K.cell (p := ⟨bb, oo + cl, none⟩) hbb).trans hcc
  have O_13 := O.at_ (v := .int .u64 ((word : Nat) : Int)) 13 rfl
  have O_z := O.lt
  have O_f13 := O.fz 13
  go_upto_region 7 with (fail)
  replace H := H.far (p := ⟨gO, 13, none⟩) ne_H_O (.int .u64 (x : Nat))
  replace R := R.far (p := ⟨gO, 13, none⟩) (Ne.symm ne_O_R) (.int .u64 (x : Nat))
  replace O := O.set_ 13 (.int .u64 (x : Nat))
  replace K := K.setCell (p := ⟨gO, 13, none⟩) O_b (.int .u64 (x : Nat))
  replace O : Bk ((w2).setCell ⟨gO, 13, none⟩ (.int .u64 (x : Nat))) gO 38 (opv ⟨A0, n0, c0, A1, n1, c1, A2, n2, c2, A3, n3, c3⟩ ⟨kind, addr, err, aad, used, 4, shard, sought, (lf : Int), bit, x, true, 1, tries, item, stamp⟩) := O
  clear O_13 O_z O_f13 X
  generalize (w2).setCell ⟨gO, 13, none⟩ (.int .u64 (x : Nat)) = w3 at H O R K ⊢
  refine wp_region_held_drew (S := fun w' => Below w.heap.size w w' ∧ Bk w' gH 27 (#[.int .u32 a, .int .i64 p, .slice A n c, .int .i64 sh, .int .i64 wo, .int .i64 qu, .int .i64 tr]) ∧ Bk w' gO 38 (opv ⟨A0, n0, c0, A1, n1, c1, A2, n2, c2, A3, n3, c3⟩ ⟨kind, addr, err, aad, used, 4, shard, sought, (lf : Int), bit, x, true, 1, tries, item, stamp⟩) ∧ Bk w' gR 38 (opv hd0 sc0) ∧ True) (by kernel_rfl) ⟨K.drew, H.below ((Below.refl _ _).drew), O.below ((Below.refl _ _).drew), R.below ((Below.refl _ _).drew), trivial⟩ (fun hHeld => ?_)
  generalize w3.drew = v4 at hHeld ⊢
  refine wpAnyH_take (i := 0) (oi := ⟨some 40, _, _, _, _, _⟩) (v := ?_) rfl (by kernel_rfl) (by kernel_rfl) (by kernel_rfl) (fun _ _ _ h => h) (Or.inl ⟨by rfl, ?_⟩) hHeld ?_
  rotate_left
  · intro ww hSw
    try dsimp only at hSw
    go_simp
    try with_reducible rfl
    try omega
  try simp only [Act.put, List.setIfInBounds_toArray, List.set_cons_zero, List.set_cons_succ]
  refine wpAnyH_take (i := 1) (oi := ⟨some 41, _, _, _, _, _⟩) (v := .int .u64 (x : Nat)) rfl (by kernel_rfl) (by kernel_rfl) (by kernel_rfl) (fun _ _ _ h => h) (Or.inl ⟨by rfl, ?_⟩) hHeld ?_
  · intro ww hSw
    try dsimp only at hSw
    have O_13 := hSw.2.2.1.at_ (v := .int .u64 (x : Nat)) 13 rfl
    have O_14 := hSw.2.2.1.at_ (v := .bool true) 14 rfl
    go_simp
    try with_reducible rfl
    try omega
  try simp only [Act.put, List.setIfInBounds_toArray, List.set_cons_zero, List.set_cons_succ]
  refine wpAnyH_take (i := 2) (oi := ⟨some 42, _, _, _, _, _⟩) (v := ?_) rfl (by kernel_rfl) (by kernel_rfl) (by kernel_rfl) (fun _ _ _ h => h) (Or.inl ⟨by rfl, ?_⟩) hHeld ?_
  rotate_left
  · intro ww hSw
    try dsimp only at hSw
    go_simp
    try with_reducible rfl
    try omega
  try simp only [Act.put, List.setIfInBounds_toArray, List.set_cons_zero, List.set_cons_succ]
  refine wpAnyH_take (i := 4) (oi := ⟨some 44, _, _, _, _, _⟩) (v := ?_) rfl (by kernel_rfl) (by kernel_rfl) (by kernel_rfl) (fun _ _ _ h => h) (Or.inl ⟨by rfl, ?_⟩) hHeld ?_
  rotate_left
  · intro ww hSw
    try dsimp only at hSw
    go_simp
    try with_reducible rfl
    try omega
  try simp only [Act.put, List.setIfInBounds_toArray, List.set_cons_zero, List.set_cons_succ]
  refine wpAnyH_take (i := 5) (oi := ⟨some 45, _, _, _, _, _⟩) (v := .bool true) rfl (by kernel_rfl) (by kernel_rfl) (by kernel_rfl) (fun _ _ _ h => h) (Or.inl ⟨by rfl, ?_⟩) hHeld ?_
  · intro ww hSw
    try dsimp only at hSw
    have O_13 := hSw.2.2.1.at_ (v := .int .u64 (x : Nat)) 13 rfl
    have O_14 := hSw.2.2.1.at_ (v := .bool true) 14 rfl
    go_simp
    try with_reducible rfl
    try omega
  try simp only [Act.put, List.setIfInBounds_toArray, List.set_cons_zero, List.set_cons_succ]
  refine wpAnyH_ready (rs := [3]) (by kernel_rfl) (by simp) ?_
  refine AllReadyH.cons (o := ⟨some 43, _, _, _, _, _⟩) rfl (fun K0 hK => ?_) AllReadyH.nil
  go_simp
  refine ((TH _).out).mono ?_
  rintro e _ ⟨rfl, rfl⟩
  refine hK.out _ _ hHeld (fun hHeld' => ?_)
  clear hHeld hK K0
  have hHeld := hHeld'
  clear hHeld'
  try simp only [Act.put, List.setIfInBounds_toArray, List.set_cons_zero, List.set_cons_succ]
  refine wpAnyH_take (i := 6) (oi := ⟨some 46, _, _, _, _, _⟩) (v := .bool true) rfl (by kernel_rfl) (by kernel_rfl) (by kernel_rfl) (fun _ _ _ h => h) (Or.inl ⟨by rfl, ?_⟩) hHeld ?_
  · intro ww hSw
    try dsimp only at hSw
    go_simp
    try with_reducible rfl
    try omega
  try simp only [Act.put, List.setIfInBounds_toArray, List.set_cons_zero, List.set_cons_succ]
  refine wpAnyH_done (by kernel_rfl) ?_ _
  replace K := hHeld.1
  replace H := hHeld.2.1
  replace O := hHeld.2.2.1
  replace R := hHeld.2.2.2.1
  clear hHeld
  have O_8 := O.at_ (v := .int .i64 4) 8 rfl
  have O_z := O.lt
  have O_f8 := O.fz 8
  go_upto_region 9 with (fail)
  replace H := H.far (p := ⟨gO, 8, none⟩) ne_H_O (.int .i64 5)
  replace R := R.far (p := ⟨gO, 8, none⟩) (Ne.symm ne_O_R) (.int .i64 5)
  replace O := O.set_ 8 (.int .i64 5)
  replace K := K.setCell (p := ⟨gO, 8, none⟩) O_b (.int .i64 5)
  replace O : Bk ((v4).setCell ⟨gO, 8, none⟩ (.int .i64 5)) gO 38 (opv ⟨A0, n0, c0, A1, n1, c1, A2, n2, c2, A3, n3, c3⟩ ⟨kind, addr, err, aad, used, 5, shard, sought, (lf : Int), bit, x, true, 1, tries, item, stamp⟩) := O
  clear O_8 O_z O_f8
  generalize (v4).setCell ⟨gO, 8, none⟩ (.int .i64 5) = w5 at H O R K ⊢
  refine wp_region_held_drew (S := fun w' => Below w.heap.size w w' ∧ Bk w' gH 27 (#[.int .u32 a, .int .i64 p, .slice A n c, .int .i64 sh, .int .i64 wo, .int .i64 qu, .int .i64 tr]) ∧ Bk w' gO 38 (opv ⟨A0, n0, c0, A1, n1, c1, A2, n2, c2, A3, n3, c3⟩ ⟨kind, addr, err, aad, used, 5, shard, sought, (lf : Int), bit, x, true, 1, tries, item, stamp⟩) ∧ (∃ v : Array Value, v.size = 20 ∧ Bk w' gR 38 v) ∧ True) (by kernel_rfl) ⟨K.drew, H.below ((Below.refl _ _).drew), O.below ((Below.refl _ _).drew), ⟨_, rfl, R.below ((Below.refl _ _).drew)⟩, trivial⟩ (fun hHeld => ?_)
  generalize w5.drew = v6 at hHeld ⊢
  refine wpAnyH_take (i := 0) (oi := ⟨some 48, _, _, _, _, _⟩) (v := ?_) rfl (by kernel_rfl) (by kernel_rfl) (by kernel_rfl) (fun _ _ _ h => h) (Or.inl ⟨by rfl, ?_⟩) hHeld ?_
  rotate_left
  · intro ww hSw
    try dsimp only at hSw
    go_simp
    try with_reducible rfl
    try omega
  try simp only [Act.put, List.setIfInBounds_toArray, List.set_cons_zero, List.set_cons_succ]
  refine wpAnyH_take (i := 1) (oi := ⟨some 49, _, _, _, _, _⟩) (v := .agg (opv ⟨A0, n0, c0, A1, n1, c1, A2, n2, c2, A3, n3, c3⟩ ⟨kind, addr, err, aad, used, 5, shard, sought, (lf : Int), bit, x, true, 1, tries, item, stamp⟩)) rfl (by kernel_rfl) (by kernel_rfl) (by kernel_rfl) (fun _ _ _ h => h) (yieldsIf_load_row (by rfl) 38 (.tmp 5) rfl gO rfl 38 _ (0, 0) _ (fun _ hS => hS.2.2.1) Try.underlying38 rfl op_sz) hHeld ?_
  try simp only [Act.put, List.setIfInBounds_toArray, List.set_cons_zero, List.set_cons_succ]
  refine wpAnyH_take (i := 2) (oi := ⟨some 6, _, _, _, _, _⟩) (v := ?_) rfl (by kernel_rfl) (by kernel_rfl) (by kernel_rfl) (fun _ _ _ h => h) (Or.inl ⟨by rfl, ?_⟩) hHeld ?_
  rotate_left
  · intro ww hSw
    try dsimp only at hSw
    go_simp
    try with_reducible rfl
    try omega
  try simp only [Act.put, List.setIfInBounds_toArray, List.set_cons_zero, List.set_cons_succ]
  refine wpAnyH_ready (rs := [3]) (by kernel_rfl) (by simp) ?_
  refine AllReadyH.cons (o := ⟨none, _, _, _, _, _⟩) rfl (fun K0 hK => ?_) AllReadyH.nil
  rw [if_pos (by rfl)]
  refine wp_store_row 38 (.tmp 7) (.tmp 49) rfl gR _ rfl rfl _ _ hHeld.2.2.2.1.choose_spec.2 op_sz hHeld.2.2.2.1.choose_spec.1 (opv_one _ _) ?_
  have new_R := Bk.row hHeld.2.2.2.1.choose_spec.2 (opv ⟨A0, n0, c0, A1, n1, c1, A2, n2, c2, A3, n3, c3⟩ ⟨kind, addr, err, aad, used, 5, shard, sought, (lf : Int), bit, x, true, 1, tries, item, stamp⟩)
  refine hK.out _ _ ⟨below_setRow hHeld.1 R_b _, hHeld.2.1.row_far ne_H_R _, hHeld.2.2.1.row_far ne_O_R _, ⟨_, rfl, new_R⟩, trivial⟩ (fun hHeld' => ?_)
  clear hHeld hK K0
  have hHeld := hHeld'
  clear hHeld'
  generalize v6.setRow gR (opv ⟨A0, n0, c0, A1, n1, c1, A2, n2, c2, A3, n3, c3⟩ ⟨kind, addr, err, aad, used, 5, shard, sought, (lf : Int), bit, x, true, 1, tries, item, stamp⟩) = v7 at hHeld new_R  ⊢
  try simp only [Act.put]
  refine wpAnyH_done (by kernel_rfl) ?_ _
  replace K := hHeld.1
  replace H := hHeld.2.1
  replace O := hHeld.2.2.1
  replace R := new_R
  clear new_R
  clear hHeld
  go_wp2
  refine bodyPost_ret (v := .tuple #[.slice (some ⟨bb, oo, none⟩) m d, .agg (opv ⟨A0, n0, c0, A1, n1, c1, A2, n2, c2, A3, n3, c3⟩ ⟨kind, addr, err, aad, used, 5, shard, sought, (lf : Int), bit, x, true, 1, tries, item, stamp⟩)]) ?_ rfl ?_
  · exact results_tc (fn := Try.f18) Try.results18 _ _ gR _ _ (0, 0) _ rfl R Try.underlying38 rfl op_sz
  exact ⟨_, _, rfl, hU.below K, K⟩
set_option maxRecDepth 100000 in
set_option maxHeartbeats 2000000 in
theorem rs4_1t_y (ha : a < 4294967296) (hM : Much a p M) (hn : h.n0 ≤ 65536) (hI : IS .u32 lo w h.A0 h.n0 h.c0 xs) (hin : InB a M h.n0 xs) (hU : US w B m d ys) (hm : m ≤ 65536) (hi1 : 0 ≤ s.item) (hi2 : s.item ≤ 65536) (hlf : s.leaf = (lf : Int)) (hlv : lf < lv M) (hcm : cl < m) (hb2 : b < 64) (hw : s.word < 18446744073709551616) (hcl : cl = lv M + tv M) (hb : b = lf / 64) (hat : s.at_ = 1) (hfu : s.full = true) (hph : s.phase = 4) (hbit : (gt ys cl).testBit b = true) :
    Calls Try.prog 18 #[.agg #[.int .u32 a, .int .i64 p, .slice A n c, .int .i64 sh, .int .i64 wo, .int .i64 qu, .int .i64 tr], .slice B m d, .agg (opv h s)] w (RetRef h (gon a h.n0 xs (worded s (gt ys cl))) m ys w) := by
  have hl3 := lv_le hM.most
  have TT := fun w => Lib.hid (rtop_any M lf hM.most (by omega) w)
  have TR := fun w => Lib.hid (rroot_any M lf hM.most (by omega) w)
  rw [← hcl, ← hb] at TR
  generalize (lv M + lf / 64) = z1 at TT
  generalize lf % 64 = z2 at TT
  obtain ⟨bb, oo, rfl, hbb, hcc⟩ := hU.get hcm
  have TH := fun w => Lib.hid (rhas_any (gt ys cl) b (gt_lt hU.fit cl) hb2 w)
  rw [hbit] at TH
  clear hbit
  obtain ⟨x, hx⟩ : ∃ x, x = gt ys cl := ⟨_, rfl⟩
  rw [← hx] at hcc TH ⊢
  clear hx
  have TG := fun w (hI : IS .u32 lo w h.A0 h.n0 h.c0 xs) => Lib.hid (rgoes_any (w := w) (sh := sh) (wo := wo) (qu := qu) (tr := tr) (A := A) (n := n) (c := c) (s := worded s x) ha hM hn hI hin hi1 hi2)
  have hcm2 : (cl : Int) < (m : Int) := by omega
  clear hcl hb
  rcases s with ⟨kind, addr, err, aad, used, phase, shard, sought, leaf, bit, word, full, at_, tries, item, stamp⟩
  rcases h with ⟨A0, n0, c0, A1, n1, c1, A2, n2, c2, A3, n3, c3⟩
  dsimp only at *
  subst hlf hat hph hfu
  go_enter Try.func18, Try.ntmps18
  go_upto_region 1 with (fail)
  have K := below_alloc w (.cells #[.int .u32 a, .int .i64 p, .slice A n c, .int .i64 sh, .int .i64 wo, .int .i64 qu, .int .i64 tr] 27)
  have H : Bk (World.alloc (w) (.cells #[.int .u32 a, .int .i64 p, .slice A n c, .int .i64 sh, .int .i64 wo, .int .i64 qu, .int .i64 tr] 27)) (World.heap (w)).size 27 (#[.int .u32 a, .int .i64 p, .slice A n c, .int .i64 sh, .int .i64 wo, .int .i64 qu, .int .i64 tr]) := Bk.new _ _ _
  replace H := H.alloc (.cells (opv ⟨A0, n0, c0, A1, n1, c1, A2, n2, c2, A3, n3, c3⟩ ⟨kind, addr, err, aad, used, 4, shard, sought, (lf : Int), bit, word, true, 1, tries, item, stamp⟩) 38)
  replace K := Below.then_ K (below_alloc _ (.cells (opv ⟨A0, n0, c0, A1, n1, c1, A2, n2, c2, A3, n3, c3⟩ ⟨kind, addr, err, aad, used, 4, shard, sought, (lf : Int), bit, word, true, 1, tries, item, stamp⟩) 38))
  have O : Bk (World.alloc ((w).alloc (.cells #[.int .u32 a, .int .i64 p, .slice A n c, .int .i64 sh, .int .i64 wo, .int .i64 qu, .int .i64 tr] 27)) (.cells (opv ⟨A0, n0, c0, A1, n1, c1, A2, n2, c2, A3, n3, c3⟩ ⟨kind, addr, err, aad, used, 4, shard, sought, (lf : Int), bit, word, true, 1, tries, item, stamp⟩) 38)) (World.heap ((w).alloc (.cells #[.int .u32 a, .int .i64 p, .slice A n c, .int .i64 sh, .int .i64 wo, .int .i64 qu, .int .i64 tr] 27))).size 38 (opv ⟨A0, n0, c0, A1, n1, c1, A2, n2, c2, A3, n3, c3⟩ ⟨kind, addr, err, aad, used, 4, shard, sought, (lf : Int), bit, word, true, 1, tries, item, stamp⟩) := Bk.new _ _ _
  replace H := H.alloc (.cells #[.int .i64 0, .int .u32 0, .slice none 0 0, .int .i64 0, .int .u32 0, .bool false, .slice none 0 0, .slice none 0 0, .int .i64 0, .int .i64 0, .int .i64 0, .int .i64 0, .int .i64 0, .int .u64 0, .bool false, .slice none 0 0, .int .i64 0, .int .i64 0, .int .i64 0, .int .i64 0] 38)
  replace O := O.alloc (.cells #[.int .i64 0, .int .u32 0, .slice none 0 0, .int .i64 0, .int .u32 0, .bool false, .slice none 0 0, .slice none 0 0, .int .i64 0, .int .i64 0, .int .i64 0, .int .i64 0, .int .i64 0, .int .u64 0, .bool false, .slice none 0 0, .int .i64 0, .int .i64 0, .int .i64 0, .int .i64 0] 38)
  replace K := Below.then_ K (below_alloc _ (.cells #[.int .i64 0, .int .u32 0, .slice none 0 0, .int .i64 0, .int .u32 0, .bool false, .slice none 0 0, .slice none 0 0, .int .i64 0, .int .i64 0, .int .i64 0, .int .i64 0, .int .i64 0, .int .u64 0, .bool false, .slice none 0 0, .int .i64 0, .int .i64 0, .int .i64 0, .int .i64 0] 38))
  have R : Bk (World.alloc (((w).alloc (.cells #[.int .u32 a, .int .i64 p, .slice A n c, .int .i64 sh, .int .i64 wo, .int .i64 qu, .int .i64 tr] 27)).alloc (.cells (opv ⟨A0, n0, c0, A1, n1, c1, A2, n2, c2, A3, n3, c3⟩ ⟨kind, addr, err, aad, used, 4, shard, sought, (lf : Int), bit, word, true, 1, tries, item, stamp⟩) 38)) (.cells #[.int .i64 0, .int .u32 0, .slice none 0 0, .int .i64 0, .int .u32 0, .bool false, .slice none 0 0, .slice none 0 0, .int .i64 0, .int .i64 0, .int .i64 0, .int .i64 0, .int .i64 0, .int .u64 0, .bool false, .slice none 0 0, .int .i64 0, .int .i64 0, .int .i64 0, .int .i64 0] 38)) (World.heap (((w).alloc (.cells #[.int .u32 a, .int .i64 p, .slice A n c, .int .i64 sh, .int .i64 wo, .int .i64 qu, .int .i64 tr] 27)).alloc (.cells (opv ⟨A0, n0, c0, A1, n1, c1, A2, n2, c2, A3, n3, c3⟩ ⟨kind, addr, err, aad, used, 4, shard, sought, (lf : Int), bit, word, true, 1, tries, item, stamp⟩) 38))).size 38 (opv hd0 sc0) := Bk.new _ _ _
  try simp only [World.size_alloc] at H O R
  generalize (((w).alloc (.cells #[.int .u32 a, .int .i64 p, .slice A n c, .int .i64 sh, .int .i64 wo, .int .i64 qu, .int .i64 tr] 27)).alloc (.cells (opv ⟨A0, n0, c0, A1, n1, c1, A2, n2, c2, A3, n3, c3⟩ ⟨kind, addr, err, aad, used, 4, shard, sought, (lf : Int), bit, word, true, 1, tries, item, stamp⟩) 38)).alloc (.cells #[.int .i64 0, .int .u32 0, .slice none 0 0, .int .i64 0, .int .u32 0, .bool false, .slice none 0 0, .slice none 0 0, .int .i64 0, .int .i64 0, .int .i64 0, .int .i64 0, .int .i64 0, .int .u64 0, .bool false, .slice none 0 0, .int .i64 0, .int .i64 0, .int .i64 0, .int .i64 0] 38) = w1 at H O R K ⊢
  obtain ⟨gR, hgR⟩ : ∃ g, g = w.heap.size + 1 + 1 := ⟨_, rfl⟩
  rw [← hgR] at R ⊢
  obtain ⟨gO, hgO⟩ : ∃ g, g = w.heap.size + 1 := ⟨_, rfl⟩
  rw [← hgO] at O ⊢
  obtain ⟨gH, hgH⟩ : ∃ g, g = w.heap.size := ⟨_, rfl⟩
  rw [← hgH] at H ⊢
  have H_b : w.heap.size ≤ gH := by omega
  have O_b : w.heap.size ≤ gO := by omega
  have R_b : w.heap.size ≤ gR := by omega
  have ne_H_O : gH ≠ gO := by omega
  have ne_H_R : gH ≠ gR := by omega
  have ne_O_R : gO ≠ gR := by omega
  clear hgH hgO hgR
  have H_0 := H.at_ (v := .int .u32 a) 0 rfl
  have H_1 := H.at_ (v := .int .i64 p) 1 rfl
  have H_z := H.lt
  go_wp2_with fail
  refine (rmany_yes hM).mono ?_
  rintro e w2 ⟨rfl, K'⟩
  clear H_0 H_1 H_z
  replace H := H.below K'
  replace O := O.below K'
  replace R := R.below K'
  replace K := Below.then_ K K'
  clear K'
  have O_11 := O.at_ (v := .int .i64 (lf : Int)) 11 rfl
  have O_16 := O.at_ (v := .int .i64 1) 16 rfl
  have O_8 := O.at_ (v := .int .i64 4) 8 rfl
  have O_z := O.lt
  go_upto_region 6 with (first | ((with_reducible refine ((TT _).out).mono ?_); rintro e w' ⟨rfl, rfl⟩) | ((with_reducible refine ((TR _).out).mono ?_); rintro e w' ⟨rfl, rfl⟩))
  clear O_11 O_16 O_8 O_z
  have X := (K.cell (p := ⟨bb, oo + cl, none⟩) hbb).trans hcc
  have O_13 := O.at_ (v := .int .u64 ((word : Nat) : Int)) 13 rfl
  have O_z := O.lt
  have O_f13 := O.fz 13
  go_upto_region 7 with (fail)
  replace H := H.far (p := ⟨gO, 13, none⟩) ne_H_O (.int .u64 (x : Nat))
  replace R := R.far (p := ⟨gO, 13, none⟩) (Ne.symm ne_O_R) (.int .u64 (x : Nat))
  replace O := O.set_ 13 (.int .u64 (x : Nat))
  replace K := K.setCell (p := ⟨gO, 13, none⟩) O_b (.int .u64 (x : Nat))
  replace O : Bk ((w2).setCell ⟨gO, 13, none⟩ (.int .u64 (x : Nat))) gO 38 (opv ⟨A0, n0, c0, A1, n1, c1, A2, n2, c2, A3, n3, c3⟩ ⟨kind, addr, err, aad, used, 4, shard, sought, (lf : Int), bit, x, true, 1, tries, item, stamp⟩) := O
  clear O_13 O_z O_f13 X
  generalize (w2).setCell ⟨gO, 13, none⟩ (.int .u64 (x : Nat)) = w3 at H O R K ⊢
  refine wp_region_held_drew (S := fun w' => Below w.heap.size w w' ∧ Bk w' gH 27 (#[.int .u32 a, .int .i64 p, .slice A n c, .int .i64 sh, .int .i64 wo, .int .i64 qu, .int .i64 tr]) ∧ Bk w' gO 38 (opv ⟨A0, n0, c0, A1, n1, c1, A2, n2, c2, A3, n3, c3⟩ ⟨kind, addr, err, aad, used, 4, shard, sought, (lf : Int), bit, x, true, 1, tries, item, stamp⟩) ∧ Bk w' gR 38 (opv hd0 sc0) ∧ True) (by kernel_rfl) ⟨K.drew, H.below ((Below.refl _ _).drew), O.below ((Below.refl _ _).drew), R.below ((Below.refl _ _).drew), trivial⟩ (fun hHeld => ?_)
  generalize w3.drew = v4 at hHeld ⊢
  refine wpAnyH_take (i := 0) (oi := ⟨some 40, _, _, _, _, _⟩) (v := ?_) rfl (by kernel_rfl) (by kernel_rfl) (by kernel_rfl) (fun _ _ _ h => h) (Or.inl ⟨by rfl, ?_⟩) hHeld ?_
  rotate_left
  · intro ww hSw
    try dsimp only at hSw
    go_simp
    try with_reducible rfl
    try omega
  try simp only [Act.put, List.setIfInBounds_toArray, List.set_cons_zero, List.set_cons_succ]
  refine wpAnyH_take (i := 1) (oi := ⟨some 41, _, _, _, _, _⟩) (v := .int .u64 (x : Nat)) rfl (by kernel_rfl) (by kernel_rfl) (by kernel_rfl) (fun _ _ _ h => h) (Or.inl ⟨by rfl, ?_⟩) hHeld ?_
  · intro ww hSw
    try dsimp only at hSw
    have O_13 := hSw.2.2.1.at_ (v := .int .u64 (x : Nat)) 13 rfl
    have O_14 := hSw.2.2.1.at_ (v := .bool true) 14 rfl
    go_simp
    try with_reducible rfl
    try omega
  try simp only [Act.put, List.setIfInBounds_toArray, List.set_cons_zero, List.set_cons_succ]
  refine wpAnyH_take (i := 2) (oi := ⟨some 42, _, _, _, _, _⟩) (v := ?_) rfl (by kernel_rfl) (by kernel_rfl) (by kernel_rfl) (fun _ _ _ h => h) (Or.inl ⟨by rfl, ?_⟩) hHeld ?_
  rotate_left
  · intro ww hSw
    try dsimp only at hSw
    go_simp
    try with_reducible rfl
    try omega
  try simp only [Act.put, List.setIfInBounds_toArray, List.set_cons_zero, List.set_cons_succ]
  refine wpAnyH_take (i := 4) (oi := ⟨some 44, _, _, _, _, _⟩) (v := ?_) rfl (by kernel_rfl) (by kernel_rfl) (by kernel_rfl) (fun _ _ _ h => h) (Or.inl ⟨by rfl, ?_⟩) hHeld ?_
  rotate_left
  · intro ww hSw
    try dsimp only at hSw
    go_simp
    try with_reducible rfl
    try omega
  try simp only [Act.put, List.setIfInBounds_toArray, List.set_cons_zero, List.set_cons_succ]
  refine wpAnyH_take (i := 5) (oi := ⟨some 45, _, _, _, _, _⟩) (v := .bool true) rfl (by kernel_rfl) (by kernel_rfl) (by kernel_rfl) (fun _ _ _ h => h) (Or.inl ⟨by rfl, ?_⟩) hHeld ?_
  · intro ww hSw
    try dsimp only at hSw
    have O_13 := hSw.2.2.1.at_ (v := .int .u64 (x : Nat)) 13 rfl
    have O_14 := hSw.2.2.1.at_ (v := .bool true) 14 rfl
    go_simp
    try with_reducible rfl
    try omega
  try simp only [Act.put, List.setIfInBounds_toArray, List.set_cons_zero, List.set_cons_succ]
  refine wpAnyH_ready (rs := [3]) (by kernel_rfl) (by simp) ?_
  refine AllReadyH.cons (o := ⟨some 43, _, _, _, _, _⟩) rfl (fun K0 hK => ?_) AllReadyH.nil
  go_simp
  refine ((TH _).out).mono ?_
  rintro e _ ⟨rfl, rfl⟩
  refine hK.out _ _ hHeld (fun hHeld' => ?_)
  clear hHeld hK K0
  have hHeld := hHeld'
  clear hHeld'
  try simp only [Act.put, List.setIfInBounds_toArray, List.set_cons_zero, List.set_cons_succ]
  refine wpAnyH_take (i := 6) (oi := ⟨some 46, _, _, _, _, _⟩) (v := .bool false) rfl (by kernel_rfl) (by kernel_rfl) (by kernel_rfl) (fun _ _ _ h => h) (Or.inl ⟨by rfl, ?_⟩) hHeld ?_
  · intro ww hSw
    try dsimp only at hSw
    go_simp
    try with_reducible rfl
    try omega
  try simp only [Act.put, List.setIfInBounds_toArray, List.set_cons_zero, List.set_cons_succ]
  refine wpAnyH_done (by kernel_rfl) ?_ _
  replace K := hHeld.1
  replace H := hHeld.2.1
  replace O := hHeld.2.2.1
  replace R := hHeld.2.2.2.1
  clear hHeld
  have O_16 := O.at_ (v := .int .i64 1) 16 rfl
  have O_14 := O.at_ (v := .bool true) 14 rfl
  have O_13 := O.at_ (v := .int .u64 (x : Nat)) 13 rfl
  have O_z := O.lt
  go_upto_region 17 with (fail)
  clear O_16 O_14 O_13 O_z
  go_wp2_with (first | (refine wpList_load_row rfl 27 (.tmp 3) rfl gH rfl _ _ (0, 0) _ H Try.underlying27 rfl cf_sz ?_) | (refine wpList_load_row rfl 38 (.tmp 5) rfl gO rfl _ _ (0, 0) _ O Try.underlying38 rfl op_sz ?_))
  refine ((TG _ (hI.below K)).out).mono ?_
  rintro e w5 ⟨rfl, K'⟩
  replace H := H.below K'
  replace O := O.below K'
  replace R := R.below K'
  replace K := Below.then_ K K'
  clear K'
  go_wp2_with (refine wpList_store_row rfl 38 (.tmp 7) (.tmp 88) rfl gR _ rfl rfl _ _ R op_sz rfl (opv_one _ _) ?_)
  replace H := H.row_far ne_H_R (opv ⟨A0, n0, c0, A1, n1, c1, A2, n2, c2, A3, n3, c3⟩ (gon a n0 xs (worded ⟨kind, addr, err, aad, used, 4, shard, sought, (lf : Int), bit, word, true, 1, tries, item, stamp⟩ x)))
  replace O := O.row_far ne_O_R (opv ⟨A0, n0, c0, A1, n1, c1, A2, n2, c2, A3, n3, c3⟩ (gon a n0 xs (worded ⟨kind, addr, err, aad, used, 4, shard, sought, (lf : Int), bit, word, true, 1, tries, item, stamp⟩ x)))
  replace R := R.row (opv ⟨A0, n0, c0, A1, n1, c1, A2, n2, c2, A3, n3, c3⟩ (gon a n0 xs (worded ⟨kind, addr, err, aad, used, 4, shard, sought, (lf : Int), bit, word, true, 1, tries, item, stamp⟩ x)))
  replace K := below_setRow K R_b (opv ⟨A0, n0, c0, A1, n1, c1, A2, n2, c2, A3, n3, c3⟩ (gon a n0 xs (worded ⟨kind, addr, err, aad, used, 4, shard, sought, (lf : Int), bit, word, true, 1, tries, item, stamp⟩ x)))
  generalize w5.setRow gR (opv ⟨A0, n0, c0, A1, n1, c1, A2, n2, c2, A3, n3, c3⟩ (gon a n0 xs (worded ⟨kind, addr, err, aad, used, 4, shard, sought, (lf : Int), bit, word, true, 1, tries, item, stamp⟩ x))) = w6 at H O R K ⊢
  refine bodyPost_ret (v := .tuple #[.slice (some ⟨bb, oo, none⟩) m d, .agg (opv ⟨A0, n0, c0, A1, n1, c1, A2, n2, c2, A3, n3, c3⟩ (gon a n0 xs (worded ⟨kind, addr, err, aad, used, 4, shard, sought, (lf : Int), bit, word, true, 1, tries, item, stamp⟩ x)))]) ?_ rfl ?_
  · exact results_tc (fn := Try.f18) Try.results18 _ _ gR _ _ (0, 0) _ rfl R Try.underlying38 rfl op_sz
  exact ⟨_, _, rfl, hU.below K, K⟩
set_option maxRecDepth 100000 in
set_option maxHeartbeats 2000000 in
theorem rs4_1f_n (ha : a < 4294967296) (hM : Much a p M) (hn : h.n0 ≤ 65536) (hI : IS .u32 lo w h.A0 h.n0 h.c0 xs) (hin : InB a M h.n0 xs) (hU : US w B m d ys) (hm : m ≤ 65536) (hi1 : 0 ≤ s.item) (hi2 : s.item ≤ 65536) (hlf : s.leaf = (lf : Int)) (hlv : lf < lv M) (hcm : cl < m) (hb2 : b < 64) (hw : s.word < 18446744073709551616) (hcl : cl = lv M + tv M) (hb : b = lf / 64) (hat : s.at_ = 1) (hfu : s.full = false) (hph : s.phase = 4) (hbit : (gt ys cl).testBit b = true) :
    Calls Try.prog 18 #[.agg #[.int .u32 a, .int .i64 p, .slice A n c, .int .i64 sh, .int .i64 wo, .int .i64 qu, .int .i64 tr], .slice B m d, .agg (opv h s)] w (RetRef h (setp (worded s (gt ys cl))) m ys w) := by
  have hl3 := lv_le hM.most
  have TT := fun w => Lib.hid (rtop_any M lf hM.most (by omega) w)
  have TR := fun w => Lib.hid (rroot_any M lf hM.most (by omega) w)
  rw [← hcl, ← hb] at TR
  generalize (lv M + lf / 64) = z1 at TT
  generalize lf % 64 = z2 at TT
  obtain ⟨bb, oo, rfl, hbb, hcc⟩ := hU.get hcm
  have TH := fun w => Lib.hid (rhas_any (gt ys cl) b (gt_lt hU.fit cl) hb2 w)
  rw [hbit] at TH
  clear hbit
  obtain ⟨x, hx⟩ : ∃ x, x = gt ys cl := ⟨_, rfl⟩
  rw [← hx] at hcc TH ⊢
  clear hx
  have hcm2 : (cl : Int) < (m : Int) := by omega
  clear hcl hb
  rcases s with ⟨kind, addr, err, aad, used, phase, shard, sought, leaf, bit, word, full, at_, tries, item, stamp⟩
  rcases h with ⟨A0, n0, c0, A1, n1, c1, A2, n2, c2, A3, n3, c3⟩
  dsimp only at *
  subst hlf hat hph hfu
  go_enter Try.func18, Try.ntmps18
  go_upto_region 1 with (fail)
  have K := below_alloc w (.cells #[.int .u32 a, .int .i64 p, .slice A n c, .int .i64 sh, .int .i64 wo, .int .i64 qu, .int .i64 tr] 27)
  have H : Bk (World.alloc (w) (.cells #[.int .u32 a, .int .i64 p, .slice A n c, .int .i64 sh, .int .i64 wo, .int .i64 qu, .int .i64 tr] 27)) (World.heap (w)).size 27 (#[.int .u32 a, .int .i64 p, .slice A n c, .int .i64 sh, .int .i64 wo, .int .i64 qu, .int .i64 tr]) := Bk.new _ _ _
  replace H := H.alloc (.cells (opv ⟨A0, n0, c0, A1, n1, c1, A2, n2, c2, A3, n3, c3⟩ ⟨kind, addr, err, aad, used, 4, shard, sought, (lf : Int), bit, word, false, 1, tries, item, stamp⟩) 38)
  replace K := Below.then_ K (below_alloc _ (.cells (opv ⟨A0, n0, c0, A1, n1, c1, A2, n2, c2, A3, n3, c3⟩ ⟨kind, addr, err, aad, used, 4, shard, sought, (lf : Int), bit, word, false, 1, tries, item, stamp⟩) 38))
  have O : Bk (World.alloc ((w).alloc (.cells #[.int .u32 a, .int .i64 p, .slice A n c, .int .i64 sh, .int .i64 wo, .int .i64 qu, .int .i64 tr] 27)) (.cells (opv ⟨A0, n0, c0, A1, n1, c1, A2, n2, c2, A3, n3, c3⟩ ⟨kind, addr, err, aad, used, 4, shard, sought, (lf : Int), bit, word, false, 1, tries, item, stamp⟩) 38)) (World.heap ((w).alloc (.cells #[.int .u32 a, .int .i64 p, .slice A n c, .int .i64 sh, .int .i64 wo, .int .i64 qu, .int .i64 tr] 27))).size 38 (opv ⟨A0, n0, c0, A1, n1, c1, A2, n2, c2, A3, n3, c3⟩ ⟨kind, addr, err, aad, used, 4, shard, sought, (lf : Int), bit, word, false, 1, tries, item, stamp⟩) := Bk.new _ _ _
  replace H := H.alloc (.cells #[.int .i64 0, .int .u32 0, .slice none 0 0, .int .i64 0, .int .u32 0, .bool false, .slice none 0 0, .slice none 0 0, .int .i64 0, .int .i64 0, .int .i64 0, .int .i64 0, .int .i64 0, .int .u64 0, .bool false, .slice none 0 0, .int .i64 0, .int .i64 0, .int .i64 0, .int .i64 0] 38)
  replace O := O.alloc (.cells #[.int .i64 0, .int .u32 0, .slice none 0 0, .int .i64 0, .int .u32 0, .bool false, .slice none 0 0, .slice none 0 0, .int .i64 0, .int .i64 0, .int .i64 0, .int .i64 0, .int .i64 0, .int .u64 0, .bool false, .slice none 0 0, .int .i64 0, .int .i64 0, .int .i64 0, .int .i64 0] 38)
  replace K := Below.then_ K (below_alloc _ (.cells #[.int .i64 0, .int .u32 0, .slice none 0 0, .int .i64 0, .int .u32 0, .bool false, .slice none 0 0, .slice none 0 0, .int .i64 0, .int .i64 0, .int .i64 0, .int .i64 0, .int .i64 0, .int .u64 0, .bool false, .slice none 0 0, .int .i64 0, .int .i64 0, .int .i64 0, .int .i64 0] 38))
  have R : Bk (World.alloc (((w).alloc (.cells #[.int .u32 a, .int .i64 p, .slice A n c, .int .i64 sh, .int .i64 wo, .int .i64 qu, .int .i64 tr] 27)).alloc (.cells (opv ⟨A0, n0, c0, A1, n1, c1, A2, n2, c2, A3, n3, c3⟩ ⟨kind, addr, err, aad, used, 4, shard, sought, (lf : Int), bit, word, false, 1, tries, item, stamp⟩) 38)) (.cells #[.int .i64 0, .int .u32 0, .slice none 0 0, .int .i64 0, .int .u32 0, .bool false, .slice none 0 0, .slice none 0 0, .int .i64 0, .int .i64 0, .int .i64 0, .int .i64 0, .int .i64 0, .int .u64 0, .bool false, .slice none 0 0, .int .i64 0, .int .i64 0, .int .i64 0, .int .i64 0] 38)) (World.heap (((w).alloc (.cells #[.int .u32 a, .int .i64 p, .slice A n c, .int .i64 sh, .int .i64 wo, .int .i64 qu, .int .i64 tr] 27)).alloc (.cells (opv ⟨A0, n0, c0, A1, n1, c1, A2, n2, c2, A3, n3, c3⟩ ⟨kind, addr, err, aad, used, 4, shard, sought, (lf : Int), bit, word, false, 1, tries, item, stamp⟩) 38))).size 38 (opv hd0 sc0) := Bk.new _ _ _
  try simp only [World.size_alloc] at H O R
  generalize (((w).alloc (.cells #[.int .u32 a, .int .i64 p, .slice A n c, .int .i64 sh, .int .i64 wo, .int .i64 qu, .int .i64 tr] 27)).alloc (.cells (opv ⟨A0, n0, c0, A1, n1, c1, A2, n2, c2, A3, n3, c3⟩ ⟨kind, addr, err, aad, used, 4, shard, sought, (lf : Int), bit, word, false, 1, tries, item, stamp⟩) 38)).alloc (.cells #[.int .i64 0, .int .u32 0, .slice none 0 0, .int .i64 0, .int .u32 0, .bool false, .slice none 0 0, .slice none 0 0, .int .i64 0, .int .i64 0, .int .i64 0, .int .i64 0, .int .i64 0, .int .u64 0, .bool false, .slice none 0 0, .int .i64 0, .int .i64 0, .int .i64 0, .int .i64 0] 38) = w1 at H O R K ⊢
  obtain ⟨gR, hgR⟩ : ∃ g, g = w.heap.size + 1 + 1 := ⟨_, rfl⟩
  rw [← hgR] at R ⊢
  obtain ⟨gO, hgO⟩ : ∃ g, g = w.heap.size + 1 := ⟨_, rfl⟩
  rw [← hgO] at O ⊢
  obtain ⟨gH, hgH⟩ : ∃ g, g = w.heap.size := ⟨_, rfl⟩
  rw [← hgH] at H ⊢
  have H_b : w.heap.size ≤ gH := by omega
  have O_b : w.heap.size ≤ gO := by omega
  have R_b : w.heap.size ≤ gR := by omega
  have ne_H_O : gH ≠ gO := by omega
  have ne_H_R : gH ≠ gR := by omega
  have ne_O_R : gO ≠ gR := by omega
  clear hgH hgO hgR
  have H_0 := H.at_ (v := .int .u32 a) 0 rfl
  have H_1 := H.at_ (v := .int .i64 p) 1 rfl
  have H_z := H.lt
  go_wp2_with fail
  refine (rmany_yes hM).mono ?_
  rintro e w2 ⟨rfl, K'⟩
  clear H_0 H_1 H_z
  replace H := H.below K'
  replace O := O.below K'
  replace R := R.below K'
  replace K := Below.then_ K K'
  clear K'
  have O_11 := O.at_ (v := .int .i64 (lf : Int)) 11 rfl
  have O_16 := O.at_ (v := .int .i64 1) 16 rfl
  have O_8 := O.at_ (v := .int .i64 4) 8 rfl
  have O_z := O.lt
  go_upto_region 6 with (first | ((with_reducible refine ((TT _).out).mono ?_); rintro e w' ⟨rfl, rfl⟩) | ((with_reducible refine ((TR _).out).mono ?_); rintro e w' ⟨rfl, rfl⟩))
  clear O_11 O_16 O_8 O_z
  have X := (K.cell (p := ⟨bb, oo + cl, none⟩) hbb).trans hcc
  have O_13 := O.at_ (v := .int .u64 ((word : Nat) : Int)) 13 rfl
  have O_z := O.lt
  have O_f13 := O.fz 13
  go_upto_region 7 with (fail)
  replace H := H.far (p := ⟨gO, 13, none⟩) ne_H_O (.int .u64 (x : Nat))
  replace R := R.far (p := ⟨gO, 13, none⟩) (Ne.symm ne_O_R) (.int .u64 (x : Nat))
  replace O := O.set_ 13 (.int .u64 (x : Nat))
  replace K := K.setCell (p := ⟨gO, 13, none⟩) O_b (.int .u64 (x : Nat))
  replace O : Bk ((w2).setCell ⟨gO, 13, none⟩ (.int .u64 (x : Nat))) gO 38 (opv ⟨A0, n0, c0, A1, n1, c1, A2, n2, c2, A3, n3, c3⟩ ⟨kind, addr, err, aad, used, 4, shard, sought, (lf : Int), bit, x, false, 1, tries, item, stamp⟩) := O
  clear O_13 O_z O_f13 X
  generalize (w2).setCell ⟨gO, 13, none⟩ (.int .u64 (x : Nat)) = w3 at H O R K ⊢
  refine wp_region_held_drew (S := fun w' => Below w.heap.size w w' ∧ Bk w' gH 27 (#[.int .u32 a, .int .i64 p, .slice A n c, .int .i64 sh, .int .i64 wo, .int .i64 qu, .int .i64 tr]) ∧ Bk w' gO 38 (opv ⟨A0, n0, c0, A1, n1, c1, A2, n2, c2, A3, n3, c3⟩ ⟨kind, addr, err, aad, used, 4, shard, sought, (lf : Int), bit, x, false, 1, tries, item, stamp⟩) ∧ Bk w' gR 38 (opv hd0 sc0) ∧ True) (by kernel_rfl) ⟨K.drew, H.below ((Below.refl _ _).drew), O.below ((Below.refl _ _).drew), R.below ((Below.refl _ _).drew), trivial⟩ (fun hHeld => ?_)
  generalize w3.drew = v4 at hHeld ⊢
  refine wpAnyH_take (i := 0) (oi := ⟨some 40, _, _, _, _, _⟩) (v := ?_) rfl (by kernel_rfl) (by kernel_rfl) (by kernel_rfl) (fun _ _ _ h => h) (Or.inl ⟨by rfl, ?_⟩) hHeld ?_
  rotate_left
  · intro ww hSw
    try dsimp only at hSw
    go_simp
    try with_reducible rfl
    try omega
  try simp only [Act.put, List.setIfInBounds_toArray, List.set_cons_zero, List.set_cons_succ]
  refine wpAnyH_take (i := 1) (oi := ⟨some 41, _, _, _, _, _⟩) (v := .int .u64 (x : Nat)) rfl (by kernel_rfl) (by kernel_rfl) (by kernel_rfl) (fun _ _ _ h => h) (Or.inl ⟨by rfl, ?_⟩) hHeld ?_
  · intro ww hSw
    try dsimp only at hSw
    have O_13 := hSw.2.2.1.at_ (v := .int .u64 (x : Nat)) 13 rfl
    have O_14 := hSw.2.2.1.at_ (v := .bool false) 14 rfl
    go_simp
    try with_reducible rfl
    try omega
  try simp only [Act.put, List.setIfInBounds_toArray, List.set_cons_zero, List.set_cons_succ]
  refine wpAnyH_take (i := 2) (oi := ⟨some 42, _, _, _, _, _⟩) (v := ?_) rfl (by kernel_rfl) (by kernel_rfl) (by kernel_rfl) (fun _ _ _ h => h) (Or.inl ⟨by rfl, ?_⟩) hHeld ?_
  rotate_left
  · intro ww hSw
    try dsimp only at hSw
    go_simp
    try with_reducible rfl
    try omega
  try simp only [Act.put, List.setIfInBounds_toArray, List.set_cons_zero, List.set_cons_succ]
  refine wpAnyH_take (i := 4) (oi := ⟨some 44, _, _, _, _, _⟩) (v := ?_) rfl (by kernel_rfl) (by kernel_rfl) (by kernel_rfl) (fun _ _ _ h => h) (Or.inl ⟨by rfl, ?_⟩) hHeld ?_
  rotate_left
  · intro ww hSw
    try dsimp only at hSw
    go_simp
    try with_reducible rfl
    try omega
  try simp only [Act.put, List.setIfInBounds_toArray, List.set_cons_zero, List.set_cons_succ]
  refine wpAnyH_take (i := 5) (oi := ⟨some 45, _, _, _, _, _⟩) (v := .bool false) rfl (by kernel_rfl) (by kernel_rfl) (by kernel_rfl) (fun _ _ _ h => h) (Or.inl ⟨by rfl, ?_⟩) hHeld ?_
  · intro ww hSw
    try dsimp only at hSw
    have O_13 := hSw.2.2.1.at_ (v := .int .u64 (x : Nat)) 13 rfl
    have O_14 := hSw.2.2.1.at_ (v := .bool false) 14 rfl
    go_simp
    try with_reducible rfl
    try omega
  try simp only [Act.put, List.setIfInBounds_toArray, List.set_cons_zero, List.set_cons_succ]
  refine wpAnyH_ready (rs := [3]) (by kernel_rfl) (by simp) ?_
  refine AllReadyH.cons (o := ⟨some 43, _, _, _, _, _⟩) rfl (fun K0 hK => ?_) AllReadyH.nil
  go_simp
  refine ((TH _).out).mono ?_
  rintro e _ ⟨rfl, rfl⟩
  refine hK.out _ _ hHeld (fun hHeld' => ?_)
  clear hHeld hK K0
  have hHeld := hHeld'
  clear hHeld'
  try simp only [Act.put, List.setIfInBounds_toArray, List.set_cons_zero, List.set_cons_succ]
  refine wpAnyH_take (i := 6) (oi := ⟨some 46, _, _, _, _, _⟩) (v := .bool true) rfl (by kernel_rfl) (by kernel_rfl) (by kernel_rfl) (fun _ _ _ h => h) (Or.inl ⟨by rfl, ?_⟩) hHeld ?_
  · intro ww hSw
    try dsimp only at hSw
    go_simp
    try with_reducible rfl
    try omega
  try simp only [Act.put, List.setIfInBounds_toArray, List.set_cons_zero, List.set_cons_succ]
  refine wpAnyH_done (by kernel_rfl) ?_ _
  replace K := hHeld.1
  replace H := hHeld.2.1
  replace O := hHeld.2.2.1
  replace R := hHeld.2.2.2.1
  clear hHeld
  have O_8 := O.at_ (v := .int .i64 4) 8 rfl
  have O_z := O.lt
  have O_f8 := O.fz 8
  go_upto_region 9 with (fail)
  replace H := H.far (p := ⟨gO, 8, none⟩) ne_H_O (.int .i64 5)
  replace R := R.far (p := ⟨gO, 8, none⟩) (Ne.symm ne_O_R) (.int .i64 5)
  replace O := O.set_ 8 (.int .i64 5)
  replace K := K.setCell (p := ⟨gO, 8, none⟩) O_b (.int .i64 5)
  replace O : Bk ((v4).setCell ⟨gO, 8, none⟩ (.int .i64 5)) gO 38 (opv ⟨A0, n0, c0, A1, n1, c1, A2, n2, c2, A3, n3, c3⟩ ⟨kind, addr, err, aad, used, 5, shard, sought, (lf : Int), bit, x, false, 1, tries, item, stamp⟩) := O
  clear O_8 O_z O_f8
  generalize (v4).setCell ⟨gO, 8, none⟩ (.int .i64 5) = w5 at H O R K ⊢
  refine wp_region_held_drew (S := fun w' => Below w.heap.size w w' ∧ Bk w' gH 27 (#[.int .u32 a, .int .i64 p, .slice A n c, .int .i64 sh, .int .i64 wo, .int .i64 qu, .int .i64 tr]) ∧ Bk w' gO 38 (opv ⟨A0, n0, c0, A1, n1, c1, A2, n2, c2, A3, n3, c3⟩ ⟨kind, addr, err, aad, used, 5, shard, sought, (lf : Int), bit, x, false, 1, tries, item, stamp⟩) ∧ (∃ v : Array Value, v.size = 20 ∧ Bk w' gR 38 v) ∧ True) (by kernel_rfl) ⟨K.drew, H.below ((Below.refl _ _).drew), O.below ((Below.refl _ _).drew), ⟨_, rfl, R.below ((Below.refl _ _).drew)⟩, trivial⟩ (fun hHeld => ?_)
  generalize w5.drew = v6 at hHeld ⊢
  refine wpAnyH_take (i := 0) (oi := ⟨some 48, _, _, _, _, _⟩) (v := ?_) rfl (by kernel_rfl) (by kernel_rfl) (by kernel_rfl) (fun _ _ _ h => h) (Or.inl ⟨by rfl, ?_⟩) hHeld ?_
  rotate_left
  · intro ww hSw
    try dsimp only at hSw
    go_simp
    try with_reducible rfl
    try omega
  try simp only [Act.put, List.setIfInBounds_toArray, List.set_cons_zero, List.set_cons_succ]
  refine wpAnyH_take (i := 1) (oi := ⟨some 49, _, _, _, _, _⟩) (v := .agg (opv ⟨A0, n0, c0, A1, n1, c1, A2, n2, c2, A3, n3, c3⟩ ⟨kind, addr, err, aad, used, 5, shard, sought, (lf : Int), bit, x, false, 1, tries, item, stamp⟩)) rfl (by kernel_rfl) (by kernel_rfl) (by kernel_rfl) (fun _ _ _ h => h) (yieldsIf_load_row (by rfl) 38 (.tmp 5) rfl gO rfl 38 _ (0, 0) _ (fun _ hS => hS.2.2.1) Try.underlying38 rfl op_sz) hHeld ?_
  try simp only [Act.put, List.setIfInBounds_toArray, List.set_cons_zero, List.set_cons_succ]
  refine wpAnyH_take (i := 2) (oi := ⟨some 6, _, _, _, _, _⟩) (v := ?_) rfl (by kernel_rfl) (by kernel_rfl) (by kernel_rfl) (fun _ _ _ h => h) (Or.inl ⟨by rfl, ?_⟩) hHeld ?_
  rotate_left
  · intro ww hSw
    try dsimp only at hSw
    go_simp
    try with_reducible rfl
    try omega
  try simp only [Act.put, List.setIfInBounds_toArray, List.set_cons_zero, List.set_cons_succ]
  refine wpAnyH_ready (rs := [3]) (by kernel_rfl) (by simp) ?_
  refine AllReadyH.cons (o := ⟨none, _, _, _, _, _⟩) rfl (fun K0 hK => ?_) AllReadyH.nil
  rw [if_pos (by rfl)]
  refine wp_store_row 38 (.tmp 7) (.tmp 49) rfl gR _ rfl rfl _ _ hHeld.2.2.2.1.choose_spec.2 op_sz hHeld.2.2.2.1.choose_spec.1 (opv_one _ _) ?_
  have new_R := Bk.row hHeld.2.2.2.1.choose_spec.2 (opv ⟨A0, n0, c0, A1, n1, c1, A2, n2, c2, A3, n3, c3⟩ ⟨kind, addr, err, aad, used, 5, shard, sought, (lf : Int), bit, x, false, 1, tries, item, stamp⟩)
  refine hK.out _ _ ⟨below_setRow hHeld.1 R_b _, hHeld.2.1.row_far ne_H_R _, hHeld.2.2.1.row_far ne_O_R _, ⟨_, rfl, new_R⟩, trivial⟩ (fun hHeld' => ?_)
  clear hHeld hK K0
  have hHeld := hHeld'
  clear hHeld'
  generalize v6.setRow gR (opv ⟨A0, n0, c0, A1, n1, c1, A2, n2, c2, A3, n3, c3⟩ ⟨kind, addr, err, aad, used, 5, shard, sought, (lf : Int), bit, x, false, 1, tries, item, stamp⟩) = v7 at hHeld new_R  ⊢
  try simp only [Act.put]
  refine wpAnyH_done (by kernel_rfl) ?_ _
  replace K := hHeld.1
  replace H := hHeld.2.1
  replace O := hHeld.2.2.1
  replace R := new_R
  clear new_R
  clear hHeld
  go_wp2
  refine bodyPost_ret (v := .tuple #[.slice (some ⟨bb, oo, none⟩) m d, .agg (opv ⟨A0, n0, c0, A1, n1, c1, A2, n2, c2, A3, n3, c3⟩ ⟨kind, addr, err, aad, used, 5, shard, sought, (lf : Int), bit, x, false, 1, tries, item, stamp⟩)]) ?_ rfl ?_
  · exact results_tc (fn := Try.f18) Try.results18 _ _ gR _ _ (0, 0) _ rfl R Try.underlying38 rfl op_sz
  exact ⟨_, _, rfl, hU.below K, K⟩
set_option maxRecDepth 100000 in
set_option maxHeartbeats 2000000 in
theorem rs4_1f_y (ha : a < 4294967296) (hM : Much a p M) (hn : h.n0 ≤ 65536) (hI : IS .u32 lo w h.A0 h.n0 h.c0 xs) (hin : InB a M h.n0 xs) (hU : US w B m d ys) (hm : m ≤ 65536) (hi1 : 0 ≤ s.item) (hi2 : s.item ≤ 65536) (hlf : s.leaf = (lf : Int)) (hlv : lf < lv M) (hcm : cl < m) (hb2 : b < 64) (hw : s.word < 18446744073709551616) (hcl : cl = lv M + tv M) (hb : b = lf / 64) (hat : s.at_ = 1) (hfu : s.full = false) (hph : s.phase = 4) (hbit : (gt ys cl).testBit b = false) :
    Calls Try.prog 18 #[.agg #[.int .u32 a, .int .i64 p, .slice A n c, .int .i64 sh, .int .i64 wo, .int .i64 qu, .int .i64 tr], .slice B m d, .agg (opv h s)] w (RetRef h (gon a h.n0 xs (worded s (gt ys cl))) m ys w) := by
  have hl3 := lv_le hM.most
  have TT := fun w => Lib.hid (rtop_any M lf hM.most (by omega) w)
  have TR := fun w => Lib.hid (rroot_any M lf hM.most (by omega) w)
  rw [← hcl, ← hb] at TR
  generalize (lv M + lf / 64) = z1 at TT
  generalize lf % 64 = z2 at TT
  obtain ⟨bb, oo, rfl, hbb, hcc⟩ := hU.get hcm
  have TH := fun w => Lib.hid (rhas_any (gt ys cl) b (gt_lt hU.fit cl) hb2 w)
  rw [hbit] at TH
  clear hbit
  obtain ⟨x, hx⟩ : ∃ x, x = gt ys cl := ⟨_, rfl⟩
  rw [← hx] at hcc TH ⊢
  clear hx
  have TG := fun w (hI : IS .u32 lo w h.A0 h.n0 h.c0 xs) => Lib.hid (rgoes_any (w := w) (sh := sh) (wo := wo) (qu := qu) (tr := tr) (A := A) (n := n) (c := c) (s := worded s x) ha hM hn hI hin hi1 hi2)
  have hcm2 : (cl : Int) < (m : Int) := by omega
  clear hcl hb
  rcases s with ⟨kind, addr, err, aad, used, phase, shard, sought, leaf, bit, word, full, at_, tries, item, stamp⟩
  rcases h with ⟨A0, n0, c0, A1, n1, c1, A2, n2, c2, A3, n3, c3⟩
  dsimp only at *
  subst hlf hat hph hfu
  go_enter Try.func18, Try.ntmps18
  go_upto_region 1 with (fail)
  have K := below_alloc w (.cells #[.int .u32 a, .int .i64 p, .slice A n c, .int .i64 sh, .int .i64 wo, .int .i64 qu, .int .i64 tr] 27)
  have H : Bk (World.alloc (w) (.cells #[.int .u32 a, .int .i64 p, .slice A n c, .int .i64 sh, .int .i64 wo, .int .i64 qu, .int .i64 tr] 27)) (World.heap (w)).size 27 (#[.int .u32 a, .int .i64 p, .slice A n c, .int .i64 sh, .int .i64 wo, .int .i64 qu, .int .i64 tr]) := Bk.new _ _ _
  replace H := H.alloc (.cells (opv ⟨A0, n0, c0, A1, n1, c1, A2, n2, c2, A3, n3, c3⟩ ⟨kind, addr, err, aad, used, 4, shard, sought, (lf : Int), bit, word, false, 1, tries, item, stamp⟩) 38)
  replace K := Below.then_ K (below_alloc _ (.cells (opv ⟨A0, n0, c0, A1, n1, c1, A2, n2, c2, A3, n3, c3⟩ ⟨kind, addr, err, aad, used, 4, shard, sought, (lf : Int), bit, word, false, 1, tries, item, stamp⟩) 38))
  have O : Bk (World.alloc ((w).alloc (.cells #[.int .u32 a, .int .i64 p, .slice A n c, .int .i64 sh, .int .i64 wo, .int .i64 qu, .int .i64 tr] 27)) (.cells (opv ⟨A0, n0, c0, A1, n1, c1, A2, n2, c2, A3, n3, c3⟩ ⟨kind, addr, err, aad, used, 4, shard, sought, (lf : Int), bit, word, false, 1, tries, item, stamp⟩) 38)) (World.heap ((w).alloc (.cells #[.int .u32 a, .int .i64 p, .slice A n c, .int .i64 sh, .int .i64 wo, .int .i64 qu, .int .i64 tr] 27))).size 38 (opv ⟨A0, n0, c0, A1, n1, c1, A2, n2, c2, A3, n3, c3⟩ ⟨kind, addr, err, aad, used, 4, shard, sought, (lf : Int), bit, word, false, 1, tries, item, stamp⟩) := Bk.new _ _ _
  replace H := H.alloc (.cells #[.int .i64 0, .int .u32 0, .slice none 0 0, .int .i64 0, .int .u32 0, .bool false, .slice none 0 0, .slice none 0 0, .int .i64 0, .int .i64 0, .int .i64 0, .int .i64 0, .int .i64 0, .int .u64 0, .bool false, .slice none 0 0, .int .i64 0, .int .i64 0, .int .i64 0, .int .i64 0] 38)
  replace O := O.alloc (.cells #[.int .i64 0, .int .u32 0, .slice none 0 0, .int .i64 0, .int .u32 0, .bool false, .slice none 0 0, .slice none 0 0, .int .i64 0, .int .i64 0, .int .i64 0, .int .i64 0, .int .i64 0, .int .u64 0, .bool false, .slice none 0 0, .int .i64 0, .int .i64 0, .int .i64 0, .int .i64 0] 38)
  replace K := Below.then_ K (below_alloc _ (.cells #[.int .i64 0, .int .u32 0, .slice none 0 0, .int .i64 0, .int .u32 0, .bool false, .slice none 0 0, .slice none 0 0, .int .i64 0, .int .i64 0, .int .i64 0, .int .i64 0, .int .i64 0, .int .u64 0, .bool false, .slice none 0 0, .int .i64 0, .int .i64 0, .int .i64 0, .int .i64 0] 38))
  have R : Bk (World.alloc (((w).alloc (.cells #[.int .u32 a, .int .i64 p, .slice A n c, .int .i64 sh, .int .i64 wo, .int .i64 qu, .int .i64 tr] 27)).alloc (.cells (opv ⟨A0, n0, c0, A1, n1, c1, A2, n2, c2, A3, n3, c3⟩ ⟨kind, addr, err, aad, used, 4, shard, sought, (lf : Int), bit, word, false, 1, tries, item, stamp⟩) 38)) (.cells #[.int .i64 0, .int .u32 0, .slice none 0 0, .int .i64 0, .int .u32 0, .bool false, .slice none 0 0, .slice none 0 0, .int .i64 0, .int .i64 0, .int .i64 0, .int .i64 0, .int .i64 0, .int .u64 0, .bool false, .slice none 0 0, .int .i64 0, .int .i64 0, .int .i64 0, .int .i64 0] 38)) (World.heap (((w).alloc (.cells #[.int .u32 a, .int .i64 p, .slice A n c, .int .i64 sh, .int .i64 wo, .int .i64 qu, .int .i64 tr] 27)).alloc (.cells (opv ⟨A0, n0, c0, A1, n1, c1, A2, n2, c2, A3, n3, c3⟩ ⟨kind, addr, err, aad, used, 4, shard, sought, (lf : Int), bit, word, false, 1, tries, item, stamp⟩) 38))).size 38 (opv hd0 sc0) := Bk.new _ _ _
  try simp only [World.size_alloc] at H O R
  generalize (((w).alloc (.cells #[.int .u32 a, .int .i64 p, .slice A n c, .int .i64 sh, .int .i64 wo, .int .i64 qu, .int .i64 tr] 27)).alloc (.cells (opv ⟨A0, n0, c0, A1, n1, c1, A2, n2, c2, A3, n3, c3⟩ ⟨kind, addr, err, aad, used, 4, shard, sought, (lf : Int), bit, word, false, 1, tries, item, stamp⟩) 38)).alloc (.cells #[.int .i64 0, .int .u32 0, .slice none 0 0, .int .i64 0, .int .u32 0, .bool false, .slice none 0 0, .slice none 0 0, .int .i64 0, .int .i64 0, .int .i64 0, .int .i64 0, .int .i64 0, .int .u64 0, .bool false, .slice none 0 0, .int .i64 0, .int .i64 0, .int .i64 0, .int .i64 0] 38) = w1 at H O R K ⊢
  obtain ⟨gR, hgR⟩ : ∃ g, g = w.heap.size + 1 + 1 := ⟨_, rfl⟩
  rw [← hgR] at R ⊢
  obtain ⟨gO, hgO⟩ : ∃ g, g = w.heap.size + 1 := ⟨_, rfl⟩
  rw [← hgO] at O ⊢
  obtain ⟨gH, hgH⟩ : ∃ g, g = w.heap.size := ⟨_, rfl⟩
  rw [← hgH] at H ⊢
  have H_b : w.heap.size ≤ gH := by omega
  have O_b : w.heap.size ≤ gO := by omega
  have R_b : w.heap.size ≤ gR := by omega
  have ne_H_O : gH ≠ gO := by omega
  have ne_H_R : gH ≠ gR := by omega
  have ne_O_R : gO ≠ gR := by omega
  clear hgH hgO hgR
  have H_0 := H.at_ (v := .int .u32 a) 0 rfl
  have H_1 := H.at_ (v := .int .i64 p) 1 rfl
  have H_z := H.lt
  go_wp2_with fail
  refine (rmany_yes hM).mono ?_
  rintro e w2 ⟨rfl, K'⟩
  clear H_0 H_1 H_z
  replace H := H.below K'
  replace O := O.below K'
  replace R := R.below K'
  replace K := Below.then_ K K'
  clear K'
  have O_11 := O.at_ (v := .int .i64 (lf : Int)) 11 rfl
  have O_16 := O.at_ (v := .int .i64 1) 16 rfl
  have O_8 := O.at_ (v := .int .i64 4) 8 rfl
  have O_z := O.lt
  go_upto_region 6 with (first | ((with_reducible refine ((TT _).out).mono ?_); rintro e w' ⟨rfl, rfl⟩) | ((with_reducible refine ((TR _).out).mono ?_); rintro e w' ⟨rfl, rfl⟩))
  clear O_11 O_16 O_8 O_z
  have X := (K.cell (p := ⟨bb, oo + cl, none⟩) hbb).trans hcc
  have O_13 := O.at_ (v := .int .u64 ((word : Nat) : Int)) 13 rfl
  have O_z := O.lt
  have O_f13 := O.fz 13
  go_upto_region 7 with (fail)
  replace H := H.far (p := ⟨gO, 13, none⟩) ne_H_O (.int .u64 (x : Nat))
  replace R := R.far (p := ⟨gO, 13, none⟩) (Ne.symm ne_O_R) (.int .u64 (x : Nat))
  replace O := O.set_ 13 (.int .u64 (x : Nat))
  replace K := K.setCell (p := ⟨gO, 13, none⟩) O_b (.int .u64 (x : Nat))
  replace O : Bk ((w2).setCell ⟨gO, 13, none⟩ (.int .u64 (x : Nat))) gO 38 (opv ⟨A0, n0, c0, A1, n1, c1, A2, n2, c2, A3, n3, c3⟩ ⟨kind, addr, err, aad, used, 4, shard, sought, (lf : Int), bit, x, false, 1, tries, item, stamp⟩) := O
  clear O_13 O_z O_f13 X
  generalize (w2).setCell ⟨gO, 13, none⟩ (.int .u64 (x : Nat)) = w3 at H O R K ⊢
  refine wp_region_held_drew (S := fun w' => Below w.heap.size w w' ∧ Bk w' gH 27 (#[.int .u32 a, .int .i64 p, .slice A n c, .int .i64 sh, .int .i64 wo, .int .i64 qu, .int .i64 tr]) ∧ Bk w' gO 38 (opv ⟨A0, n0, c0, A1, n1, c1, A2, n2, c2, A3, n3, c3⟩ ⟨kind, addr, err, aad, used, 4, shard, sought, (lf : Int), bit, x, false, 1, tries, item, stamp⟩) ∧ Bk w' gR 38 (opv hd0 sc0) ∧ True) (by kernel_rfl) ⟨K.drew, H.below ((Below.refl _ _).drew), O.below ((Below.refl _ _).drew), R.below ((Below.refl _ _).drew), trivial⟩ (fun hHeld => ?_)
  generalize w3.drew = v4 at hHeld ⊢
  refine wpAnyH_take (i := 0) (oi := ⟨some 40, _, _, _, _, _⟩) (v := ?_) rfl (by kernel_rfl) (by kernel_rfl) (by kernel_rfl) (fun _ _ _ h => h) (Or.inl ⟨by rfl, ?_⟩) hHeld ?_
  rotate_left
  · intro ww hSw
    try dsimp only at hSw
    go_simp
    try with_reducible rfl
    try omega
  try simp only [Act.put, List.setIfInBounds_toArray, List.set_cons_zero, List.set_cons_succ]
  refine wpAnyH_take (i := 1) (oi := ⟨some 41, _, _, _, _, _⟩) (v := .int .u64 (x : Nat)) rfl (by kernel_rfl) (by kernel_rfl) (by kernel_rfl) (fun _ _ _ h => h) (Or.inl ⟨by rfl, ?_⟩) hHeld ?_
  · intro ww hSw
    try dsimp only at hSw
    have O_13 := hSw.2.2.1.at_ (v := .int .u64 (x : Nat)) 13 rfl
    have O_14 := hSw.2.2.1.at_ (v := .bool false) 14 rfl
    go_simp
    try with_reducible rfl
    try omega
  try simp only [Act.put, List.setIfInBounds_toArray, List.set_cons_zero, List.set_cons_succ]
  refine wpAnyH_take (i := 2) (oi := ⟨some 42, _, _, _, _, _⟩) (v := ?_) rfl (by kernel_rfl) (by kernel_rfl) (by kernel_rfl) (fun _ _ _ h => h) (Or.inl ⟨by rfl, ?_⟩) hHeld ?_
  rotate_left
  · intro ww hSw
    try dsimp only at hSw
    go_simp
    try with_reducible rfl
    try omega
  try simp only [Act.put, List.setIfInBounds_toArray, List.set_cons_zero, List.set_cons_succ]
  refine wpAnyH_take (i := 4) (oi := ⟨some 44, _, _, _, _, _⟩) (v := ?_) rfl (by kernel_rfl) (by kernel_rfl) (by kernel_rfl) (fun _ _ _ h => h) (Or.inl ⟨by rfl, ?_⟩) hHeld ?_
  rotate_left
  · intro ww hSw
    try dsimp only at hSw
    go_simp
    try with_reducible rfl
    try omega
  try simp only [Act.put, List.setIfInBounds_toArray, List.set_cons_zero, List.set_cons_succ]
  refine wpAnyH_take (i := 5) (oi := ⟨some 45, _, _, _, _, _⟩) (v := .bool false) rfl (by kernel_rfl) (by kernel_rfl) (by kernel_rfl) (fun _ _ _ h => h) (Or.inl ⟨by rfl, ?_⟩) hHeld ?_
  · intro ww hSw
    try dsimp only at hSw
    have O_13 := hSw.2.2.1.at_ (v := .int .u64 (x : Nat)) 13 rfl
    have O_14 := hSw.2.2.1.at_ (v := .bool false) 14 rfl
    go_simp
    try with_reducible rfl
    try omega
  try simp only [Act.put, List.setIfInBounds_toArray, List.set_cons_zero, List.set_cons_succ]
  refine wpAnyH_ready (rs := [3]) (by kernel_rfl) (by simp) ?_
  refine AllReadyH.cons (o := ⟨some 43, _, _, _, _, _⟩) rfl (fun K0 hK => ?_) AllReadyH.nil
  go_simp
  refine ((TH _).out).mono ?_
  rintro e _ ⟨rfl, rfl⟩
  refine hK.out _ _ hHeld (fun hHeld' => ?_)
  clear hHeld hK K0
  have hHeld := hHeld'
  clear hHeld'
  try simp only [Act.put, List.setIfInBounds_toArray, List.set_cons_zero, List.set_cons_succ]
  refine wpAnyH_take (i := 6) (oi := ⟨some 46, _, _, _, _, _⟩) (v := .bool false) rfl (by kernel_rfl) (by kernel_rfl) (by kernel_rfl) (fun _ _ _ h => h) (Or.inl ⟨by rfl, ?_⟩) hHeld ?_
  · intro ww hSw
    try dsimp only at hSw
    go_simp
    try with_reducible rfl
    try omega
  try simp only [Act.put, List.setIfInBounds_toArray, List.set_cons_zero, List.set_cons_succ]
  refine wpAnyH_done (by kernel_rfl) ?_ _
  replace K := hHeld.1
  replace H := hHeld.2.1
  replace O := hHeld.2.2.1
  replace R := hHeld.2.2.2.1
  clear hHeld
  have O_16 := O.at_ (v := .int .i64 1) 16 rfl
  have O_14 := O.at_ (v := .bool false) 14 rfl
  have O_13 := O.at_ (v := .int .u64 (x : Nat)) 13 rfl
  have O_z := O.lt
  go_upto_region 17 with (fail)
  clear O_16 O_14 O_13 O_z
  go_wp2_with (first | (refine wpList_load_row rfl 27 (.tmp 3) rfl gH rfl _ _ (0, 0) _ H Try.underlying27 rfl cf_sz ?_) | (refine wpList_load_row rfl 38 (.tmp 5) rfl gO rfl _ _ (0, 0) _ O Try.underlying38 rfl op_sz ?_))
  refine ((TG _ (hI.below K)).out).mono ?_
  rintro e w5 ⟨rfl, K'⟩
  replace H := H.below K'
  replace O := O.below K'
  replace R := R.below K'
  replace K := Below.then_ K K'
  clear K'
  go_wp2_with (refine wpList_store_row rfl 38 (.tmp 7) (.tmp 88) rfl gR _ rfl rfl _ _ R op_sz rfl (opv_one _ _) ?_)
  replace H := H.row_far ne_H_R (opv ⟨A0, n0, c0, A1, n1, c1, A2, n2, c2, A3, n3, c3⟩ (gon a n0 xs (worded ⟨kind, addr, err, aad, used, 4, shard, sought, (lf : Int), bit, word, false, 1, tries, item, stamp⟩ x)))
  replace O := O.row_far ne_O_R (opv ⟨A0, n0, c0, A1, n1, c1, A2, n2, c2, A3, n3, c3⟩ (gon a n0 xs (worded ⟨kind, addr, err, aad, used, 4, shard, sought, (lf : Int), bit, word, false, 1, tries, item, stamp⟩ x)))
  replace R := R.row (opv ⟨A0, n0, c0, A1, n1, c1, A2, n2, c2, A3, n3, c3⟩ (gon a n0 xs (worded ⟨kind, addr, err, aad, used, 4, shard, sought, (lf : Int), bit, word, false, 1, tries, item, stamp⟩ x)))
  replace K := below_setRow K R_b (opv ⟨A0, n0, c0, A1, n1, c1, A2, n2, c2, A3, n3, c3⟩ (gon a n0 xs (worded ⟨kind, addr, err, aad, used, 4, shard, sought, (lf : Int), bit, word, false, 1, tries, item, stamp⟩ x)))
  generalize w5.setRow gR (opv ⟨A0, n0, c0, A1, n1, c1, A2, n2, c2, A3, n3, c3⟩ (gon a n0 xs (worded ⟨kind, addr, err, aad, used, 4, shard, sought, (lf : Int), bit, word, false, 1, tries, item, stamp⟩ x))) = w6 at H O R K ⊢
  refine bodyPost_ret (v := .tuple #[.slice (some ⟨bb, oo, none⟩) m d, .agg (opv ⟨A0, n0, c0, A1, n1, c1, A2, n2, c2, A3, n3, c3⟩ (gon a n0 xs (worded ⟨kind, addr, err, aad, used, 4, shard, sought, (lf : Int), bit, word, false, 1, tries, item, stamp⟩ x)))]) ?_ rfl ?_
  · exact results_tc (fn := Try.f18) Try.results18 _ _ gR _ _ (0, 0) _ rfl R Try.underlying38 rfl op_sz
  exact ⟨_, _, rfl, hU.below K, K⟩
end
end Go.Proofs.Ytlfdekeahplidaa
