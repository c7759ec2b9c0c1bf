/-
  The walk of the law HintLost: for every configuration, cells, leaf, mark and word it answers true.
-/
import Derived.Test.YtlfdekeahplidaaHintRun
import Derived.Test.YtlfdekeahplidaaHintFits
namespace Go.Proofs.Ytlfdekeahplidaa.hintLost
open Go.RowKit
set_option linter.unusedVariables false
section
variable {w : World} {lo a m d X W M lf cl : Nat} {p sh wo qu tr : Int} {A B : Option Addr} {n c : Nat} {zs : List Int} {ys : List Nat} {f : Bool}
theorem no0 (ha : a < 4294967296) (h0 : IS .i64 lo w A n c zs) (hX : X < 65536) (hb : confB a p n zs sh wo qu tr = false) :
    Calls Try.prog 8 #[.agg #[.int .u32 a, .int .i64 p, .slice A n c, .int .i64 sh, .int .i64 wo, .int .i64 qu, .int .i64 tr], .slice B m d, .int .u16 X, .bool f, .int .u64 W] w (RetBo true w) := by
  replace hb := Lib.hid hb
  go_enter Try.func8, Try.ntmps8
  go_upto_region 1 with (fail)
  have K := below_alloc w (.cells #[.int .u32 a, .int .i64 p, .slice A n c, .int .i64 sh, .int .i64 wo, .int .i64 qu, .int .i64 tr] 27)
  have H : Bk (World.alloc (w) (.cells #[.int .u32 a, .int .i64 p, .slice A n c, .int .i64 sh, .int .i64 wo, .int .i64 qu, .int .i64 tr] 27)) (World.heap (w)).size 27 (#[.int .u32 a, .int .i64 p, .slice A n c, .int .i64 sh, .int .i64 wo, .int .i64 qu, .int .i64 tr]) := Bk.new _ _ _
  try simp only [World.size_alloc] at H
  generalize (w).alloc (.cells #[.int .u32 a, .int .i64 p, .slice A n c, .int .i64 sh, .int .i64 wo, .int .i64 qu, .int .i64 tr] 27) = w1 at H K ⊢
  obtain ⟨gH, hgH⟩ : ∃ g, g = w.heap.size := ⟨_, rfl⟩
  rw [← hgH] at H ⊢
  have H_b : w.heap.size ≤ gH := by omega
  clear hgH
  go_wp2_with fail
  refine (awake_any _).mono ?_
  rintro e w2 ⟨rfl, K'⟩
  replace H := H.below K'
  replace K := Below.then_ K K'
  clear K'
  go_wp2_with (refine wpList_load_want (by rfl) 27 (.tmp 5) rfl gH rfl _ _ (0, 0) _ H Try.underlying27 rfl cf_sz ?_)
  refine (fits0 ha (h0.below K) hb.out).mono ?_
  rintro e w3 ⟨rfl, K'⟩
  replace H := H.below K'
  replace K := Below.then_ K K'
  clear K'
  go_wp2_with fail
  refine (awake_any _).mono ?_
  rintro e w77 ⟨rfl, K'⟩
  replace K := Below.then_ K K'
  go_wp2
  go_ret
  exact ⟨rfl, K⟩
theorem no1 (ha : a < 4294967296) (h0 : IS .i64 lo w A n c zs) (hX : X < 65536) (hb : confB a p n zs sh wo qu tr = true) (hM : Much a p M) (hm : ¬ M ≤ 4096) :
    Calls Try.prog 8 #[.agg #[.int .u32 a, .int .i64 p, .slice A n c, .int .i64 sh, .int .i64 wo, .int .i64 qu, .int .i64 tr], .slice B m d, .int .u16 X, .bool f, .int .u64 W] w (RetBo true w) := by
  replace hb := Lib.hid hb
  go_enter Try.func8, Try.ntmps8
  go_upto_region 1 with (fail)
  have K := below_alloc w (.cells #[.int .u32 a, .int .i64 p, .slice A n c, .int .i64 sh, .int .i64 wo, .int .i64 qu, .int .i64 tr] 27)
  have H : Bk (World.alloc (w) (.cells #[.int .u32 a, .int .i64 p, .slice A n c, .int .i64 sh, .int .i64 wo, .int .i64 qu, .int .i64 tr] 27)) (World.heap (w)).size 27 (#[.int .u32 a, .int .i64 p, .slice A n c, .int .i64 sh, .int .i64 wo, .int .i64 qu, .int .i64 tr]) := Bk.new _ _ _
  try simp only [World.size_alloc] at H
  generalize (w).alloc (.cells #[.int .u32 a, .int .i64 p, .slice A n c, .int .i64 sh, .int .i64 wo, .int .i64 qu, .int .i64 tr] 27) = w1 at H K ⊢
  obtain ⟨gH, hgH⟩ : ∃ g, g = w.heap.size := ⟨_, rfl⟩
  rw [← hgH] at H ⊢
  have H_b : w.heap.size ≤ gH := by omega
  clear hgH
  go_wp2_with fail
  refine (awake_any _).mono ?_
  rintro e w2 ⟨rfl, K'⟩
  replace H := H.below K'
  replace K := Below.then_ K K'
  clear K'
  go_wp2_with (refine wpList_load_want (by rfl) 27 (.tmp 5) rfl gH rfl _ _ (0, 0) _ H Try.underlying27 rfl cf_sz ?_)
  refine (fits1 ha (h0.below K) hb.out hM hm).mono ?_
  rintro e w3 ⟨rfl, K'⟩
  replace H := H.below K'
  replace K := Below.then_ K K'
  clear K'
  go_wp2_with fail
  refine (awake_any _).mono ?_
  rintro e w77 ⟨rfl, K'⟩
  replace K := Below.then_ K K'
  go_wp2
  go_ret
  exact ⟨rfl, K⟩
theorem no2 (ha : a < 4294967296) (h0 : IS .i64 lo w A n c zs) (hX : X < 65536) (hb : confB a p n zs sh wo qu tr = true) (hM : Much a p M) (hm : M ≤ 4096) (hc : m ≠ lv M + tv M + 1) :
    Calls Try.prog 8 #[.agg #[.int .u32 a, .int .i64 p, .slice A n c, .int .i64 sh, .int .i64 wo, .int .i64 qu, .int .i64 tr], .slice B m d, .int .u16 X, .bool f, .int .u64 W] w (RetBo true w) := by
  replace hb := Lib.hid hb
  go_enter Try.func8, Try.ntmps8
  go_upto_region 1 with (fail)
  have K := below_alloc w (.cells #[.int .u32 a, .int .i64 p, .slice A n c, .int .i64 sh, .int .i64 wo, .int .i64 qu, .int .i64 tr] 27)
  have H : Bk (World.alloc (w) (.cells #[.int .u32 a, .int .i64 p, .slice A n c, .int .i64 sh, .int .i64 wo, .int .i64 qu, .int .i64 tr] 27)) (World.heap (w)).size 27 (#[.int .u32 a, .int .i64 p, .slice A n c, .int .i64 sh, .int .i64 wo, .int .i64 qu, .int .i64 tr]) := Bk.new _ _ _
  try simp only [World.size_alloc] at H
  generalize (w).alloc (.cells #[.int .u32 a, .int .i64 p, .slice A n c, .int .i64 sh, .int .i64 wo, .int .i64 qu, .int .i64 tr] 27) = w1 at H K ⊢
  obtain ⟨gH, hgH⟩ : ∃ g, g = w.heap.size := ⟨_, rfl⟩
  rw [← hgH] at H ⊢
  have H_b : w.heap.size ≤ gH := by omega
  clear hgH
  go_wp2_with fail
  refine (awake_any _).mono ?_
  rintro e w2 ⟨rfl, K'⟩
  replace H := H.below K'
  replace K := Below.then_ K K'
  clear K'
  go_wp2_with (refine wpList_load_want (by rfl) 27 (.tmp 5) rfl gH rfl _ _ (0, 0) _ H Try.underlying27 rfl cf_sz ?_)
  refine (fits2 ha (h0.below K) hb.out hM hm hc).mono ?_
  rintro e w3 ⟨rfl, K'⟩
  replace H := H.below K'
  replace K := Below.then_ K K'
  clear K'
  go_wp2_with fail
  refine (awake_any _).mono ?_
  rintro e w77 ⟨rfl, K'⟩
  replace K := Below.then_ K K'
  go_wp2
  go_ret
  exact ⟨rfl, K⟩
set_option maxRecDepth 100000 in
set_option maxHeartbeats 1000000 in
theorem p0a (ha : a < 4294967296) (h0 : IS .i64 lo w A n c zs) (hU : US w B m d ys) (hX : X < 65536) (hW : W < 18446744073709551616) (hb : confB a p n zs sh wo qu tr = true) (hM : Much a p M) (hm4 : M ≤ 4096) (hmm : m = lv M + tv M + 1) (hlf : (X : Int) % (lv M : Nat) = (lf : Nat)) (hlv : lf < lv M) (hcl : cl = lv M + lf / 64) (hbit : (gt ys (lv M + lf / 64)).testBit (lf % 64) = f) (hgo : f = true ∧ (gt ys (lv M + lf / 64)) ≠ 18446744073709551615) :
    Calls Try.prog 8 #[.agg #[.int .u32 a, .int .i64 p, .slice A n c, .int .i64 sh, .int .i64 wo, .int .i64 qu, .int .i64 tr], .slice B m d, .int .u16 X, .bool f, .int .u64 W] w (RetBo true w) := by
  have hbs := stepb hM.most hlv hmm
  have hx64 := gt_lt hU.fit (lv M + lf / 64)
  have T0 : ∀ (wq : World) (Bq A0 A1 A2 A3 : Option Addr) (dq c0 c1 c2 c3 lq : Nat), US wq Bq m dq ys → Lists lq wq ⟨A0, 0, c0, A1, 0, c1, A2, 0, c2, A3, 0, c3⟩ ⟨[], [], [], []⟩ → Hid (Calls Try.prog 17 #[.agg #[.int .u32 a, .int .i64 p, .slice A n c, .int .i64 sh, .int .i64 wo, .int .i64 qu, .int .i64 tr], .slice Bq m dq, .agg (opv ⟨A0, 0, c0, A1, 0, c1, A2, 0, c2, A3, 0, c3⟩ (mk_ 4 lf 0 f 0))] wq (RetB m (mk_ 0 lf 0 false 0) ys Bq wq)) := fun wq Bq A0 A1 A2 A3 dq c0 c1 c2 c3 lq U L => stepB ha hM hmm hlv (by omega) (.inl rfl) (.inl rfl) U L (o4_0.trans ((lk_yes hbit).trans (dn_go (.inr hgo)))) (c4)
  have TT := fun w => Lib.hid (rtop_any M lf hM.most (by have := lv_le hM.most; omega) w)
  have TL := fun w => Lib.hid (rleaves_any M hM.most w)
  rw [← hcl] at TT
  generalize lf % 64 = zb at TT
  obtain ⟨bb, oo, rfl, hbb, hcc⟩ := hU.get (j := cl) (by omega)
  have hcm : cl < m := by omega
  have hcm2 : (cl : Int) < (m : Int) := by omega
  rw [show gt ys cl = (gt ys (lv M + lf / 64)) by rw [hcl]] at hcc
  have hlp : 0 < lv M := by omega
  have hl2 := lv_le hM.most
  replace hmm := Lib.hid hmm
  replace hb := Lib.hid hb
  clear hcl
  try replace hbit := Lib.hid hbit
  try replace hgo := Lib.hid hgo
  try replace hro := Lib.hid hro
  try replace hz := Lib.hid hz
  try replace hset := Lib.hid hset
  try replace hset3 := Lib.hid hset3
  try clear hl
  try clear hfit
  try clear hx64
  try clear hxp
  try clear hz64
  try clear h3
  try clear h4
  go_enter Try.func8, Try.ntmps8
  go_upto_region 1 with (fail)
  have K := below_alloc w (.cells #[.int .u32 a, .int .i64 p, .slice A n c, .int .i64 sh, .int .i64 wo, .int .i64 qu, .int .i64 tr] 27)
  have H : Bk (World.alloc (w) (.cells #[.int .u32 a, .int .i64 p, .slice A n c, .int .i64 sh, .int .i64 wo, .int .i64 qu, .int .i64 tr] 27)) (World.heap (w)).size 27 (#[.int .u32 a, .int .i64 p, .slice A n c, .int .i64 sh, .int .i64 wo, .int .i64 qu, .int .i64 tr]) := Bk.new _ _ _
  try simp only [World.size_alloc] at H
  generalize (w).alloc (.cells #[.int .u32 a, .int .i64 p, .slice A n c, .int .i64 sh, .int .i64 wo, .int .i64 qu, .int .i64 tr] 27) = w1 at H K ⊢
  obtain ⟨gH, hgH⟩ : ∃ g, g = w.heap.size := ⟨_, rfl⟩
  rw [← hgH] at H ⊢
  have H_b : w.heap.size ≤ gH := by omega
  clear hgH
  go_wp2_with fail
  refine (awake_any _).mono ?_
  rintro e w2 ⟨rfl, K'⟩
  replace H := H.below K'
  replace K := Below.then_ K K'
  clear K'
  go_wp2_with (refine wpList_load_want (by rfl) 27 (.tmp 5) rfl gH rfl _ _ (0, 0) _ H Try.underlying27 rfl cf_sz ?_)
  refine (fits3 ha (h0.below K) hb.out hM hm4 hmm.out).mono ?_
  rintro e w3 ⟨rfl, K'⟩
  replace H := H.below K'
  replace K := Below.then_ K K'
  clear K'
  have H_0 := H.at_ (v := .int .u32 a) 0 rfl
  have H_1 := H.at_ (v := .int .i64 p) 1 rfl
  have H_z := H.lt
  go_wp2_with fail
  refine (rmany_yes hM).mono ?_
  rintro e w4 ⟨rfl, K'⟩
  clear H_0 H_1 H_z
  replace H := H.below K'
  replace K := Below.then_ K K'
  clear K'
  go_upto_region 5 with ((with_reducible refine ((TL _).out).mono ?_); rintro e w' ⟨rfl, rfl⟩)
  try simp only [hlf]
  clear hlf
  go_upto_region 6 with ((with_reducible refine ((TT _).out).mono ?_); rintro e w' ⟨rfl, rfl⟩)
  go_wp2_with (refine wpList_load_row rfl 27 (.tmp 5) rfl gH rfl _ _ (0, 0) _ H Try.underlying27 rfl cf_sz ?_)
  refine ((T0 _ _ none none none none _ 0 0 0 0 0 (hU.below K) (Lists.hd0 _)).out).mono ?_
  rintro e w5 ⟨A0a, c0a, A1a, c1a, A2a, c2a, A3a, c3a, Ba, da, rfl, U, L, _, K'⟩
  replace H := H.below K'
  replace K := Below.then_ K K'
  clear K'
  have H_lt := H.lt
  have KS := K.size
  go_upto_region 7 with (refine wpList_store_row rfl 38 (.tmp 16) (.tmp 49) rfl _ _ rfl rfl _ _ (Bk.new _ _ _) op_sz rfl (opv_one _ _) ?_)
  rw [World.setRow_alloc_new]
  replace H := H.alloc (.cells (opv ⟨A0a, 0, c0a, A1a, 0, c1a, A2a, 0, c2a, A3a, 0, c3a⟩ (mk_ 0 lf 0 false 0)) 38)
  replace U := U.below (below_alloc _ (.cells (opv ⟨A0a, 0, c0a, A1a, 0, c1a, A2a, 0, c2a, A3a, 0, c3a⟩ (mk_ 0 lf 0 false 0)) 38))
  replace L := L.below (below_alloc _ (.cells (opv ⟨A0a, 0, c0a, A1a, 0, c1a, A2a, 0, c2a, A3a, 0, c3a⟩ (mk_ 0 lf 0 false 0)) 38))
  replace K := Below.then_ K (below_alloc _ (.cells (opv ⟨A0a, 0, c0a, A1a, 0, c1a, A2a, 0, c2a, A3a, 0, c3a⟩ (mk_ 0 lf 0 false 0)) 38))
  have X : Bk (World.alloc (w5) (.cells (opv ⟨A0a, 0, c0a, A1a, 0, c1a, A2a, 0, c2a, A3a, 0, c3a⟩ (mk_ 0 lf 0 false 0)) 38)) (World.heap (w5)).size 38 (opv ⟨A0a, 0, c0a, A1a, 0, c1a, A2a, 0, c2a, A3a, 0, c3a⟩ (mk_ 0 lf 0 false 0)) := Bk.new _ _ _
  try simp only [World.size_alloc] at X
  generalize (w5).alloc (.cells (opv ⟨A0a, 0, c0a, A1a, 0, c1a, A2a, 0, c2a, A3a, 0, c3a⟩ (mk_ 0 lf 0 false 0)) 38) = w6 at H X U L K ⊢
  obtain ⟨gX, hgX⟩ : ∃ g, g = w5.heap.size := ⟨_, rfl⟩
  rw [← hgX] at X ⊢
  have X_b : w.heap.size ≤ gX := by have := KS; omega
  have ne_H_X : gH ≠ gX := by have := H_lt; omega
  clear hgX
  clear H_lt KS
  have X_8 := X.at_ (v := .int .i64 0) 8 rfl
  have X_z := X.lt
  go_wp2
  go_ret
  exact ⟨rfl, K⟩
set_option maxRecDepth 100000 in
set_option maxHeartbeats 1000000 in
theorem p0b (ha : a < 4294967296) (h0 : IS .i64 lo w A n c zs) (hU : US w B m d ys) (hX : X < 65536) (hW : W < 18446744073709551616) (hb : confB a p n zs sh wo qu tr = true) (hM : Much a p M) (hm4 : M ≤ 4096) (hmm : m = lv M + tv M + 1) (hlf : (X : Int) % (lv M : Nat) = (lf : Nat)) (hlv : lf < lv M) (hcl : cl = lv M + lf / 64) (hbit : (gt ys (lv M + lf / 64)).testBit (lf % 64) = f) (hro : f = false ∨ (gt ys (lv M + lf / 64)) = 18446744073709551615) :
    Calls Try.prog 8 #[.agg #[.int .u32 a, .int .i64 p, .slice A n c, .int .i64 sh, .int .i64 wo, .int .i64 qu, .int .i64 tr], .slice B m d, .int .u16 X, .bool f, .int .u64 W] w (RetBo true w) := by
  have hbs := stepb hM.most hlv hmm
  have hx64 := gt_lt hU.fit (lv M + lf / 64)
  have T0 : ∀ (wq : World) (Bq A0 A1 A2 A3 : Option Addr) (dq c0 c1 c2 c3 lq : Nat), US wq Bq m dq ys → Lists lq wq ⟨A0, 0, c0, A1, 0, c1, A2, 0, c2, A3, 0, c3⟩ ⟨[], [], [], []⟩ → Hid (Calls Try.prog 17 #[.agg #[.int .u32 a, .int .i64 p, .slice A n c, .int .i64 sh, .int .i64 wo, .int .i64 qu, .int .i64 tr], .slice Bq m dq, .agg (opv ⟨A0, 0, c0, A1, 0, c1, A2, 0, c2, A3, 0, c3⟩ (mk_ 4 lf 0 f 0))] wq (RetB m (mk_ 4 lf (gt ys (lv M + lf / 64)) f 1) ys Bq wq)) := fun wq Bq A0 A1 A2 A3 dq c0 c1 c2 c3 lq U L => stepB ha hM hmm hlv (by omega) (.inl rfl) (.inl rfl) U L (o4_0.trans ((lk_yes hbit).trans (dn_root hro))) (c4)
  have TT := fun w => Lib.hid (rtop_any M lf hM.most (by have := lv_le hM.most; omega) w)
  have TL := fun w => Lib.hid (rleaves_any M hM.most w)
  rw [← hcl] at TT
  generalize lf % 64 = zb at TT
  obtain ⟨bb, oo, rfl, hbb, hcc⟩ := hU.get (j := cl) (by omega)
  have hcm : cl < m := by omega
  have hcm2 : (cl : Int) < (m : Int) := by omega
  rw [show gt ys cl = (gt ys (lv M + lf / 64)) by rw [hcl]] at hcc
  have hlp : 0 < lv M := by omega
  have hl2 := lv_le hM.most
  replace hmm := Lib.hid hmm
  replace hb := Lib.hid hb
  clear hcl
  try replace hbit := Lib.hid hbit
  try replace hgo := Lib.hid hgo
  try replace hro := Lib.hid hro
  try replace hz := Lib.hid hz
  try replace hset := Lib.hid hset
  try replace hset3 := Lib.hid hset3
  try clear hl
  try clear hfit
  try clear hx64
  try clear hxp
  try clear hz64
  try clear h3
  try clear h4
  go_enter Try.func8, Try.ntmps8
  go_upto_region 1 with (fail)
  have K := below_alloc w (.cells #[.int .u32 a, .int .i64 p, .slice A n c, .int .i64 sh, .int .i64 wo, .int .i64 qu, .int .i64 tr] 27)
  have H : Bk (World.alloc (w) (.cells #[.int .u32 a, .int .i64 p, .slice A n c, .int .i64 sh, .int .i64 wo, .int .i64 qu, .int .i64 tr] 27)) (World.heap (w)).size 27 (#[.int .u32 a, .int .i64 p, .slice A n c, .int .i64 sh, .int .i64 wo, .int .i64 qu, .int .i64 tr]) := Bk.new _ _ _
  try simp only [World.size_alloc] at H
  generalize (w).alloc (.cells #[.int .u32 a, .int .i64 p, .slice A n c, .int .i64 sh, .int .i64 wo, .int .i64 qu, .int .i64 tr] 27) = w1 at H K ⊢
  obtain ⟨gH, hgH⟩ : ∃ g, g = w.heap.size := ⟨_, rfl⟩
  rw [← hgH] at H ⊢
  have H_b : w.heap.size ≤ gH := by omega
  clear hgH
  go_wp2_with fail
  refine (awake_any _).mono ?_
  rintro e w2 ⟨rfl, K'⟩
  replace H := H.below K'
  replace K := Below.then_ K K'
  clear K'
  go_wp2_with (refine wpList_load_want (by rfl) 27 (.tmp 5) rfl gH rfl _ _ (0, 0) _ H Try.underlying27 rfl cf_sz ?_)
  refine (fits3 ha (h0.below K) hb.out hM hm4 hmm.out).mono ?_
  rintro e w3 ⟨rfl, K'⟩
  replace H := H.below K'
  replace K := Below.then_ K K'
  clear K'
  have H_0 := H.at_ (v := .int .u32 a) 0 rfl
  have H_1 := H.at_ (v := .int .i64 p) 1 rfl
  have H_z := H.lt
  go_wp2_with fail
  refine (rmany_yes hM).mono ?_
  rintro e w4 ⟨rfl, K'⟩
  clear H_0 H_1 H_z
  replace H := H.below K'
  replace K := Below.then_ K K'
  clear K'
  go_upto_region 5 with ((with_reducible refine ((TL _).out).mono ?_); rintro e w' ⟨rfl, rfl⟩)
  try simp only [hlf]
  clear hlf
  go_upto_region 6 with ((with_reducible refine ((TT _).out).mono ?_); rintro e w' ⟨rfl, rfl⟩)
  go_wp2_with (refine wpList_load_row rfl 27 (.tmp 5) rfl gH rfl _ _ (0, 0) _ H Try.underlying27 rfl cf_sz ?_)
  refine ((T0 _ _ none none none none _ 0 0 0 0 0 (hU.below K) (Lists.hd0 _)).out).mono ?_
  rintro e w5 ⟨A0a, c0a, A1a, c1a, A2a, c2a, A3a, c3a, Ba, da, rfl, U, L, _, K'⟩
  replace H := H.below K'
  replace K := Below.then_ K K'
  clear K'
  have H_lt := H.lt
  have KS := K.size
  go_upto_region 7 with (refine wpList_store_row rfl 38 (.tmp 16) (.tmp 49) rfl _ _ rfl rfl _ _ (Bk.new _ _ _) op_sz rfl (opv_one _ _) ?_)
  rw [World.setRow_alloc_new]
  replace H := H.alloc (.cells (opv ⟨A0a, 0, c0a, A1a, 0, c1a, A2a, 0, c2a, A3a, 0, c3a⟩ (mk_ 4 lf (gt ys (lv M + lf / 64)) f 1)) 38)
  replace U := U.below (below_alloc _ (.cells (opv ⟨A0a, 0, c0a, A1a, 0, c1a, A2a, 0, c2a, A3a, 0, c3a⟩ (mk_ 4 lf (gt ys (lv M + lf / 64)) f 1)) 38))
  replace L := L.below (below_alloc _ (.cells (opv ⟨A0a, 0, c0a, A1a, 0, c1a, A2a, 0, c2a, A3a, 0, c3a⟩ (mk_ 4 lf (gt ys (lv M + lf / 64)) f 1)) 38))
  replace K := Below.then_ K (below_alloc _ (.cells (opv ⟨A0a, 0, c0a, A1a, 0, c1a, A2a, 0, c2a, A3a, 0, c3a⟩ (mk_ 4 lf (gt ys (lv M + lf / 64)) f 1)) 38))
  have X : Bk (World.alloc (w5) (.cells (opv ⟨A0a, 0, c0a, A1a, 0, c1a, A2a, 0, c2a, A3a, 0, c3a⟩ (mk_ 4 lf (gt ys (lv M + lf / 64)) f 1)) 38)) (World.heap (w5)).size 38 (opv ⟨A0a, 0, c0a, A1a, 0, c1a, A2a, 0, c2a, A3a, 0, c3a⟩ (mk_ 4 lf (gt ys (lv M + lf / 64)) f 1)) := Bk.new _ _ _
  try simp only [World.size_alloc] at X
  generalize (w5).alloc (.cells (opv ⟨A0a, 0, c0a, A1a, 0, c1a, A2a, 0, c2a, A3a, 0, c3a⟩ (mk_ 4 lf (gt ys (lv M + lf / 64)) f 1)) 38) = w6 at H X U L K ⊢
  obtain ⟨gX, hgX⟩ : ∃ g, g = w5.heap.size := ⟨_, rfl⟩
  rw [← hgX] at X ⊢
  have X_b : w.heap.size ≤ gX := by have := KS; omega
  have ne_H_X : gH ≠ gX := by have := H_lt; omega
  clear hgX
  clear H_lt KS
  have X_8 := X.at_ (v := .int .i64 4) 8 rfl
  have X_z := X.lt
  go_wp2
  go_ret
  exact ⟨rfl, K⟩
set_option maxRecDepth 100000 in
set_option maxHeartbeats 1000000 in
theorem p1 (ha : a < 4294967296) (h0 : IS .i64 lo w A n c zs) (hU : US w B m d ys) (hX : X < 65536) (hW : W < 18446744073709551616) (hb : confB a p n zs sh wo qu tr = true) (hM : Much a p M) (hm4 : M ≤ 4096) (hmm : m = lv M + tv M + 1) (hlf : (X : Int) % (lv M : Nat) = (lf : Nat)) (hlv : lf < lv M) (hcl : cl = lv M + lf / 64) (hbit : (gt ys (lv M + lf / 64)).testBit (lf % 64) ≠ f) (hWx : W = (gt ys (lv M + lf / 64))) :
    Calls Try.prog 8 #[.agg #[.int .u32 a, .int .i64 p, .slice A n c, .int .i64 sh, .int .i64 wo, .int .i64 qu, .int .i64 tr], .slice B m d, .int .u16 X, .bool f, .int .u64 W] w (RetBo true w) := by
  have hbs := stepb hM.most hlv hmm
  have hx64 := gt_lt hU.fit (lv M + lf / 64)
  have T0 : ∀ (wq : World) (Bq A0 A1 A2 A3 : Option Addr) (dq c0 c1 c2 c3 lq : Nat), US wq Bq m dq ys → Lists lq wq ⟨A0, 0, c0, A1, 0, c1, A2, 0, c2, A3, 0, c3⟩ ⟨[], [], [], []⟩ → Hid (Calls Try.prog 17 #[.agg #[.int .u32 a, .int .i64 p, .slice A n c, .int .i64 sh, .int .i64 wo, .int .i64 qu, .int .i64 tr], .slice Bq m dq, .agg (opv ⟨A0, 0, c0, A1, 0, c1, A2, 0, c2, A3, 0, c3⟩ (mk_ 4 lf 0 f 0))] wq (RetB m (mk_ 5 lf (gt ys (lv M + lf / 64)) f 0) ys Bq wq)) := fun wq Bq A0 A1 A2 A3 dq c0 c1 c2 c3 lq U L => stepB ha hM hmm hlv (by omega) (.inl rfl) (.inl rfl) U L (o4_0.trans (lk_no hbit)) (c4)
  have TT := fun w => Lib.hid (rtop_any M lf hM.most (by have := lv_le hM.most; omega) w)
  have TL := fun w => Lib.hid (rleaves_any M hM.most w)
  rw [← hcl] at TT
  generalize lf % 64 = zb at TT
  obtain ⟨bb, oo, rfl, hbb, hcc⟩ := hU.get (j := cl) (by omega)
  have hcm : cl < m := by omega
  have hcm2 : (cl : Int) < (m : Int) := by omega
  rw [show gt ys cl = (gt ys (lv M + lf / 64)) by rw [hcl]] at hcc
  generalize hx0 : (gt ys (lv M + lf / 64)) = x at *
  clear hx0
  have f1 : ((W : Int) == (x : Int)) = true := by simp; omega
  clear hWx
  have hlp : 0 < lv M := by omega
  have hl2 := lv_le hM.most
  replace hmm := Lib.hid hmm
  replace hb := Lib.hid hb
  clear hcl
  try replace hbit := Lib.hid hbit
  try replace hgo := Lib.hid hgo
  try replace hro := Lib.hid hro
  try replace hz := Lib.hid hz
  try replace hset := Lib.hid hset
  try replace hset3 := Lib.hid hset3
  try clear hl
  try clear hfit
  try clear hx64
  try clear hxp
  try clear hz64
  try clear h3
  try clear h4
  go_enter Try.func8, Try.ntmps8
  go_upto_region 1 with (fail)
  have K := below_alloc w (.cells #[.int .u32 a, .int .i64 p, .slice A n c, .int .i64 sh, .int .i64 wo, .int .i64 qu, .int .i64 tr] 27)
  have H : Bk (World.alloc (w) (.cells #[.int .u32 a, .int .i64 p, .slice A n c, .int .i64 sh, .int .i64 wo, .int .i64 qu, .int .i64 tr] 27)) (World.heap (w)).size 27 (#[.int .u32 a, .int .i64 p, .slice A n c, .int .i64 sh, .int .i64 wo, .int .i64 qu, .int .i64 tr]) := Bk.new _ _ _
  try simp only [World.size_alloc] at H
  generalize (w).alloc (.cells #[.int .u32 a, .int .i64 p, .slice A n c, .int .i64 sh, .int .i64 wo, .int .i64 qu, .int .i64 tr] 27) = w1 at H K ⊢
  obtain ⟨gH, hgH⟩ : ∃ g, g = w.heap.size := ⟨_, rfl⟩
  rw [← hgH] at H ⊢
  have H_b : w.heap.size ≤ gH := by omega
  clear hgH
  go_wp2_with fail
  refine (awake_any _).mono ?_
  rintro e w2 ⟨rfl, K'⟩
  replace H := H.below K'
  replace K := Below.then_ K K'
  clear K'
  go_wp2_with (refine wpList_load_want (by rfl) 27 (.tmp 5) rfl gH rfl _ _ (0, 0) _ H Try.underlying27 rfl cf_sz ?_)
  refine (fits3 ha (h0.below K) hb.out hM hm4 hmm.out).mono ?_
  rintro e w3 ⟨rfl, K'⟩
  replace H := H.below K'
  replace K := Below.then_ K K'
  clear K'
  have H_0 := H.at_ (v := .int .u32 a) 0 rfl
  have H_1 := H.at_ (v := .int .i64 p) 1 rfl
  have H_z := H.lt
  go_wp2_with fail
  refine (rmany_yes hM).mono ?_
  rintro e w4 ⟨rfl, K'⟩
  clear H_0 H_1 H_z
  replace H := H.below K'
  replace K := Below.then_ K K'
  clear K'
  go_upto_region 5 with ((with_reducible refine ((TL _).out).mono ?_); rintro e w' ⟨rfl, rfl⟩)
  try simp only [hlf]
  clear hlf
  go_upto_region 6 with ((with_reducible refine ((TT _).out).mono ?_); rintro e w' ⟨rfl, rfl⟩)
  go_wp2_with (refine wpList_load_row rfl 27 (.tmp 5) rfl gH rfl _ _ (0, 0) _ H Try.underlying27 rfl cf_sz ?_)
  refine ((T0 _ _ none none none none _ 0 0 0 0 0 (hU.below K) (Lists.hd0 _)).out).mono ?_
  rintro e w5 ⟨A0a, c0a, A1a, c1a, A2a, c2a, A3a, c3a, Ba, da, rfl, U, L, _, K'⟩
  replace H := H.below K'
  replace K := Below.then_ K K'
  clear K'
  have H_lt := H.lt
  have KS := K.size
  go_upto_region 7 with (refine wpList_store_row rfl 38 (.tmp 16) (.tmp 49) rfl _ _ rfl rfl _ _ (Bk.new _ _ _) op_sz rfl (opv_one _ _) ?_)
  rw [World.setRow_alloc_new]
  replace H := H.alloc (.cells (opv ⟨A0a, 0, c0a, A1a, 0, c1a, A2a, 0, c2a, A3a, 0, c3a⟩ (mk_ 5 lf x f 0)) 38)
  replace U := U.below (below_alloc _ (.cells (opv ⟨A0a, 0, c0a, A1a, 0, c1a, A2a, 0, c2a, A3a, 0, c3a⟩ (mk_ 5 lf x f 0)) 38))
  replace L := L.below (below_alloc _ (.cells (opv ⟨A0a, 0, c0a, A1a, 0, c1a, A2a, 0, c2a, A3a, 0, c3a⟩ (mk_ 5 lf x f 0)) 38))
  replace K := Below.then_ K (below_alloc _ (.cells (opv ⟨A0a, 0, c0a, A1a, 0, c1a, A2a, 0, c2a, A3a, 0, c3a⟩ (mk_ 5 lf x f 0)) 38))
  have X : Bk (World.alloc (w5) (.cells (opv ⟨A0a, 0, c0a, A1a, 0, c1a, A2a, 0, c2a, A3a, 0, c3a⟩ (mk_ 5 lf x f 0)) 38)) (World.heap (w5)).size 38 (opv ⟨A0a, 0, c0a, A1a, 0, c1a, A2a, 0, c2a, A3a, 0, c3a⟩ (mk_ 5 lf x f 0)) := Bk.new _ _ _
  try simp only [World.size_alloc] at X
  generalize (w5).alloc (.cells (opv ⟨A0a, 0, c0a, A1a, 0, c1a, A2a, 0, c2a, A3a, 0, c3a⟩ (mk_ 5 lf x f 0)) 38) = w6 at H X U L K ⊢
  obtain ⟨gX, hgX⟩ : ∃ g, g = w5.heap.size := ⟨_, rfl⟩
  rw [← hgX] at X ⊢
  have X_b : w.heap.size ≤ gX := by have := KS; omega
  have ne_H_X : gH ≠ gX := by have := H_lt; omega
  clear hgX
  clear H_lt KS
  have X_8 := X.at_ (v := .int .i64 5) 8 rfl
  have X_z := X.lt
  have XC := (K.cell (p := ⟨bb, oo + cl, none⟩) hbb).trans hcc
  go_wp2
  go_ret
  exact ⟨rfl, K⟩
set_option maxRecDepth 100000 in
set_option maxHeartbeats 1000000 in
theorem p2a (ha : a < 4294967296) (h0 : IS .i64 lo w A n c zs) (hU : US w B m d ys) (hX : X < 65536) (hW : W < 18446744073709551616) (hb : confB a p n zs sh wo qu tr = true) (hM : Much a p M) (hm4 : M ≤ 4096) (hmm : m = lv M + tv M + 1) (hlf : (X : Int) % (lv M : Nat) = (lf : Nat)) (hlv : lf < lv M) (hcl : cl = lv M + lf / 64) (hbit : (gt ys (lv M + lf / 64)).testBit (lf % 64) ≠ f) (hWx : W ≠ (gt ys (lv M + lf / 64))) (hgo : f = true ∧ (mkd (gt ys (lv M + lf / 64)) (lf % 64) f) ≠ 18446744073709551615) :
    Calls Try.prog 8 #[.agg #[.int .u32 a, .int .i64 p, .slice A n c, .int .i64 sh, .int .i64 wo, .int .i64 qu, .int .i64 tr], .slice B m d, .int .u16 X, .bool f, .int .u64 W] w (RetBo true w) := by
  have hbs := stepb hM.most hlv hmm
  have hx64 := gt_lt hU.fit (lv M + lf / 64)
  have T0 : ∀ (wq : World) (Bq A0 A1 A2 A3 : Option Addr) (dq c0 c1 c2 c3 lq : Nat), US wq Bq m dq ys → Lists lq wq ⟨A0, 0, c0, A1, 0, c1, A2, 0, c2, A3, 0, c3⟩ ⟨[], [], [], []⟩ → Hid (Calls Try.prog 17 #[.agg #[.int .u32 a, .int .i64 p, .slice A n c, .int .i64 sh, .int .i64 wo, .int .i64 qu, .int .i64 tr], .slice Bq m dq, .agg (opv ⟨A0, 0, c0, A1, 0, c1, A2, 0, c2, A3, 0, c3⟩ (mk_ 4 lf 0 f 0))] wq (RetB m (mk_ 5 lf (gt ys (lv M + lf / 64)) f 0) ys Bq wq)) := fun wq Bq A0 A1 A2 A3 dq c0 c1 c2 c3 lq U L => stepB ha hM hmm hlv (by omega) (.inl rfl) (.inl rfl) U L (o4_0.trans (lk_no hbit)) (c4)
  have hl := hU.len
  have hset : gt (ys.set (lv M + lf / 64) W) (lv M + lf / 64) = W := by rw [gt_set (by omega), if_pos rfl]
  have hfit := fit_set hU.fit (lv M + lf / 64) hW
  have hxp := mkd_lt f hx64 hbs.2.2.2.1
  have T1 : ∀ (wq : World) (Bq A0 A1 A2 A3 : Option Addr) (dq c0 c1 c2 c3 lq : Nat), US wq Bq m dq (ys.set (lv M + lf / 64) W) → Lists lq wq ⟨A0, 0, c0, A1, 0, c1, A2, 0, c2, A3, 0, c3⟩ ⟨[], [], [], []⟩ → Hid (Calls Try.prog 17 #[.agg #[.int .u32 a, .int .i64 p, .slice A n c, .int .i64 sh, .int .i64 wo, .int .i64 qu, .int .i64 tr], .slice Bq m dq, .agg (opv ⟨A0, 0, c0, A1, 0, c1, A2, 0, c2, A3, 0, c3⟩ (mk_ 5 lf (gt ys (lv M + lf / 64)) f 0))] wq (RetB m (mk_ 0 lf 0 false 0) (ys.set (lv M + lf / 64) W) Bq wq)) := fun wq Bq A0 A1 A2 A3 dq c0 c1 c2 c3 lq U L => stepB ha hM hmm hlv hx64 (.inl rfl) (.inr rfl) U L (o5_0.trans (dn_go (.inr hgo))) (c5_0n (by rw [hset]; exact hWx))
  have TW : ∀ (wq : World) (Bq : Option Addr) (dq : Nat), US wq Bq m dq ys → Hid (Calls Try.prog 31 #[.slice Bq m dq, .int .i64 (cl : Nat), .int .u64 (W : Nat)] wq (RetSM m (ys.set (lv M + lf / 64) W) wq)) := fun wq Bq dq U => by have := crset_new U (cl : Int) hbs.1 hW; rw [stI_nat, show ys.set cl W = (ys.set (lv M + lf / 64) W) by rw [hcl]] at this; exact this
  have TT := fun w => Lib.hid (rtop_any M lf hM.most (by have := lv_le hM.most; omega) w)
  have TL := fun w => Lib.hid (rleaves_any M hM.most w)
  rw [← hcl] at TT
  generalize lf % 64 = zb at TT
  obtain ⟨bb, oo, rfl, hbb, hcc⟩ := hU.get (j := cl) (by omega)
  have hcm : cl < m := by omega
  have hcm2 : (cl : Int) < (m : Int) := by omega
  generalize hy2 : (ys.set (lv M + lf / 64) W) = ys2 at *
  clear hy2
  rw [show gt ys cl = (gt ys (lv M + lf / 64)) by rw [hcl]] at hcc
  generalize hx0 : (gt ys (lv M + lf / 64)) = x at *
  clear hx0
  have f1 : ((W : Int) == (x : Int)) = false := by simp; omega
  clear hWx
  rw [← hcl] at hset
  have hlp : 0 < lv M := by omega
  have hl2 := lv_le hM.most
  replace hmm := Lib.hid hmm
  replace hb := Lib.hid hb
  clear hcl
  try replace hbit := Lib.hid hbit
  try replace hgo := Lib.hid hgo
  try replace hro := Lib.hid hro
  try replace hz := Lib.hid hz
  try replace hset := Lib.hid hset
  try replace hset3 := Lib.hid hset3
  try clear hl
  try clear hfit
  try clear hx64
  try clear hxp
  try clear hz64
  try clear h3
  try clear h4
  go_enter Try.func8, Try.ntmps8
  go_upto_region 1 with (fail)
  have K := below_alloc w (.cells #[.int .u32 a, .int .i64 p, .slice A n c, .int .i64 sh, .int .i64 wo, .int .i64 qu, .int .i64 tr] 27)
  have H : Bk (World.alloc (w) (.cells #[.int .u32 a, .int .i64 p, .slice A n c, .int .i64 sh, .int .i64 wo, .int .i64 qu, .int .i64 tr] 27)) (World.heap (w)).size 27 (#[.int .u32 a, .int .i64 p, .slice A n c, .int .i64 sh, .int .i64 wo, .int .i64 qu, .int .i64 tr]) := Bk.new _ _ _
  try simp only [World.size_alloc] at H
  generalize (w).alloc (.cells #[.int .u32 a, .int .i64 p, .slice A n c, .int .i64 sh, .int .i64 wo, .int .i64 qu, .int .i64 tr] 27) = w1 at H K ⊢
  obtain ⟨gH, hgH⟩ : ∃ g, g = w.heap.size := ⟨_, rfl⟩
  rw [← hgH] at H ⊢
  have H_b : w.heap.size ≤ gH := by omega
  clear hgH
  go_wp2_with fail
  refine (awake_any _).mono ?_
  rintro e w2 ⟨rfl, K'⟩
  replace H := H.below K'
  replace K := Below.then_ K K'
  clear K'
  go_wp2_with (refine wpList_load_want (by rfl) 27 (.tmp 5) rfl gH rfl _ _ (0, 0) _ H Try.underlying27 rfl cf_sz ?_)
  refine (fits3 ha (h0.below K) hb.out hM hm4 hmm.out).mono ?_
  rintro e w3 ⟨rfl, K'⟩
  replace H := H.below K'
  replace K := Below.then_ K K'
  clear K'
  have H_0 := H.at_ (v := .int .u32 a) 0 rfl
  have H_1 := H.at_ (v := .int .i64 p) 1 rfl
  have H_z := H.lt
  go_wp2_with fail
  refine (rmany_yes hM).mono ?_
  rintro e w4 ⟨rfl, K'⟩
  clear H_0 H_1 H_z
  replace H := H.below K'
  replace K := Below.then_ K K'
  clear K'
  go_upto_region 5 with ((with_reducible refine ((TL _).out).mono ?_); rintro e w' ⟨rfl, rfl⟩)
  try simp only [hlf]
  clear hlf
  go_upto_region 6 with ((with_reducible refine ((TT _).out).mono ?_); rintro e w' ⟨rfl, rfl⟩)
  go_wp2_with (refine wpList_load_row rfl 27 (.tmp 5) rfl gH rfl _ _ (0, 0) _ H Try.underlying27 rfl cf_sz ?_)
  refine ((T0 _ _ none none none none _ 0 0 0 0 0 (hU.below K) (Lists.hd0 _)).out).mono ?_
  rintro e w5 ⟨A0a, c0a, A1a, c1a, A2a, c2a, A3a, c3a, Ba, da, rfl, U, L, _, K'⟩
  replace H := H.below K'
  replace K := Below.then_ K K'
  clear K'
  have H_lt := H.lt
  have KS := K.size
  go_upto_region 7 with (refine wpList_store_row rfl 38 (.tmp 16) (.tmp 49) rfl _ _ rfl rfl _ _ (Bk.new _ _ _) op_sz rfl (opv_one _ _) ?_)
  rw [World.setRow_alloc_new]
  replace H := H.alloc (.cells (opv ⟨A0a, 0, c0a, A1a, 0, c1a, A2a, 0, c2a, A3a, 0, c3a⟩ (mk_ 5 lf x f 0)) 38)
  replace U := U.below (below_alloc _ (.cells (opv ⟨A0a, 0, c0a, A1a, 0, c1a, A2a, 0, c2a, A3a, 0, c3a⟩ (mk_ 5 lf x f 0)) 38))
  replace L := L.below (below_alloc _ (.cells (opv ⟨A0a, 0, c0a, A1a, 0, c1a, A2a, 0, c2a, A3a, 0, c3a⟩ (mk_ 5 lf x f 0)) 38))
  replace K := Below.then_ K (below_alloc _ (.cells (opv ⟨A0a, 0, c0a, A1a, 0, c1a, A2a, 0, c2a, A3a, 0, c3a⟩ (mk_ 5 lf x f 0)) 38))
  have X : Bk (World.alloc (w5) (.cells (opv ⟨A0a, 0, c0a, A1a, 0, c1a, A2a, 0, c2a, A3a, 0, c3a⟩ (mk_ 5 lf x f 0)) 38)) (World.heap (w5)).size 38 (opv ⟨A0a, 0, c0a, A1a, 0, c1a, A2a, 0, c2a, A3a, 0, c3a⟩ (mk_ 5 lf x f 0)) := Bk.new _ _ _
  try simp only [World.size_alloc] at X
  generalize (w5).alloc (.cells (opv ⟨A0a, 0, c0a, A1a, 0, c1a, A2a, 0, c2a, A3a, 0, c3a⟩ (mk_ 5 lf x f 0)) 38) = w6 at H X U L K ⊢
  obtain ⟨gX, hgX⟩ : ∃ g, g = w5.heap.size := ⟨_, rfl⟩
  rw [← hgX] at X ⊢
  have X_b : w.heap.size ≤ gX := by have := KS; omega
  have ne_H_X : gH ≠ gX := by have := H_lt; omega
  clear hgX
  clear H_lt KS
  have X_8 := X.at_ (v := .int .i64 5) 8 rfl
  have X_z := X.lt
  have XC := (K.cell (p := ⟨bb, oo + cl, none⟩) hbb).trans hcc
  go_upto_region 9 with (fail)
  clear XC X_8
  go_wp2_with fail
  refine ((TW _ _ _ U).out).mono ?_
  rintro e w7 ⟨gS, dS, rfl, U', hgS, K'⟩
  clear U
  have AP : Apart gX (some ⟨gS, 0, none⟩) := fun b o e => by cases e; omega
  clear hgS X_z
  replace H := H.below K'
  replace X := X.below K'
  replace L := L.below K'
  replace K := Below.then_ K K'
  clear K'
  have U := U'
  clear U'
  have X_z := X.lt
  go_wp2_with (first | (refine wpList_load_row rfl 27 (.tmp 5) rfl gH rfl _ _ (0, 0) _ H Try.underlying27 rfl cf_sz ?_) | (refine wpList_load_row rfl 38 (.tmp 16) rfl gX rfl _ _ (0, 0) _ X Try.underlying38 rfl op_sz ?_))
  refine ((T1 _ _ _ _ _ _ _ _ _ _ _ _ U L).out).mono ?_
  skip
  rintro e w8 ⟨A0b, c0b, A1b, c1b, A2b, c2b, A3b, c3b, Bb, db, rfl, U', L', hA, K'⟩
  replace AP := hA gX X_z AP
  clear U L hA
  replace H := H.below K'
  replace X := X.below K'
  replace K := Below.then_ K K'
  clear K'
  go_upto_region 11 with (refine wpList_store_row rfl 38 (.tmp 16) (.tmp 71) rfl gX _ rfl rfl _ _ X op_sz rfl (opv_one _ _) ?_)
  have U := U'.rowA AP (opv ⟨A0b, 0, c0b, A1b, 0, c1b, A2b, 0, c2b, A3b, 0, c3b⟩ (mk_ 0 lf 0 false 0))
  have L := L'.set_row X_z (opv ⟨A0b, 0, c0b, A1b, 0, c1b, A2b, 0, c2b, A3b, 0, c3b⟩ (mk_ 0 lf 0 false 0))
  clear U' L' X_z
  replace H := H.row_far ne_H_X (opv ⟨A0b, 0, c0b, A1b, 0, c1b, A2b, 0, c2b, A3b, 0, c3b⟩ (mk_ 0 lf 0 false 0))
  replace X := X.row (opv ⟨A0b, 0, c0b, A1b, 0, c1b, A2b, 0, c2b, A3b, 0, c3b⟩ (mk_ 0 lf 0 false 0))
  replace K := below_setRow K X_b (opv ⟨A0b, 0, c0b, A1b, 0, c1b, A2b, 0, c2b, A3b, 0, c3b⟩ (mk_ 0 lf 0 false 0))
  generalize w8.setRow gX (opv ⟨A0b, 0, c0b, A1b, 0, c1b, A2b, 0, c2b, A3b, 0, c3b⟩ (mk_ 0 lf 0 false 0)) = w9 at H X U L K ⊢
  obtain ⟨b3, o3, rfl, hb3, hc3⟩ := U.get hcm
  rw [hset.out] at hc3
  have f2 : ((W : Int) != (W : Int)) = false := by simp
  have f3 : ((W : Int) == (W : Int)) = true := by simp
  go_wp2
  refine wp_loop_rounds 1 ?_
  rw [rounds_succ]
  have X_8 := X.at_ (v := .int .i64 0) 8 rfl
  have X_z := X.lt
  go_wp2
  go_ret
  exact ⟨rfl, K⟩
set_option maxRecDepth 100000 in
set_option maxHeartbeats 1000000 in
theorem p2b (ha : a < 4294967296) (h0 : IS .i64 lo w A n c zs) (hU : US w B m d ys) (hX : X < 65536) (hW : W < 18446744073709551616) (hb : confB a p n zs sh wo qu tr = true) (hM : Much a p M) (hm4 : M ≤ 4096) (hmm : m = lv M + tv M + 1) (hlf : (X : Int) % (lv M : Nat) = (lf : Nat)) (hlv : lf < lv M) (hcl : cl = lv M + lf / 64) (hbit : (gt ys (lv M + lf / 64)).testBit (lf % 64) ≠ f) (hWx : W ≠ (gt ys (lv M + lf / 64))) (hro : f = false ∨ (mkd (gt ys (lv M + lf / 64)) (lf % 64) f) = 18446744073709551615) (hz : (gt (ys.set (lv M + lf / 64) W) (lv M + tv M)).testBit (lf / 64) = f) :
    Calls Try.prog 8 #[.agg #[.int .u32 a, .int .i64 p, .slice A n c, .int .i64 sh, .int .i64 wo, .int .i64 qu, .int .i64 tr], .slice B m d, .int .u16 X, .bool f, .int .u64 W] w (RetBo true w) := by
  have hbs := stepb hM.most hlv hmm
  have hx64 := gt_lt hU.fit (lv M + lf / 64)
  have T0 : ∀ (wq : World) (Bq A0 A1 A2 A3 : Option Addr) (dq c0 c1 c2 c3 lq : Nat), US wq Bq m dq ys → Lists lq wq ⟨A0, 0, c0, A1, 0, c1, A2, 0, c2, A3, 0, c3⟩ ⟨[], [], [], []⟩ → Hid (Calls Try.prog 17 #[.agg #[.int .u32 a, .int .i64 p, .slice A n c, .int .i64 sh, .int .i64 wo, .int .i64 qu, .int .i64 tr], .slice Bq m dq, .agg (opv ⟨A0, 0, c0, A1, 0, c1, A2, 0, c2, A3, 0, c3⟩ (mk_ 4 lf 0 f 0))] wq (RetB m (mk_ 5 lf (gt ys (lv M + lf / 64)) f 0) ys Bq wq)) := fun wq Bq A0 A1 A2 A3 dq c0 c1 c2 c3 lq U L => stepB ha hM hmm hlv (by omega) (.inl rfl) (.inl rfl) U L (o4_0.trans (lk_no hbit)) (c4)
  have hl := hU.len
  have hset : gt (ys.set (lv M + lf / 64) W) (lv M + lf / 64) = W := by rw [gt_set (by omega), if_pos rfl]
  have hfit := fit_set hU.fit (lv M + lf / 64) hW
  have hxp := mkd_lt f hx64 hbs.2.2.2.1
  have T1 : ∀ (wq : World) (Bq A0 A1 A2 A3 : Option Addr) (dq c0 c1 c2 c3 lq : Nat), US wq Bq m dq (ys.set (lv M + lf / 64) W) → Lists lq wq ⟨A0, 0, c0, A1, 0, c1, A2, 0, c2, A3, 0, c3⟩ ⟨[], [], [], []⟩ → Hid (Calls Try.prog 17 #[.agg #[.int .u32 a, .int .i64 p, .slice A n c, .int .i64 sh, .int .i64 wo, .int .i64 qu, .int .i64 tr], .slice Bq m dq, .agg (opv ⟨A0, 0, c0, A1, 0, c1, A2, 0, c2, A3, 0, c3⟩ (mk_ 5 lf (gt ys (lv M + lf / 64)) f 0))] wq (RetB m (mk_ 4 lf (mkd (gt ys (lv M + lf / 64)) (lf % 64) f) f 1) (ys.set (lv M + lf / 64) W) Bq wq)) := fun wq Bq A0 A1 A2 A3 dq c0 c1 c2 c3 lq U L => stepB ha hM hmm hlv hx64 (.inl rfl) (.inr rfl) U L (o5_0.trans (dn_root hro)) (c5_0n (by rw [hset]; exact hWx))
  have T2 : ∀ (wq : World) (Bq A0 A1 A2 A3 : Option Addr) (dq c0 c1 c2 c3 lq : Nat), US wq Bq m dq (ys.set (lv M + lf / 64) W) → Lists lq wq ⟨A0, 0, c0, A1, 0, c1, A2, 0, c2, A3, 0, c3⟩ ⟨[], [], [], []⟩ → Hid (Calls Try.prog 17 #[.agg #[.int .u32 a, .int .i64 p, .slice A n c, .int .i64 sh, .int .i64 wo, .int .i64 qu, .int .i64 tr], .slice Bq m dq, .agg (opv ⟨A0, 0, c0, A1, 0, c1, A2, 0, c2, A3, 0, c3⟩ (mk_ 4 lf (mkd (gt ys (lv M + lf / 64)) (lf % 64) f) f 1))] wq (RetB m (mk_ 0 lf 0 false 0) (ys.set (lv M + lf / 64) W) Bq wq)) := fun wq Bq A0 A1 A2 A3 dq c0 c1 c2 c3 lq U L => stepB ha hM hmm hlv hxp (.inr rfl) (.inl rfl) U L (o4_1.trans ((lk_yes hz).trans (dn_go (.inl (by omega))))) (c4)
  have TW : ∀ (wq : World) (Bq : Option Addr) (dq : Nat), US wq Bq m dq ys → Hid (Calls Try.prog 31 #[.slice Bq m dq, .int .i64 (cl : Nat), .int .u64 (W : Nat)] wq (RetSM m (ys.set (lv M + lf / 64) W) wq)) := fun wq Bq dq U => by have := crset_new U (cl : Int) hbs.1 hW; rw [stI_nat, show ys.set cl W = (ys.set (lv M + lf / 64) W) by rw [hcl]] at this; exact this
  have TT := fun w => Lib.hid (rtop_any M lf hM.most (by have := lv_le hM.most; omega) w)
  have TL := fun w => Lib.hid (rleaves_any M hM.most w)
  rw [← hcl] at TT
  generalize lf % 64 = zb at TT
  obtain ⟨bb, oo, rfl, hbb, hcc⟩ := hU.get (j := cl) (by omega)
  have hcm : cl < m := by omega
  have hcm2 : (cl : Int) < (m : Int) := by omega
  generalize hy2 : (ys.set (lv M + lf / 64) W) = ys2 at *
  clear hy2
  rw [show gt ys cl = (gt ys (lv M + lf / 64)) by rw [hcl]] at hcc
  generalize hx0 : (gt ys (lv M + lf / 64)) = x at *
  clear hx0
  have f1 : ((W : Int) == (x : Int)) = false := by simp; omega
  clear hWx
  rw [← hcl] at hset
  generalize mkd x (lf % 64) f = x1 at *
  have hlp : 0 < lv M := by omega
  have hl2 := lv_le hM.most
  replace hmm := Lib.hid hmm
  replace hb := Lib.hid hb
  clear hcl
  try replace hbit := Lib.hid hbit
  try replace hgo := Lib.hid hgo
  try replace hro := Lib.hid hro
  try replace hz := Lib.hid hz
  try replace hset := Lib.hid hset
  try replace hset3 := Lib.hid hset3
  try clear hl
  try clear hfit
  try clear hx64
  try clear hxp
  try clear hz64
  try clear h3
  try clear h4
  go_enter Try.func8, Try.ntmps8
  go_upto_region 1 with (fail)
  have K := below_alloc w (.cells #[.int .u32 a, .int .i64 p, .slice A n c, .int .i64 sh, .int .i64 wo, .int .i64 qu, .int .i64 tr] 27)
  have H : Bk (World.alloc (w) (.cells #[.int .u32 a, .int .i64 p, .slice A n c, .int .i64 sh, .int .i64 wo, .int .i64 qu, .int .i64 tr] 27)) (World.heap (w)).size 27 (#[.int .u32 a, .int .i64 p, .slice A n c, .int .i64 sh, .int .i64 wo, .int .i64 qu, .int .i64 tr]) := Bk.new _ _ _
  try simp only [World.size_alloc] at H
  generalize (w).alloc (.cells #[.int .u32 a, .int .i64 p, .slice A n c, .int .i64 sh, .int .i64 wo, .int .i64 qu, .int .i64 tr] 27) = w1 at H K ⊢
  obtain ⟨gH, hgH⟩ : ∃ g, g = w.heap.size := ⟨_, rfl⟩
  rw [← hgH] at H ⊢
  have H_b : w.heap.size ≤ gH := by omega
  clear hgH
  go_wp2_with fail
  refine (awake_any _).mono ?_
  rintro e w2 ⟨rfl, K'⟩
  replace H := H.below K'
  replace K := Below.then_ K K'
  clear K'
  go_wp2_with (refine wpList_load_want (by rfl) 27 (.tmp 5) rfl gH rfl _ _ (0, 0) _ H Try.underlying27 rfl cf_sz ?_)
  refine (fits3 ha (h0.below K) hb.out hM hm4 hmm.out).mono ?_
  rintro e w3 ⟨rfl, K'⟩
  replace H := H.below K'
  replace K := Below.then_ K K'
  clear K'
  have H_0 := H.at_ (v := .int .u32 a) 0 rfl
  have H_1 := H.at_ (v := .int .i64 p) 1 rfl
  have H_z := H.lt
  go_wp2_with fail
  refine (rmany_yes hM).mono ?_
  rintro e w4 ⟨rfl, K'⟩
  clear H_0 H_1 H_z
  replace H := H.below K'
  replace K := Below.then_ K K'
  clear K'
  go_upto_region 5 with ((with_reducible refine ((TL _).out).mono ?_); rintro e w' ⟨rfl, rfl⟩)
  try simp only [hlf]
  clear hlf
  go_upto_region 6 with ((with_reducible refine ((TT _).out).mono ?_); rintro e w' ⟨rfl, rfl⟩)
  go_wp2_with (refine wpList_load_row rfl 27 (.tmp 5) rfl gH rfl _ _ (0, 0) _ H Try.underlying27 rfl cf_sz ?_)
  refine ((T0 _ _ none none none none _ 0 0 0 0 0 (hU.below K) (Lists.hd0 _)).out).mono ?_
  rintro e w5 ⟨A0a, c0a, A1a, c1a, A2a, c2a, A3a, c3a, Ba, da, rfl, U, L, _, K'⟩
  replace H := H.below K'
  replace K := Below.then_ K K'
  clear K'
  have H_lt := H.lt
  have KS := K.size
  go_upto_region 7 with (refine wpList_store_row rfl 38 (.tmp 16) (.tmp 49) rfl _ _ rfl rfl _ _ (Bk.new _ _ _) op_sz rfl (opv_one _ _) ?_)
  rw [World.setRow_alloc_new]
  replace H := H.alloc (.cells (opv ⟨A0a, 0, c0a, A1a, 0, c1a, A2a, 0, c2a, A3a, 0, c3a⟩ (mk_ 5 lf x f 0)) 38)
  replace U := U.below (below_alloc _ (.cells (opv ⟨A0a, 0, c0a, A1a, 0, c1a, A2a, 0, c2a, A3a, 0, c3a⟩ (mk_ 5 lf x f 0)) 38))
  replace L := L.below (below_alloc _ (.cells (opv ⟨A0a, 0, c0a, A1a, 0, c1a, A2a, 0, c2a, A3a, 0, c3a⟩ (mk_ 5 lf x f 0)) 38))
  replace K := Below.then_ K (below_alloc _ (.cells (opv ⟨A0a, 0, c0a, A1a, 0, c1a, A2a, 0, c2a, A3a, 0, c3a⟩ (mk_ 5 lf x f 0)) 38))
  have X : Bk (World.alloc (w5) (.cells (opv ⟨A0a, 0, c0a, A1a, 0, c1a, A2a, 0, c2a, A3a, 0, c3a⟩ (mk_ 5 lf x f 0)) 38)) (World.heap (w5)).size 38 (opv ⟨A0a, 0, c0a, A1a, 0, c1a, A2a, 0, c2a, A3a, 0, c3a⟩ (mk_ 5 lf x f 0)) := Bk.new _ _ _
  try simp only [World.size_alloc] at X
  generalize (w5).alloc (.cells (opv ⟨A0a, 0, c0a, A1a, 0, c1a, A2a, 0, c2a, A3a, 0, c3a⟩ (mk_ 5 lf x f 0)) 38) = w6 at H X U L K ⊢
  obtain ⟨gX, hgX⟩ : ∃ g, g = w5.heap.size := ⟨_, rfl⟩
  rw [← hgX] at X ⊢
  have X_b : w.heap.size ≤ gX := by have := KS; omega
  have ne_H_X : gH ≠ gX := by have := H_lt; omega
  clear hgX
  clear H_lt KS
  have X_8 := X.at_ (v := .int .i64 5) 8 rfl
  have X_z := X.lt
  have XC := (K.cell (p := ⟨bb, oo + cl, none⟩) hbb).trans hcc
  go_upto_region 9 with (fail)
  clear XC X_8
  go_wp2_with fail
  refine ((TW _ _ _ U).out).mono ?_
  rintro e w7 ⟨gS, dS, rfl, U', hgS, K'⟩
  clear U
  have AP : Apart gX (some ⟨gS, 0, none⟩) := fun b o e => by cases e; omega
  clear hgS X_z
  replace H := H.below K'
  replace X := X.below K'
  replace L := L.below K'
  replace K := Below.then_ K K'
  clear K'
  have U := U'
  clear U'
  have X_z := X.lt
  go_wp2_with (first | (refine wpList_load_row rfl 27 (.tmp 5) rfl gH rfl _ _ (0, 0) _ H Try.underlying27 rfl cf_sz ?_) | (refine wpList_load_row rfl 38 (.tmp 16) rfl gX rfl _ _ (0, 0) _ X Try.underlying38 rfl op_sz ?_))
  refine ((T1 _ _ _ _ _ _ _ _ _ _ _ _ U L).out).mono ?_
  skip
  rintro e w8 ⟨A0b, c0b, A1b, c1b, A2b, c2b, A3b, c3b, Bb, db, rfl, U', L', hA, K'⟩
  replace AP := hA gX X_z AP
  clear U L hA
  replace H := H.below K'
  replace X := X.below K'
  replace K := Below.then_ K K'
  clear K'
  go_upto_region 11 with (refine wpList_store_row rfl 38 (.tmp 16) (.tmp 71) rfl gX _ rfl rfl _ _ X op_sz rfl (opv_one _ _) ?_)
  have U := U'.rowA AP (opv ⟨A0b, 0, c0b, A1b, 0, c1b, A2b, 0, c2b, A3b, 0, c3b⟩ (mk_ 4 lf x1 f 1))
  have L := L'.set_row X_z (opv ⟨A0b, 0, c0b, A1b, 0, c1b, A2b, 0, c2b, A3b, 0, c3b⟩ (mk_ 4 lf x1 f 1))
  clear U' L' X_z
  replace H := H.row_far ne_H_X (opv ⟨A0b, 0, c0b, A1b, 0, c1b, A2b, 0, c2b, A3b, 0, c3b⟩ (mk_ 4 lf x1 f 1))
  replace X := X.row (opv ⟨A0b, 0, c0b, A1b, 0, c1b, A2b, 0, c2b, A3b, 0, c3b⟩ (mk_ 4 lf x1 f 1))
  replace K := below_setRow K X_b (opv ⟨A0b, 0, c0b, A1b, 0, c1b, A2b, 0, c2b, A3b, 0, c3b⟩ (mk_ 4 lf x1 f 1))
  generalize w8.setRow gX (opv ⟨A0b, 0, c0b, A1b, 0, c1b, A2b, 0, c2b, A3b, 0, c3b⟩ (mk_ 4 lf x1 f 1)) = w9 at H X U L K ⊢
  obtain ⟨b3, o3, rfl, hb3, hc3⟩ := U.get hcm
  rw [hset.out] at hc3
  have f2 : ((W : Int) != (W : Int)) = false := by simp
  have f3 : ((W : Int) == (W : Int)) = true := by simp
  go_wp2
  refine wp_loop_rounds 2 ?_
  clear hc3 hb3
  rw [rounds_succ]
  have X_8 := X.at_ (v := .int .i64 4) 8 rfl
  have X_z := X.lt
  go_wp2_with (first | (refine wpList_load_row rfl 27 (.tmp 5) rfl gH rfl _ _ (0, 0) _ H Try.underlying27 rfl cf_sz ?_) | (refine wpList_load_row rfl 38 (.tmp 16) rfl gX rfl _ _ (0, 0) _ X Try.underlying38 rfl op_sz ?_))
  refine ((T2 _ _ _ _ _ _ _ _ _ _ _ _ U L).out).mono ?_
  skip
  rintro e w10 ⟨A0c, c0c, A1c, c1c, A2c, c2c, A3c, c3c, Bc, dc, rfl, U', L', hA, K'⟩
  replace AP := hA gX X_z AP
  clear U L hA
  replace H := H.below K'
  replace X := X.below K'
  replace K := Below.then_ K K'
  clear K'
  go_wp2_with (refine wpList_store_row rfl 38 (.tmp 16) (.tmp 93) rfl gX _ rfl rfl _ _ X op_sz rfl (opv_one _ _) ?_)
  have U := U'.rowA AP (opv ⟨A0c, 0, c0c, A1c, 0, c1c, A2c, 0, c2c, A3c, 0, c3c⟩ (mk_ 0 lf 0 false 0))
  have L := L'.set_row X_z (opv ⟨A0c, 0, c0c, A1c, 0, c1c, A2c, 0, c2c, A3c, 0, c3c⟩ (mk_ 0 lf 0 false 0))
  clear U' L' X_z
  replace H := H.row_far ne_H_X (opv ⟨A0c, 0, c0c, A1c, 0, c1c, A2c, 0, c2c, A3c, 0, c3c⟩ (mk_ 0 lf 0 false 0))
  replace X := X.row (opv ⟨A0c, 0, c0c, A1c, 0, c1c, A2c, 0, c2c, A3c, 0, c3c⟩ (mk_ 0 lf 0 false 0))
  replace K := below_setRow K X_b (opv ⟨A0c, 0, c0c, A1c, 0, c1c, A2c, 0, c2c, A3c, 0, c3c⟩ (mk_ 0 lf 0 false 0))
  generalize w10.setRow gX (opv ⟨A0c, 0, c0c, A1c, 0, c1c, A2c, 0, c2c, A3c, 0, c3c⟩ (mk_ 0 lf 0 false 0)) = w11 at H X U L K ⊢
  clear X_8
  obtain ⟨b4, o4, rfl, hb4, hc4⟩ := U.get hcm
  rw [hset.out] at hc4
  rw [rounds_succ]
  have X_8 := X.at_ (v := .int .i64 0) 8 rfl
  have X_z := X.lt
  go_wp2
  go_ret
  exact ⟨rfl, K⟩
set_option maxRecDepth 100000 in
set_option maxHeartbeats 1000000 in
theorem p2c (ha : a < 4294967296) (h0 : IS .i64 lo w A n c zs) (hU : US w B m d ys) (hX : X < 65536) (hW : W < 18446744073709551616) (hb : confB a p n zs sh wo qu tr = true) (hM : Much a p M) (hm4 : M ≤ 4096) (hmm : m = lv M + tv M + 1) (hlf : (X : Int) % (lv M : Nat) = (lf : Nat)) (hlv : lf < lv M) (hcl : cl = lv M + lf / 64) (hbit : (gt ys (lv M + lf / 64)).testBit (lf % 64) ≠ f) (hWx : W ≠ (gt ys (lv M + lf / 64))) (hro : f = false ∨ (mkd (gt ys (lv M + lf / 64)) (lf % 64) f) = 18446744073709551615) (hz : (gt (ys.set (lv M + lf / 64) W) (lv M + tv M)).testBit (lf / 64) ≠ f) :
    Calls Try.prog 8 #[.agg #[.int .u32 a, .int .i64 p, .slice A n c, .int .i64 sh, .int .i64 wo, .int .i64 qu, .int .i64 tr], .slice B m d, .int .u16 X, .bool f, .int .u64 W] w (RetBo true w) := by
  have hbs := stepb hM.most hlv hmm
  have hx64 := gt_lt hU.fit (lv M + lf / 64)
  have T0 : ∀ (wq : World) (Bq A0 A1 A2 A3 : Option Addr) (dq c0 c1 c2 c3 lq : Nat), US wq Bq m dq ys → Lists lq wq ⟨A0, 0, c0, A1, 0, c1, A2, 0, c2, A3, 0, c3⟩ ⟨[], [], [], []⟩ → Hid (Calls Try.prog 17 #[.agg #[.int .u32 a, .int .i64 p, .slice A n c, .int .i64 sh, .int .i64 wo, .int .i64 qu, .int .i64 tr], .slice Bq m dq, .agg (opv ⟨A0, 0, c0, A1, 0, c1, A2, 0, c2, A3, 0, c3⟩ (mk_ 4 lf 0 f 0))] wq (RetB m (mk_ 5 lf (gt ys (lv M + lf / 64)) f 0) ys Bq wq)) := fun wq Bq A0 A1 A2 A3 dq c0 c1 c2 c3 lq U L => stepB ha hM hmm hlv (by omega) (.inl rfl) (.inl rfl) U L (o4_0.trans (lk_no hbit)) (c4)
  have hl := hU.len
  have hset : gt (ys.set (lv M + lf / 64) W) (lv M + lf / 64) = W := by rw [gt_set (by omega), if_pos rfl]
  have hfit := fit_set hU.fit (lv M + lf / 64) hW
  have hxp := mkd_lt f hx64 hbs.2.2.2.1
  have T1 : ∀ (wq : World) (Bq A0 A1 A2 A3 : Option Addr) (dq c0 c1 c2 c3 lq : Nat), US wq Bq m dq (ys.set (lv M + lf / 64) W) → Lists lq wq ⟨A0, 0, c0, A1, 0, c1, A2, 0, c2, A3, 0, c3⟩ ⟨[], [], [], []⟩ → Hid (Calls Try.prog 17 #[.agg #[.int .u32 a, .int .i64 p, .slice A n c, .int .i64 sh, .int .i64 wo, .int .i64 qu, .int .i64 tr], .slice Bq m dq, .agg (opv ⟨A0, 0, c0, A1, 0, c1, A2, 0, c2, A3, 0, c3⟩ (mk_ 5 lf (gt ys (lv M + lf / 64)) f 0))] wq (RetB m (mk_ 4 lf (mkd (gt ys (lv M + lf / 64)) (lf % 64) f) f 1) (ys.set (lv M + lf / 64) W) Bq wq)) := fun wq Bq A0 A1 A2 A3 dq c0 c1 c2 c3 lq U L => stepB ha hM hmm hlv hx64 (.inl rfl) (.inr rfl) U L (o5_0.trans (dn_root hro)) (c5_0n (by rw [hset]; exact hWx))
  have hz64 := gt_lt hfit (lv M + tv M)
  have T2 : ∀ (wq : World) (Bq A0 A1 A2 A3 : Option Addr) (dq c0 c1 c2 c3 lq : Nat), US wq Bq m dq (ys.set (lv M + lf / 64) W) → Lists lq wq ⟨A0, 0, c0, A1, 0, c1, A2, 0, c2, A3, 0, c3⟩ ⟨[], [], [], []⟩ → Hid (Calls Try.prog 17 #[.agg #[.int .u32 a, .int .i64 p, .slice A n c, .int .i64 sh, .int .i64 wo, .int .i64 qu, .int .i64 tr], .slice Bq m dq, .agg (opv ⟨A0, 0, c0, A1, 0, c1, A2, 0, c2, A3, 0, c3⟩ (mk_ 4 lf (mkd (gt ys (lv M + lf / 64)) (lf % 64) f) f 1))] wq (RetB m (mk_ 5 lf (gt (ys.set (lv M + lf / 64) W) (lv M + tv M)) f 1) (ys.set (lv M + lf / 64) W) Bq wq)) := fun wq Bq A0 A1 A2 A3 dq c0 c1 c2 c3 lq U L => stepB ha hM hmm hlv hxp (.inr rfl) (.inl rfl) U L (o4_1.trans (lk_no hz)) (c4)
  have T3 : ∀ (wq : World) (Bq A0 A1 A2 A3 : Option Addr) (dq c0 c1 c2 c3 lq : Nat), US wq Bq m dq (ys.set (lv M + lf / 64) W) → Lists lq wq ⟨A0, 0, c0, A1, 0, c1, A2, 0, c2, A3, 0, c3⟩ ⟨[], [], [], []⟩ → Hid (Calls Try.prog 17 #[.agg #[.int .u32 a, .int .i64 p, .slice A n c, .int .i64 sh, .int .i64 wo, .int .i64 qu, .int .i64 tr], .slice Bq m dq, .agg (opv ⟨A0, 0, c0, A1, 0, c1, A2, 0, c2, A3, 0, c3⟩ (mk_ 5 lf (gt (ys.set (lv M + lf / 64) W) (lv M + tv M)) f 1))] wq (RetB m (mk_ 0 lf 0 false 0) ((ys.set (lv M + lf / 64) W).set (lv M + tv M) (mkd (gt (ys.set (lv M + lf / 64) W) (lv M + tv M)) (lf / 64) f)) Bq wq)) := fun wq Bq A0 A1 A2 A3 dq c0 c1 c2 c3 lq U L => stepB ha hM hmm hlv hz64 (.inr rfl) (.inr rfl) U L (o5_1.trans (dn_go (.inl (by omega)))) (c5_1y (wd := (gt (ys.set (lv M + lf / 64) W) (lv M + tv M))) rfl)
  have h3 : lv M ≤ 64 * tv M := by unfold tv tq; omega
  have h4 : lf / 64 < tv M := by omega
  have hset3 : gt ((ys.set (lv M + lf / 64) W).set (lv M + tv M) (mkd (gt (ys.set (lv M + lf / 64) W) (lv M + tv M)) (lf / 64) f)) (lv M + lf / 64) = W := by rw [gt_set (by simp; omega), if_neg (by omega)]; exact hset
  have TW : ∀ (wq : World) (Bq : Option Addr) (dq : Nat), US wq Bq m dq ys → Hid (Calls Try.prog 31 #[.slice Bq m dq, .int .i64 (cl : Nat), .int .u64 (W : Nat)] wq (RetSM m (ys.set (lv M + lf / 64) W) wq)) := fun wq Bq dq U => by have := crset_new U (cl : Int) hbs.1 hW; rw [stI_nat, show ys.set cl W = (ys.set (lv M + lf / 64) W) by rw [hcl]] at this; exact this
  have TT := fun w => Lib.hid (rtop_any M lf hM.most (by have := lv_le hM.most; omega) w)
  have TL := fun w => Lib.hid (rleaves_any M hM.most w)
  rw [← hcl] at TT
  generalize lf % 64 = zb at TT
  obtain ⟨bb, oo, rfl, hbb, hcc⟩ := hU.get (j := cl) (by omega)
  have hcm : cl < m := by omega
  have hcm2 : (cl : Int) < (m : Int) := by omega
  generalize ((ys.set (lv M + lf / 64) W).set (lv M + tv M) (mkd (gt (ys.set (lv M + lf / 64) W) (lv M + tv M)) (lf / 64) f)) = ys3 at T3 hset3
  generalize hy2 : (ys.set (lv M + lf / 64) W) = ys2 at *
  clear hy2
  rw [show gt ys cl = (gt ys (lv M + lf / 64)) by rw [hcl]] at hcc
  generalize hx0 : (gt ys (lv M + lf / 64)) = x at *
  clear hx0
  have f1 : ((W : Int) == (x : Int)) = false := by simp; omega
  clear hWx
  rw [← hcl] at hset
  rw [← hcl] at hset3
  generalize mkd x (lf % 64) f = x1 at *
  generalize hzz : gt ys2 (lv M + tv M) = z at *
  clear hzz
  have hlp : 0 < lv M := by omega
  have hl2 := lv_le hM.most
  replace hmm := Lib.hid hmm
  replace hb := Lib.hid hb
  clear hcl
  try replace hbit := Lib.hid hbit
  try replace hgo := Lib.hid hgo
  try replace hro := Lib.hid hro
  try replace hz := Lib.hid hz
  try replace hset := Lib.hid hset
  try replace hset3 := Lib.hid hset3
  try clear hl
  try clear hfit
  try clear hx64
  try clear hxp
  try clear hz64
  try clear h3
  try clear h4
  go_enter Try.func8, Try.ntmps8
  go_upto_region 1 with (fail)
  have K := below_alloc w (.cells #[.int .u32 a, .int .i64 p, .slice A n c, .int .i64 sh, .int .i64 wo, .int .i64 qu, .int .i64 tr] 27)
  have H : Bk (World.alloc (w) (.cells #[.int .u32 a, .int .i64 p, .slice A n c, .int .i64 sh, .int .i64 wo, .int .i64 qu, .int .i64 tr] 27)) (World.heap (w)).size 27 (#[.int .u32 a, .int .i64 p, .slice A n c, .int .i64 sh, .int .i64 wo, .int .i64 qu, .int .i64 tr]) := Bk.new _ _ _
  try simp only [World.size_alloc] at H
  generalize (w).alloc (.cells #[.int .u32 a, .int .i64 p, .slice A n c, .int .i64 sh, .int .i64 wo, .int .i64 qu, .int .i64 tr] 27) = w1 at H K ⊢
  obtain ⟨gH, hgH⟩ : ∃ g, g = w.heap.size := ⟨_, rfl⟩
  rw [← hgH] at H ⊢
  have H_b : w.heap.size ≤ gH := by omega
  clear hgH
  go_wp2_with fail
  refine (awake_any _).mono ?_
  rintro e w2 ⟨rfl, K'⟩
  replace H := H.below K'
  replace K := Below.then_ K K'
  clear K'
  go_wp2_with (refine wpList_load_want (by rfl) 27 (.tmp 5) rfl gH rfl _ _ (0, 0) _ H Try.underlying27 rfl cf_sz ?_)
  refine (fits3 ha (h0.below K) hb.out hM hm4 hmm.out).mono ?_
  rintro e w3 ⟨rfl, K'⟩
  replace H := H.below K'
  replace K := Below.then_ K K'
  clear K'
  have H_0 := H.at_ (v := .int .u32 a) 0 rfl
  have H_1 := H.at_ (v := .int .i64 p) 1 rfl
  have H_z := H.lt
  go_wp2_with fail
  refine (rmany_yes hM).mono ?_
  rintro e w4 ⟨rfl, K'⟩
  clear H_0 H_1 H_z
  replace H := H.below K'
  replace K := Below.then_ K K'
  clear K'
  go_upto_region 5 with ((with_reducible refine ((TL _).out).mono ?_); rintro e w' ⟨rfl, rfl⟩)
  try simp only [hlf]
  clear hlf
  go_upto_region 6 with ((with_reducible refine ((TT _).out).mono ?_); rintro e w' ⟨rfl, rfl⟩)
  go_wp2_with (refine wpList_load_row rfl 27 (.tmp 5) rfl gH rfl _ _ (0, 0) _ H Try.underlying27 rfl cf_sz ?_)
  refine ((T0 _ _ none none none none _ 0 0 0 0 0 (hU.below K) (Lists.hd0 _)).out).mono ?_
  rintro e w5 ⟨A0a, c0a, A1a, c1a, A2a, c2a, A3a, c3a, Ba, da, rfl, U, L, _, K'⟩
  replace H := H.below K'
  replace K := Below.then_ K K'
  clear K'
  have H_lt := H.lt
  have KS := K.size
  go_upto_region 7 with (refine wpList_store_row rfl 38 (.tmp 16) (.tmp 49) rfl _ _ rfl rfl _ _ (Bk.new _ _ _) op_sz rfl (opv_one _ _) ?_)
  rw [World.setRow_alloc_new]
  replace H := H.alloc (.cells (opv ⟨A0a, 0, c0a, A1a, 0, c1a, A2a, 0, c2a, A3a, 0, c3a⟩ (mk_ 5 lf x f 0)) 38)
  replace U := U.below (below_alloc _ (.cells (opv ⟨A0a, 0, c0a, A1a, 0, c1a, A2a, 0, c2a, A3a, 0, c3a⟩ (mk_ 5 lf x f 0)) 38))
  replace L := L.below (below_alloc _ (.cells (opv ⟨A0a, 0, c0a, A1a, 0, c1a, A2a, 0, c2a, A3a, 0, c3a⟩ (mk_ 5 lf x f 0)) 38))
  replace K := Below.then_ K (below_alloc _ (.cells (opv ⟨A0a, 0, c0a, A1a, 0, c1a, A2a, 0, c2a, A3a, 0, c3a⟩ (mk_ 5 lf x f 0)) 38))
  have X : Bk (World.alloc (w5) (.cells (opv ⟨A0a, 0, c0a, A1a, 0, c1a, A2a, 0, c2a, A3a, 0, c3a⟩ (mk_ 5 lf x f 0)) 38)) (World.heap (w5)).size 38 (opv ⟨A0a, 0, c0a, A1a, 0, c1a, A2a, 0, c2a, A3a, 0, c3a⟩ (mk_ 5 lf x f 0)) := Bk.new _ _ _
  try simp only [World.size_alloc] at X
  generalize (w5).alloc (.cells (opv ⟨A0a, 0, c0a, A1a, 0, c1a, A2a, 0, c2a, A3a, 0, c3a⟩ (mk_ 5 lf x f 0)) 38) = w6 at H X U L K ⊢
  obtain ⟨gX, hgX⟩ : ∃ g, g = w5.heap.size := ⟨_, rfl⟩
  rw [← hgX] at X ⊢
  have X_b : w.heap.size ≤ gX := by have := KS; omega
  have ne_H_X : gH ≠ gX := by have := H_lt; omega
  clear hgX
  clear H_lt KS
  have X_8 := X.at_ (v := .int .i64 5) 8 rfl
  have X_z := X.lt
  have XC := (K.cell (p := ⟨bb, oo + cl, none⟩) hbb).trans hcc
  go_upto_region 9 with (fail)
  clear XC X_8
  go_wp2_with fail
  refine ((TW _ _ _ U).out).mono ?_
  rintro e w7 ⟨gS, dS, rfl, U', hgS, K'⟩
  clear U
  have AP : Apart gX (some ⟨gS, 0, none⟩) := fun b o e => by cases e; omega
  clear hgS X_z
  replace H := H.below K'
  replace X := X.below K'
  replace L := L.below K'
  replace K := Below.then_ K K'
  clear K'
  have U := U'
  clear U'
  have X_z := X.lt
  go_wp2_with (first | (refine wpList_load_row rfl 27 (.tmp 5) rfl gH rfl _ _ (0, 0) _ H Try.underlying27 rfl cf_sz ?_) | (refine wpList_load_row rfl 38 (.tmp 16) rfl gX rfl _ _ (0, 0) _ X Try.underlying38 rfl op_sz ?_))
  refine ((T1 _ _ _ _ _ _ _ _ _ _ _ _ U L).out).mono ?_
  skip
  rintro e w8 ⟨A0b, c0b, A1b, c1b, A2b, c2b, A3b, c3b, Bb, db, rfl, U', L', hA, K'⟩
  replace AP := hA gX X_z AP
  clear U L hA
  replace H := H.below K'
  replace X := X.below K'
  replace K := Below.then_ K K'
  clear K'
  go_upto_region 11 with (refine wpList_store_row rfl 38 (.tmp 16) (.tmp 71) rfl gX _ rfl rfl _ _ X op_sz rfl (opv_one _ _) ?_)
  have U := U'.rowA AP (opv ⟨A0b, 0, c0b, A1b, 0, c1b, A2b, 0, c2b, A3b, 0, c3b⟩ (mk_ 4 lf x1 f 1))
  have L := L'.set_row X_z (opv ⟨A0b, 0, c0b, A1b, 0, c1b, A2b, 0, c2b, A3b, 0, c3b⟩ (mk_ 4 lf x1 f 1))
  clear U' L' X_z
  replace H := H.row_far ne_H_X (opv ⟨A0b, 0, c0b, A1b, 0, c1b, A2b, 0, c2b, A3b, 0, c3b⟩ (mk_ 4 lf x1 f 1))
  replace X := X.row (opv ⟨A0b, 0, c0b, A1b, 0, c1b, A2b, 0, c2b, A3b, 0, c3b⟩ (mk_ 4 lf x1 f 1))
  replace K := below_setRow K X_b (opv ⟨A0b, 0, c0b, A1b, 0, c1b, A2b, 0, c2b, A3b, 0, c3b⟩ (mk_ 4 lf x1 f 1))
  generalize w8.setRow gX (opv ⟨A0b, 0, c0b, A1b, 0, c1b, A2b, 0, c2b, A3b, 0, c3b⟩ (mk_ 4 lf x1 f 1)) = w9 at H X U L K ⊢
  obtain ⟨b3, o3, rfl, hb3, hc3⟩ := U.get hcm
  rw [hset.out] at hc3
  have f2 : ((W : Int) != (W : Int)) = false := by simp
  have f3 : ((W : Int) == (W : Int)) = true := by simp
  go_wp2
  refine wp_loop_rounds 3 ?_
  clear hc3 hb3
  rw [rounds_succ]
  have X_8 := X.at_ (v := .int .i64 4) 8 rfl
  have X_z := X.lt
  go_wp2_with (first | (refine wpList_load_row rfl 27 (.tmp 5) rfl gH rfl _ _ (0, 0) _ H Try.underlying27 rfl cf_sz ?_) | (refine wpList_load_row rfl 38 (.tmp 16) rfl gX rfl _ _ (0, 0) _ X Try.underlying38 rfl op_sz ?_))
  refine ((T2 _ _ _ _ _ _ _ _ _ _ _ _ U L).out).mono ?_
  skip
  rintro e w10 ⟨A0c, c0c, A1c, c1c, A2c, c2c, A3c, c3c, Bc, dc, rfl, U', L', hA, K'⟩
  replace AP := hA gX X_z AP
  clear U L hA
  replace H := H.below K'
  replace X := X.below K'
  replace K := Below.then_ K K'
  clear K'
  go_wp2_with (refine wpList_store_row rfl 38 (.tmp 16) (.tmp 93) rfl gX _ rfl rfl _ _ X op_sz rfl (opv_one _ _) ?_)
  have U := U'.rowA AP (opv ⟨A0c, 0, c0c, A1c, 0, c1c, A2c, 0, c2c, A3c, 0, c3c⟩ (mk_ 5 lf z f 1))
  have L := L'.set_row X_z (opv ⟨A0c, 0, c0c, A1c, 0, c1c, A2c, 0, c2c, A3c, 0, c3c⟩ (mk_ 5 lf z f 1))
  clear U' L' X_z
  replace H := H.row_far ne_H_X (opv ⟨A0c, 0, c0c, A1c, 0, c1c, A2c, 0, c2c, A3c, 0, c3c⟩ (mk_ 5 lf z f 1))
  replace X := X.row (opv ⟨A0c, 0, c0c, A1c, 0, c1c, A2c, 0, c2c, A3c, 0, c3c⟩ (mk_ 5 lf z f 1))
  replace K := below_setRow K X_b (opv ⟨A0c, 0, c0c, A1c, 0, c1c, A2c, 0, c2c, A3c, 0, c3c⟩ (mk_ 5 lf z f 1))
  generalize w10.setRow gX (opv ⟨A0c, 0, c0c, A1c, 0, c1c, A2c, 0, c2c, A3c, 0, c3c⟩ (mk_ 5 lf z f 1)) = w11 at H X U L K ⊢
  clear X_8
  rw [rounds_succ]
  have X_8 := X.at_ (v := .int .i64 5) 8 rfl
  have X_z := X.lt
  go_wp2_with (first | (refine wpList_load_row rfl 27 (.tmp 5) rfl gH rfl _ _ (0, 0) _ H Try.underlying27 rfl cf_sz ?_) | (refine wpList_load_row rfl 38 (.tmp 16) rfl gX rfl _ _ (0, 0) _ X Try.underlying38 rfl op_sz ?_))
  refine ((T3 _ _ _ _ _ _ _ _ _ _ _ _ U L).out).mono ?_
  skip
  rintro e w12 ⟨A0d, c0d, A1d, c1d, A2d, c2d, A3d, c3d, Bd, dd, rfl, U', L', hA, K'⟩
  replace AP := hA gX X_z AP
  clear U L hA
  replace H := H.below K'
  replace X := X.below K'
  replace K := Below.then_ K K'
  clear K'
  go_wp2_with (refine wpList_store_row rfl 38 (.tmp 16) (.tmp 93) rfl gX _ rfl rfl _ _ X op_sz rfl (opv_one _ _) ?_)
  have U := U'.rowA AP (opv ⟨A0d, 0, c0d, A1d, 0, c1d, A2d, 0, c2d, A3d, 0, c3d⟩ (mk_ 0 lf 0 false 0))
  have L := L'.set_row X_z (opv ⟨A0d, 0, c0d, A1d, 0, c1d, A2d, 0, c2d, A3d, 0, c3d⟩ (mk_ 0 lf 0 false 0))
  clear U' L' X_z
  replace H := H.row_far ne_H_X (opv ⟨A0d, 0, c0d, A1d, 0, c1d, A2d, 0, c2d, A3d, 0, c3d⟩ (mk_ 0 lf 0 false 0))
  replace X := X.row (opv ⟨A0d, 0, c0d, A1d, 0, c1d, A2d, 0, c2d, A3d, 0, c3d⟩ (mk_ 0 lf 0 false 0))
  replace K := below_setRow K X_b (opv ⟨A0d, 0, c0d, A1d, 0, c1d, A2d, 0, c2d, A3d, 0, c3d⟩ (mk_ 0 lf 0 false 0))
  generalize w12.setRow gX (opv ⟨A0d, 0, c0d, A1d, 0, c1d, A2d, 0, c2d, A3d, 0, c3d⟩ (mk_ 0 lf 0 false 0)) = w13 at H X U L K ⊢
  clear X_8
  obtain ⟨b4, o4, rfl, hb4, hc4⟩ := U.get hcm
  rw [hset3.out] at hc4
  rw [rounds_succ]
  have X_8 := X.at_ (v := .int .i64 0) 8 rfl
  have X_z := X.lt
  go_wp2
  go_ret
  exact ⟨rfl, K⟩
theorem fit (ha : a < 4294967296) (h0 : IS .i64 lo w A n c zs) (hU : US w B m d ys) (hX : X < 65536) (hW : W < 18446744073709551616) (hb : confB a p n zs sh wo qu tr = true) (hM : Much a p M) (hm4 : M ≤ 4096) (hmm : m = lv M + tv M + 1) (hlf : (X : Int) % (lv M : Nat) = (lf : Nat)) (hlv : lf < lv M) (hcl : cl = lv M + lf / 64) :
    Calls Try.prog 8 #[.agg #[.int .u32 a, .int .i64 p, .slice A n c, .int .i64 sh, .int .i64 wo, .int .i64 qu, .int .i64 tr], .slice B m d, .int .u16 X, .bool f, .int .u64 W] w (RetBo true w) := by
  subst hcl
  by_cases hbit : (gt ys (lv M + lf / 64)).testBit (lf % 64) = f
  · by_cases hgo : f = true ∧ (gt ys (lv M + lf / 64)) ≠ 18446744073709551615
    · exact p0a ha h0 hU hX hW hb hM hm4 hmm hlf hlv rfl hbit hgo
    · exact p0b ha h0 hU hX hW hb hM hm4 hmm hlf hlv rfl hbit (by cases f with | false => exact .inl rfl | true => exact .inr (Decidable.byContradiction fun h => hgo ⟨rfl, h⟩))
  · by_cases hWx : W = (gt ys (lv M + lf / 64))
    · exact p1 ha h0 hU hX hW hb hM hm4 hmm hlf hlv rfl hbit hWx
    · by_cases hgo : f = true ∧ (mkd (gt ys (lv M + lf / 64)) (lf % 64) f) ≠ 18446744073709551615
      · exact p2a ha h0 hU hX hW hb hM hm4 hmm hlf hlv rfl hbit hWx hgo
      · have hro : f = false ∨ (mkd (gt ys (lv M + lf / 64)) (lf % 64) f) = 18446744073709551615 := by
          cases f with
          | false => exact .inl rfl
          | true => exact .inr (Decidable.byContradiction fun h => hgo ⟨rfl, h⟩)
        by_cases hz : (gt (ys.set (lv M + lf / 64) W) (lv M + tv M)).testBit (lf / 64) = f
        · exact p2b ha h0 hU hX hW hb hM hm4 hmm hlf hlv rfl hbit hWx hro hz
        · exact p2c ha h0 hU hX hW hb hM hm4 hmm hlf hlv rfl hbit hWx hro hz
end
theorem walk (a p : Int) (A : Option Addr) (n c : Nat) (z : List Int) (sh wo qu tr : Int) (B : Option Addr) (m d : Nat) (zb : List Int) (X : Int) (f : Bool) (W : Int) (w : World) (wa : (Lit.int .u32 a).wf = true) (wr : IsRow .i64 w A n c z) (wb : IsRow .u64 w B m d zb) (wX : (Lit.int .u16 X).wf = true) (wW : (Lit.int .u64 W).wf = true) :
    Calls Try.prog 8 #[.agg #[.int .u32 a, .int .i64 p, .slice A n c, .int .i64 sh, .int .i64 wo, .int .i64 qu, .int .i64 tr], .slice B m d, .int .u16 X, .bool f, .int .u64 W] w fun e w' => e = .returned (.bool true) ∧ Below w.heap.size w w' := by
  obtain ⟨a, rfl, ha⟩ := wf_u32 wa
  obtain ⟨zs, h0, _⟩ := IS.of_row wr
  obtain ⟨ys, hU⟩ := US.of_row wb
  obtain ⟨X, rfl, hX⟩ := wf_u16 wX
  obtain ⟨W, rfl, hW⟩ := wf_u64 wW
  cases hb : confB a p n zs sh wo qu tr with
  | false => exact no0 ha h0 hX hb
  | true =>
    have hM := Much.of (confB_no hb).1
    by_cases hm4 : 2 ^ (32 - p.toNat) ≤ 4096
    · by_cases hmm : m = lv (2 ^ (32 - p.toNat)) + tv (2 ^ (32 - p.toNat)) + 1
      · have hp : 0 < lv (2 ^ (32 - p.toNat)) := by have := hM.pos; unfold lv; omega
        exact fit ha h0 hU hX hW hb hM hm4 hmm (lf := X % lv (2 ^ (32 - p.toNat))) (by rw [Int.natCast_emod]) (Nat.mod_lt _ hp) rfl
      · exact no2 ha h0 hX hb hM hm4 hmm
    · exact no1 ha h0 hX hb hM hm4
end Go.Proofs.Ytlfdekeahplidaa.hintLost
