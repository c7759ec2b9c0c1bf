/-
  The walk of the law ModelCells: for every configuration, cells, offset and word it answers true.
-/
import Derived.Test.YthnmneinimlpcaaModelUses
namespace Go.Proofs.Ythnmneinimlpcaa.modelCells
open Go.RowKit
set_option linter.unusedVariables false
section
variable {w : World} {lo lo2 a m d M X V : Nat} {p sh wo qu tr : Int} {A B : Option Addr} {n c : Nat} {zs xs : List Int} {ys : List Nat}
set_option maxRecDepth 100000 in
set_option maxHeartbeats 2000000 in
theorem held {bb oo : Nat} (ha : a < 4294967296) (h : IS .i64 lo w A n c zs) (hU : US w (some ⟨bb, oo, none⟩) m d ys) (hX : X < 65536) (hV : V < U64) (hb : Hid (confB a p n zs sh wo qu tr = true)) (hM : Much a p M) (hn : n ≤ 64) (hr : Hid (risB M 0 zs = true)) (hM4 : M ≤ 4096) (hmm : Hid (m = lv M + tv M + 1)) (hmv : Hid (lv M ≤ m)) (hm6 : m ≤ 65536) {o q r m1 u : Nat} (ho : (X : Int) % (M : Int) = (o : Int)) (ho2 : (X : Int).tmod (M : Int) = (o : Int)) (hoM : o < M) (hq : (o : Int) / 32 = (q : Int)) (hr2 : (o : Int) % 32 = (r : Int)) (hr3 : r < 64) (hqm : q < m) (hm1 : (m : Int) - 1 = (m1 : Int)) (EH : Hid (os (uf zs (ys.set m1 V)) M = os (uf zs ys) M)) (hos : (os (uf zs ys) M).length ≤ M) (hu : (M : Int) - (n : Int) = (u : Int)) (hu2 : (os (uf zs ys) M).length ≤ u) (EA : Hid (os (uf zs (ys.set q (clm (gt ys q) r))) M = os (uf zs ys) M)) (ED : Hid (os (uf zs (ys.set q (drp (gt ys q) r))) M = os (uf zs ys) M)) (hh : Hid (hasB zs (o : Int) = true)) :
    Calls Try.prog 5 #[.agg #[.int .u32 a, .int .i64 p, .slice A n c, .int .i64 sh, .int .i64 wo, .int .i64 qu, .int .i64 tr], .slice (some ⟨bb, oo, none⟩) m d, .int .u16 X, .int .u64 V] w (RetBo true w) := by
  have hlen := hU.len
  have hfit := Lib.hid hU.fit
  have hMp := hM.pos
  have K := below_alloc w (.cells #[.int .u32 a, .int .i64 p, .slice A n c, .int .i64 sh, .int .i64 wo, .int .i64 qu, .int .i64 tr] 27)
  have H := Bk.new w #[.int .u32 a, .int .i64 p, .slice A n c, .int .i64 sh, .int .i64 wo, .int .i64 qu, .int .i64 tr] 27
  replace h := h.below K
  replace hU := hU.below K
  go_enter Try.func5, Try.ntmps5
  go_upto_region 1 with (fail)
  generalize w.alloc (.cells #[.int .u32 a, .int .i64 p, .slice A n c, .int .i64 sh, .int .i64 wo, .int .i64 qu, .int .i64 tr] 27) = w1 at H K h hU ⊢
  generalize w.heap.size = g at H ⊢
  go_wp2_with fail
  refine (awake_any _).mono ?_
  rintro e w2 ⟨rfl, K'⟩
  replace H := H.below K'
  replace h := h.below K'
  replace hU := hU.below K'
  replace K := Below.then_ K K'
  clear K'
  have H_0 := H.at_ (v := .int .u32 a) 0 rfl
  have H_1 := H.at_ (v := .int .i64 p) 1 rfl
  have H_2 := H.at_ (v := .slice A n c) 2 rfl
  have H_3 := H.at_ (v := .int .i64 sh) 3 rfl
  have H_4 := H.at_ (v := .int .i64 wo) 4 rfl
  have H_5 := H.at_ (v := .int .i64 qu) 5 rfl
  have H_6 := H.at_ (v := .int .i64 tr) 6 rfl
  have H_z := H.lt
  go_wp2_with fail
  refine (fits3 ha h hb.out hM hM4 hmm.out).mono ?_
  rintro e w3 ⟨rfl, K'⟩
  clear H_0 H_1 H_2 H_3 H_4 H_5 H_6 H_z
  replace H := H.below K'
  replace h := h.below K'
  replace hU := hU.below K'
  replace K := Below.then_ K K'
  clear K'
  have H_0 := H.at_ (v := .int .u32 a) 0 rfl
  have H_1 := H.at_ (v := .int .i64 p) 1 rfl
  have H_2 := H.at_ (v := .slice A n c) 2 rfl
  have H_3 := H.at_ (v := .int .i64 sh) 3 rfl
  have H_4 := H.at_ (v := .int .i64 wo) 4 rfl
  have H_5 := H.at_ (v := .int .i64 qu) 5 rfl
  have H_6 := H.at_ (v := .int .i64 tr) 6 rfl
  have H_z := H.lt
  go_wp2_with fail
  refine (rmany_yes hM).mono ?_
  rintro e w4 ⟨rfl, K'⟩
  clear H_0 H_1 H_2 H_3 H_4 H_5 H_6 H_z
  replace H := H.below K'
  replace h := h.below K'
  replace hU := hU.below K'
  replace K := Below.then_ K K'
  clear K'
  have H_0 := H.at_ (v := .int .u32 a) 0 rfl
  have H_1 := H.at_ (v := .int .i64 p) 1 rfl
  have H_2 := H.at_ (v := .slice A n c) 2 rfl
  have H_3 := H.at_ (v := .int .i64 sh) 3 rfl
  have H_4 := H.at_ (v := .int .i64 wo) 4 rfl
  have H_5 := H.at_ (v := .int .i64 qu) 5 rfl
  have H_6 := H.at_ (v := .int .i64 tr) 6 rfl
  have H_z := H.lt
  go_wp2_with fail
  refine (mof_any (sh := sh) (wo := wo) (qu := qu) (tr := tr) ha hM h (by omega) hr.out hU hmv.out hm6).mono ?_
  rintro e w5 ⟨IA, In, Ic, rfl, I, K'⟩
  clear H_0 H_1 H_2 H_3 H_4 H_5 H_6 H_z
  replace H := H.below K'
  replace h := h.below K'
  replace hU := hU.below K'
  replace K := Below.then_ K K'
  clear K'
  have Ib : In ≤ 65000 := by have := I.len; have := hos; omega
  have T := mmay_any (sh := sh) (wo := wo) (qu := qu) (tr := tr) ha hM h (by omega) I (by omega)
  rw [os_may M zs ys] at T
  replace T := Lib.hid T
  have H_0 := H.at_ (v := .int .u32 a) 0 rfl
  have H_1 := H.at_ (v := .int .i64 p) 1 rfl
  have H_2 := H.at_ (v := .slice A n c) 2 rfl
  have H_3 := H.at_ (v := .int .i64 sh) 3 rfl
  have H_4 := H.at_ (v := .int .i64 wo) 4 rfl
  have H_5 := H.at_ (v := .int .i64 qu) 5 rfl
  have H_6 := H.at_ (v := .int .i64 tr) 6 rfl
  have H_z := H.lt
  go_wp2_with fail
  refine (T.out).mono ?_
  rintro e w6 ⟨rfl, K'⟩
  clear H_0 H_1 H_2 H_3 H_4 H_5 H_6 H_z
  replace H := H.below K'
  replace h := h.below K'
  replace hU := hU.below K'
  replace I := I.below K'
  replace K := Below.then_ K K'
  clear K'
  clear T
  have f1 : ¬ (u < In) := by have := I.len; omega
  have H_0 := H.at_ (v := .int .u32 a) 0 rfl
  have H_1 := H.at_ (v := .int .i64 p) 1 rfl
  have H_2 := H.at_ (v := .slice A n c) 2 rfl
  have H_3 := H.at_ (v := .int .i64 sh) 3 rfl
  have H_4 := H.at_ (v := .int .i64 wo) 4 rfl
  have H_5 := H.at_ (v := .int .i64 qu) 5 rfl
  have H_6 := H.at_ (v := .int .i64 tr) 6 rfl
  have H_z := H.lt
  have hc := hU.here hqm
  go_wp2_with fail
  refine (claim_any (gt ys q) r (gt_lt hfit.out q) hr3 _).mono ?_
  rintro e _ ⟨rfl, rfl⟩
  clear H_0 H_1 H_2 H_3 H_4 H_5 H_6 H_z
  clear hc
  have T := crset_any hU (q : Int) hm6 (v := clm (gt ys q) r) (clm_lt _ _)
  rw [stI_nat] at T
  replace T := Lib.hid T
  go_wp2_with fail
  refine (T.out).mono ?_
  rintro e w7 ⟨UAA, UAc, rfl, UA, K'⟩
  replace H := H.below K'
  replace h := h.below K'
  replace hU := hU.below K'
  replace I := I.below K'
  replace K := Below.then_ K K'
  clear K'
  clear T
  have hc := hU.here hqm
  go_wp2_with fail
  refine (drop_any (gt ys q) r (gt_lt hfit.out q) hr3 _).mono ?_
  rintro e _ ⟨rfl, rfl⟩
  clear hc
  have T := crset_any hU (q : Int) hm6 (v := drp (gt ys q) r) (drp_lt _ _)
  rw [stI_nat] at T
  replace T := Lib.hid T
  go_wp2_with fail
  refine (T.out).mono ?_
  rintro e w8 ⟨UDA, UDc, rfl, UD, K'⟩
  replace H := H.below K'
  replace h := h.below K'
  replace hU := hU.below K'
  replace I := I.below K'
  replace UA := UA.below K'
  replace K := Below.then_ K K'
  clear K'
  clear T
  have T := crset_any hU (m1 : Int) hm6 (v := V) hV
  rw [stI_nat] at T
  replace T := Lib.hid T
  go_wp2_with fail
  refine (T.out).mono ?_
  rintro e w9 ⟨UHA, UHc, rfl, UH, K'⟩
  replace H := H.below K'
  replace h := h.below K'
  replace hU := hU.below K'
  replace I := I.below K'
  replace UA := UA.below K'
  replace UD := UD.below K'
  replace K := Below.then_ K K'
  clear K'
  clear T
  have T := mof_any (sh := sh) (wo := wo) (qu := qu) (tr := tr) ha hM h (by omega) hr.out UH hmv.out hm6
  rw [EH.out] at T
  replace T := Lib.hid T
  have H_0 := H.at_ (v := .int .u32 a) 0 rfl
  have H_1 := H.at_ (v := .int .i64 p) 1 rfl
  have H_2 := H.at_ (v := .slice A n c) 2 rfl
  have H_3 := H.at_ (v := .int .i64 sh) 3 rfl
  have H_4 := H.at_ (v := .int .i64 wo) 4 rfl
  have H_5 := H.at_ (v := .int .i64 qu) 5 rfl
  have H_6 := H.at_ (v := .int .i64 tr) 6 rfl
  have H_z := H.lt
  go_wp2_with fail
  refine (T.out).mono ?_
  rintro e w10 ⟨JA, Jn, Jc, rfl, J, K'⟩
  clear H_0 H_1 H_2 H_3 H_4 H_5 H_6 H_z
  replace H := H.below K'
  replace h := h.below K'
  replace hU := hU.below K'
  replace I := I.below K'
  replace UA := UA.below K'
  replace UD := UD.below K'
  replace UH := UH.below K'
  replace K := Below.then_ K K'
  clear K'
  have Jb : Jn ≤ 65000 := by have := J.len; have := hos; omega
  clear T
  go_wp2_with fail
  refine (ints_same J I (by omega)).mono ?_
  rintro e w11 ⟨rfl, K'⟩
  replace H := H.below K'
  replace h := h.below K'
  replace hU := hU.below K'
  replace I := I.below K'
  replace UA := UA.below K'
  replace UD := UD.below K'
  replace UH := UH.below K'
  replace J := J.below K'
  replace K := Below.then_ K K'
  clear K'
  clear J UH
  clear Jb
  have H_0 := H.at_ (v := .int .u32 a) 0 rfl
  have H_1 := H.at_ (v := .int .i64 p) 1 rfl
  have H_2 := H.at_ (v := .slice A n c) 2 rfl
  have H_3 := H.at_ (v := .int .i64 sh) 3 rfl
  have H_4 := H.at_ (v := .int .i64 wo) 4 rfl
  have H_5 := H.at_ (v := .int .i64 qu) 5 rfl
  have H_6 := H.at_ (v := .int .i64 tr) 6 rfl
  have H_z := H.lt
  go_wp2_with fail
  refine (rheld_is9 (a := a) (p := p) (sh := sh) (wo := wo) (qu := qu) (tr := tr) h (by omega) hh.out).mono ?_
  rintro e w12 ⟨rfl, K'⟩
  clear H_0 H_1 H_2 H_3 H_4 H_5 H_6 H_z
  replace H := H.below K'
  replace h := h.below K'
  replace hU := hU.below K'
  replace I := I.below K'
  replace UA := UA.below K'
  replace UD := UD.below K'
  replace K := Below.then_ K K'
  clear K'
  have T := mof_any (sh := sh) (wo := wo) (qu := qu) (tr := tr) ha hM h (by omega) hr.out UA hmv.out hm6
  rw [EA.out] at T
  replace T := Lib.hid T
  have H_0 := H.at_ (v := .int .u32 a) 0 rfl
  have H_1 := H.at_ (v := .int .i64 p) 1 rfl
  have H_2 := H.at_ (v := .slice A n c) 2 rfl
  have H_3 := H.at_ (v := .int .i64 sh) 3 rfl
  have H_4 := H.at_ (v := .int .i64 wo) 4 rfl
  have H_5 := H.at_ (v := .int .i64 qu) 5 rfl
  have H_6 := H.at_ (v := .int .i64 tr) 6 rfl
  have H_z := H.lt
  go_wp2_with fail
  refine (T.out).mono ?_
  rintro e w13 ⟨JA, Jn, Jc, rfl, J, K'⟩
  clear H_0 H_1 H_2 H_3 H_4 H_5 H_6 H_z
  replace H := H.below K'
  replace h := h.below K'
  replace hU := hU.below K'
  replace I := I.below K'
  replace UA := UA.below K'
  replace UD := UD.below K'
  replace K := Below.then_ K K'
  clear K'
  have Jb : Jn ≤ 65000 := by have := J.len; have := hos; omega
  clear T
  go_wp2_with fail
  refine (ints_same J I (by omega)).mono ?_
  rintro e w14 ⟨rfl, K'⟩
  replace H := H.below K'
  replace h := h.below K'
  replace hU := hU.below K'
  replace I := I.below K'
  replace UA := UA.below K'
  replace UD := UD.below K'
  replace J := J.below K'
  replace K := Below.then_ K K'
  clear K'
  clear J
  clear Jb
  have T := mof_any (sh := sh) (wo := wo) (qu := qu) (tr := tr) ha hM h (by omega) hr.out UD hmv.out hm6
  rw [ED.out] at T
  replace T := Lib.hid T
  have H_0 := H.at_ (v := .int .u32 a) 0 rfl
  have H_1 := H.at_ (v := .int .i64 p) 1 rfl
  have H_2 := H.at_ (v := .slice A n c) 2 rfl
  have H_3 := H.at_ (v := .int .i64 sh) 3 rfl
  have H_4 := H.at_ (v := .int .i64 wo) 4 rfl
  have H_5 := H.at_ (v := .int .i64 qu) 5 rfl
  have H_6 := H.at_ (v := .int .i64 tr) 6 rfl
  have H_z := H.lt
  go_wp2_with fail
  refine (T.out).mono ?_
  rintro e w15 ⟨JA, Jn, Jc, rfl, J, K'⟩
  clear H_0 H_1 H_2 H_3 H_4 H_5 H_6 H_z
  replace H := H.below K'
  replace h := h.below K'
  replace hU := hU.below K'
  replace I := I.below K'
  replace UA := UA.below K'
  replace UD := UD.below K'
  replace K := Below.then_ K K'
  clear K'
  have Jb : Jn ≤ 65000 := by have := J.len; have := hos; omega
  clear T
  go_wp2_with fail
  refine (ints_same J I (by omega)).mono ?_
  rintro e w16 ⟨rfl, K'⟩
  replace H := H.below K'
  replace h := h.below K'
  replace hU := hU.below K'
  replace I := I.below K'
  replace UA := UA.below K'
  replace UD := UD.below K'
  replace J := J.below K'
  replace K := Below.then_ K K'
  clear K'
  clear J
  clear Jb
  go_wp2
  go_ret
  exact ⟨rfl, K⟩
set_option maxRecDepth 100000 in
set_option maxHeartbeats 2000000 in
theorem free {bb oo : Nat} (ha : a < 4294967296) (h : IS .i64 lo w A n c zs) (hU : US w (some ⟨bb, oo, none⟩) m d ys) (hX : X < 65536) (hV : V < U64) (hb : Hid (confB a p n zs sh wo qu tr = true)) (hM : Much a p M) (hn : n ≤ 64) (hr : Hid (risB M 0 zs = true)) (hM4 : M ≤ 4096) (hmm : Hid (m = lv M + tv M + 1)) (hmv : Hid (lv M ≤ m)) (hm6 : m ≤ 65536) {o q r m1 u : Nat} (ho : (X : Int) % (M : Int) = (o : Int)) (ho2 : (X : Int).tmod (M : Int) = (o : Int)) (hoM : o < M) (hq : (o : Int) / 32 = (q : Int)) (hr2 : (o : Int) % 32 = (r : Int)) (hr3 : r < 64) (hqm : q < m) (hm1 : (m : Int) - 1 = (m1 : Int)) (EH : Hid (os (uf zs (ys.set m1 V)) M = os (uf zs ys) M)) (hos : (os (uf zs ys) M).length ≤ M) (hu : (M : Int) - (n : Int) = (u : Int)) (hu2 : (os (uf zs ys) M).length ≤ u) (EA : Hid (os (uf zs (ys.set q (clm (gt ys q) r))) M = ins (os (uf zs ys) M) (o : Int))) (ED : Hid (os (uf zs (ys.set q (drp (gt ys q) r))) M = del (os (uf zs ys) M) (o : Int))) (EB : Hid (hasB (os (uf zs ys) M) (o : Int) = (gt ys q).testBit r)) (hh : Hid (hasB zs (o : Int) = false)) :
    Calls Try.prog 5 #[.agg #[.int .u32 a, .int .i64 p, .slice A n c, .int .i64 sh, .int .i64 wo, .int .i64 qu, .int .i64 tr], .slice (some ⟨bb, oo, none⟩) m d, .int .u16 X, .int .u64 V] w (RetBo true w) := by
  have hlen := hU.len
  have hfit := Lib.hid hU.fit
  have hMp := hM.pos
  have K := below_alloc w (.cells #[.int .u32 a, .int .i64 p, .slice A n c, .int .i64 sh, .int .i64 wo, .int .i64 qu, .int .i64 tr] 27)
  have H := Bk.new w #[.int .u32 a, .int .i64 p, .slice A n c, .int .i64 sh, .int .i64 wo, .int .i64 qu, .int .i64 tr] 27
  replace h := h.below K
  replace hU := hU.below K
  go_enter Try.func5, Try.ntmps5
  go_upto_region 1 with (fail)
  generalize w.alloc (.cells #[.int .u32 a, .int .i64 p, .slice A n c, .int .i64 sh, .int .i64 wo, .int .i64 qu, .int .i64 tr] 27) = w1 at H K h hU ⊢
  generalize w.heap.size = g at H ⊢
  go_wp2_with fail
  refine (awake_any _).mono ?_
  rintro e w2 ⟨rfl, K'⟩
  replace H := H.below K'
  replace h := h.below K'
  replace hU := hU.below K'
  replace K := Below.then_ K K'
  clear K'
  have H_0 := H.at_ (v := .int .u32 a) 0 rfl
  have H_1 := H.at_ (v := .int .i64 p) 1 rfl
  have H_2 := H.at_ (v := .slice A n c) 2 rfl
  have H_3 := H.at_ (v := .int .i64 sh) 3 rfl
  have H_4 := H.at_ (v := .int .i64 wo) 4 rfl
  have H_5 := H.at_ (v := .int .i64 qu) 5 rfl
  have H_6 := H.at_ (v := .int .i64 tr) 6 rfl
  have H_z := H.lt
  go_wp2_with fail
  refine (fits3 ha h hb.out hM hM4 hmm.out).mono ?_
  rintro e w3 ⟨rfl, K'⟩
  clear H_0 H_1 H_2 H_3 H_4 H_5 H_6 H_z
  replace H := H.below K'
  replace h := h.below K'
  replace hU := hU.below K'
  replace K := Below.then_ K K'
  clear K'
  have H_0 := H.at_ (v := .int .u32 a) 0 rfl
  have H_1 := H.at_ (v := .int .i64 p) 1 rfl
  have H_2 := H.at_ (v := .slice A n c) 2 rfl
  have H_3 := H.at_ (v := .int .i64 sh) 3 rfl
  have H_4 := H.at_ (v := .int .i64 wo) 4 rfl
  have H_5 := H.at_ (v := .int .i64 qu) 5 rfl
  have H_6 := H.at_ (v := .int .i64 tr) 6 rfl
  have H_z := H.lt
  go_wp2_with fail
  refine (rmany_yes hM).mono ?_
  rintro e w4 ⟨rfl, K'⟩
  clear H_0 H_1 H_2 H_3 H_4 H_5 H_6 H_z
  replace H := H.below K'
  replace h := h.below K'
  replace hU := hU.below K'
  replace K := Below.then_ K K'
  clear K'
  have H_0 := H.at_ (v := .int .u32 a) 0 rfl
  have H_1 := H.at_ (v := .int .i64 p) 1 rfl
  have H_2 := H.at_ (v := .slice A n c) 2 rfl
  have H_3 := H.at_ (v := .int .i64 sh) 3 rfl
  have H_4 := H.at_ (v := .int .i64 wo) 4 rfl
  have H_5 := H.at_ (v := .int .i64 qu) 5 rfl
  have H_6 := H.at_ (v := .int .i64 tr) 6 rfl
  have H_z := H.lt
  go_wp2_with fail
  refine (mof_any (sh := sh) (wo := wo) (qu := qu) (tr := tr) ha hM h (by omega) hr.out hU hmv.out hm6).mono ?_
  rintro e w5 ⟨IA, In, Ic, rfl, I, K'⟩
  clear H_0 H_1 H_2 H_3 H_4 H_5 H_6 H_z
  replace H := H.below K'
  replace h := h.below K'
  replace hU := hU.below K'
  replace K := Below.then_ K K'
  clear K'
  have Ib : In ≤ 65000 := by have := I.len; have := hos; omega
  have T := mmay_any (sh := sh) (wo := wo) (qu := qu) (tr := tr) ha hM h (by omega) I (by omega)
  rw [os_may M zs ys] at T
  replace T := Lib.hid T
  have H_0 := H.at_ (v := .int .u32 a) 0 rfl
  have H_1 := H.at_ (v := .int .i64 p) 1 rfl
  have H_2 := H.at_ (v := .slice A n c) 2 rfl
  have H_3 := H.at_ (v := .int .i64 sh) 3 rfl
  have H_4 := H.at_ (v := .int .i64 wo) 4 rfl
  have H_5 := H.at_ (v := .int .i64 qu) 5 rfl
  have H_6 := H.at_ (v := .int .i64 tr) 6 rfl
  have H_z := H.lt
  go_wp2_with fail
  refine (T.out).mono ?_
  rintro e w6 ⟨rfl, K'⟩
  clear H_0 H_1 H_2 H_3 H_4 H_5 H_6 H_z
  replace H := H.below K'
  replace h := h.below K'
  replace hU := hU.below K'
  replace I := I.below K'
  replace K := Below.then_ K K'
  clear K'
  clear T
  have f1 : ¬ (u < In) := by have := I.len; omega
  have H_0 := H.at_ (v := .int .u32 a) 0 rfl
  have H_1 := H.at_ (v := .int .i64 p) 1 rfl
  have H_2 := H.at_ (v := .slice A n c) 2 rfl
  have H_3 := H.at_ (v := .int .i64 sh) 3 rfl
  have H_4 := H.at_ (v := .int .i64 wo) 4 rfl
  have H_5 := H.at_ (v := .int .i64 qu) 5 rfl
  have H_6 := H.at_ (v := .int .i64 tr) 6 rfl
  have H_z := H.lt
  have hc := hU.here hqm
  go_wp2_with fail
  refine (claim_any (gt ys q) r (gt_lt hfit.out q) hr3 _).mono ?_
  rintro e _ ⟨rfl, rfl⟩
  clear H_0 H_1 H_2 H_3 H_4 H_5 H_6 H_z
  clear hc
  have T := crset_any hU (q : Int) hm6 (v := clm (gt ys q) r) (clm_lt _ _)
  rw [stI_nat] at T
  replace T := Lib.hid T
  go_wp2_with fail
  refine (T.out).mono ?_
  rintro e w7 ⟨UAA, UAc, rfl, UA, K'⟩
  replace H := H.below K'
  replace h := h.below K'
  replace hU := hU.below K'
  replace I := I.below K'
  replace K := Below.then_ K K'
  clear K'
  clear T
  have hc := hU.here hqm
  go_wp2_with fail
  refine (drop_any (gt ys q) r (gt_lt hfit.out q) hr3 _).mono ?_
  rintro e _ ⟨rfl, rfl⟩
  clear hc
  have T := crset_any hU (q : Int) hm6 (v := drp (gt ys q) r) (drp_lt _ _)
  rw [stI_nat] at T
  replace T := Lib.hid T
  go_wp2_with fail
  refine (T.out).mono ?_
  rintro e w8 ⟨UDA, UDc, rfl, UD, K'⟩
  replace H := H.below K'
  replace h := h.below K'
  replace hU := hU.below K'
  replace I := I.below K'
  replace UA := UA.below K'
  replace K := Below.then_ K K'
  clear K'
  clear T
  have T := crset_any hU (m1 : Int) hm6 (v := V) hV
  rw [stI_nat] at T
  replace T := Lib.hid T
  go_wp2_with fail
  refine (T.out).mono ?_
  rintro e w9 ⟨UHA, UHc, rfl, UH, K'⟩
  replace H := H.below K'
  replace h := h.below K'
  replace hU := hU.below K'
  replace I := I.below K'
  replace UA := UA.below K'
  replace UD := UD.below K'
  replace K := Below.then_ K K'
  clear K'
  clear T
  have T := mof_any (sh := sh) (wo := wo) (qu := qu) (tr := tr) ha hM h (by omega) hr.out UH hmv.out hm6
  rw [EH.out] at T
  replace T := Lib.hid T
  have H_0 := H.at_ (v := .int .u32 a) 0 rfl
  have H_1 := H.at_ (v := .int .i64 p) 1 rfl
  have H_2 := H.at_ (v := .slice A n c) 2 rfl
  have H_3 := H.at_ (v := .int .i64 sh) 3 rfl
  have H_4 := H.at_ (v := .int .i64 wo) 4 rfl
  have H_5 := H.at_ (v := .int .i64 qu) 5 rfl
  have H_6 := H.at_ (v := .int .i64 tr) 6 rfl
  have H_z := H.lt
  go_wp2_with fail
  refine (T.out).mono ?_
  rintro e w10 ⟨JA, Jn, Jc, rfl, J, K'⟩
  clear H_0 H_1 H_2 H_3 H_4 H_5 H_6 H_z
  replace H := H.below K'
  replace h := h.below K'
  replace hU := hU.below K'
  replace I := I.below K'
  replace UA := UA.below K'
  replace UD := UD.below K'
  replace UH := UH.below K'
  replace K := Below.then_ K K'
  clear K'
  have Jb : Jn ≤ 65000 := by have := J.len; have := hos; omega
  clear T
  go_wp2_with fail
  refine (ints_same J I (by omega)).mono ?_
  rintro e w11 ⟨rfl, K'⟩
  replace H := H.below K'
  replace h := h.below K'
  replace hU := hU.below K'
  replace I := I.below K'
  replace UA := UA.below K'
  replace UD := UD.below K'
  replace UH := UH.below K'
  replace J := J.below K'
  replace K := Below.then_ K K'
  clear K'
  clear J UH
  clear Jb
  have H_0 := H.at_ (v := .int .u32 a) 0 rfl
  have H_1 := H.at_ (v := .int .i64 p) 1 rfl
  have H_2 := H.at_ (v := .slice A n c) 2 rfl
  have H_3 := H.at_ (v := .int .i64 sh) 3 rfl
  have H_4 := H.at_ (v := .int .i64 wo) 4 rfl
  have H_5 := H.at_ (v := .int .i64 qu) 5 rfl
  have H_6 := H.at_ (v := .int .i64 tr) 6 rfl
  have H_z := H.lt
  go_wp2_with fail
  refine (rheld_is9 (a := a) (p := p) (sh := sh) (wo := wo) (qu := qu) (tr := tr) h (by omega) hh.out).mono ?_
  rintro e w12 ⟨rfl, K'⟩
  clear H_0 H_1 H_2 H_3 H_4 H_5 H_6 H_z
  replace H := H.below K'
  replace h := h.below K'
  replace hU := hU.below K'
  replace I := I.below K'
  replace UA := UA.below K'
  replace UD := UD.below K'
  replace K := Below.then_ K K'
  clear K'
  go_upto_region 15 with (fail)
  have HS := Lib.hid (ris_os (uf zs ys) M)
  have f4 : IntKind.i64.wrap (q : Int) = (q : Int) := IntWalk.i64_in _ (by omega)
  have f5 : (o : Int).tmod 32 = (r : Int) := by rw [Int.tmod_eq_emod_of_nonneg (by omega)]; exact hr2
  have TH := fun w (I : IS .i64 0 w IA In Ic (os (uf zs ys) M)) => mhas_any I (by omega) HS.out (o : Int)
  have TB := fun w => rhas_any (gt ys q) r (gt_lt hfit.out q) hr3 w
  rw [EB.out] at TH
  generalize hbit : (gt ys q).testBit r = bt at TH TB
  clear hbit
  replace TH := Lib.hid TH
  replace TB := Lib.hid TB
  have f3 : (bt == bt) = true := by simp
  have hli := len_ins (xs := os (uf zs ys) M) (o : Int)
  have hld := len_del (os (uf zs ys) M) (o : Int)
  refine wp_region_held_drew (S := fun w' => Below w12.heap.size w12 w') (by kernel_rfl) (Below.refl _ _).drew (fun hHeld => ?_)
  refine wpAnyH_take (i := 0) (oi := ⟨some 99, _, _, _, _, _⟩) (v := ?_) rfl (by kernel_rfl) (by kernel_rfl) (by kernel_rfl) (fun _ _ _ h => h) (Or.inl ⟨by rfl, ?_⟩) hHeld ?_
  rotate_left
  · intro ww hSw
    try dsimp only at hSw
    have H_0 := (H.below hSw).at_ (v := .int .u32 a) 0 rfl
    have H_1 := (H.below hSw).at_ (v := .int .i64 p) 1 rfl
    have H_2 := (H.below hSw).at_ (v := .slice A n c) 2 rfl
    have H_3 := (H.below hSw).at_ (v := .int .i64 sh) 3 rfl
    have H_4 := (H.below hSw).at_ (v := .int .i64 wo) 4 rfl
    have H_5 := (H.below hSw).at_ (v := .int .i64 qu) 5 rfl
    have H_6 := (H.below hSw).at_ (v := .int .i64 tr) 6 rfl
    have hc := (hU.below hSw).here hqm
    go_simp
    try with_reducible rfl
    try omega
  try simp only [Act.put, List.setIfInBounds_toArray, List.set_cons_zero, List.set_cons_succ]
  refine wpAnyH_take (i := 1) (oi := ⟨some 100, _, _, _, _, _⟩) (v := ?_) rfl (by kernel_rfl) (by kernel_rfl) (by kernel_rfl) (fun _ _ _ h => h) (Or.inl ⟨by rfl, ?_⟩) hHeld ?_
  rotate_left
  · intro ww hSw
    try dsimp only at hSw
    go_simp
    try with_reducible rfl
    try omega
  try simp only [Act.put, List.setIfInBounds_toArray, List.set_cons_zero, List.set_cons_succ]
  refine wpAnyH_take (i := 3) (oi := ⟨some 102, _, _, _, _, _⟩) (v := ?_) rfl (by kernel_rfl) (by kernel_rfl) (by kernel_rfl) (fun _ _ _ h => h) (Or.inl ⟨by rfl, ?_⟩) hHeld ?_
  rotate_left
  · intro ww hSw
    try dsimp only at hSw
    go_simp
    try with_reducible rfl
    try omega
  try simp only [Act.put, List.setIfInBounds_toArray, List.set_cons_zero, List.set_cons_succ]
  refine wpAnyH_take (i := 4) (oi := ⟨some 103, _, _, _, _, _⟩) (v := ?_) rfl (by kernel_rfl) (by kernel_rfl) (by kernel_rfl) (fun _ _ _ h => h) (Or.inl ⟨by rfl, ?_⟩) hHeld ?_
  rotate_left
  · intro ww hSw
    try dsimp only at hSw
    go_simp
    try with_reducible rfl
    try omega
  try simp only [Act.put, List.setIfInBounds_toArray, List.set_cons_zero, List.set_cons_succ]
  refine wpAnyH_ready (rs := [2]) (by kernel_rfl) (by simp) ?_
  refine AllReadyH.cons (o := ⟨some 101, _, _, _, _, _⟩) rfl (fun K0 hK => ?_) AllReadyH.nil
  go_simp
  refine ((mof_any (sh := sh) (wo := wo) (qu := qu) (tr := tr) ha hM (h.below hHeld) (by omega) hr.out (UA.below hHeld) hmv.out hm6)).mono ?_
  rintro e ww ⟨JA, Jn, Jc, rfl, J, K'⟩
  rw [EA.out] at J
  have Jb : Jn ≤ 65000 := by have := J.len; omega
  refine hK.out _ _ (Below.then_ hHeld K') (fun hHeld' => ?_)
  clear hHeld K' hK K0
  have hHeld := hHeld'
  clear hHeld'
  try simp only [Act.put, List.setIfInBounds_toArray, List.set_cons_zero, List.set_cons_succ]
  refine wpAnyH_ready (rs := [5]) (by kernel_rfl) (by simp) ?_
  refine AllReadyH.cons (o := ⟨some 104, _, _, _, _, _⟩) rfl (fun K0 hK => ?_) AllReadyH.nil
  go_simp
  refine (mwith_any (I.below hHeld) (by omega) HS.out (o : Int)).mono ?_
  rintro e ww ⟨LA, Ln, Lc, rfl, L, K'⟩
  replace J := J.below K'
  refine hK.out _ _ (Below.then_ hHeld K') (fun hHeld' => ?_)
  clear hHeld K' hK K0
  have hHeld := hHeld'
  clear hHeld'
  try simp only [Act.put, List.setIfInBounds_toArray, List.set_cons_zero, List.set_cons_succ]
  refine wpAnyH_ready (rs := [6]) (by kernel_rfl) (by simp) ?_
  refine AllReadyH.cons (o := ⟨some 105, _, _, _, _, _⟩) rfl (fun K0 hK => ?_) AllReadyH.nil
  go_simp
  refine (ints_same J L (by omega)).mono ?_
  rintro e ww ⟨rfl, K'⟩
  clear J L Jb
  refine hK.out _ _ (Below.then_ hHeld K') (fun hHeld' => ?_)
  clear hHeld K' hK K0
  have hHeld := hHeld'
  clear hHeld'
  try simp only [Act.put, List.setIfInBounds_toArray, List.set_cons_zero, List.set_cons_succ]
  refine wpAnyH_take (i := 7) (oi := ⟨some 106, _, _, _, _, _⟩) (v := .bool true) rfl (by kernel_rfl) (by kernel_rfl) (by kernel_rfl) (fun _ _ _ h => h) (Or.inl ⟨by rfl, ?_⟩) hHeld ?_
  · intro ww hSw
    try dsimp only at hSw
    go_simp
    try with_reducible rfl
    try omega
  try simp only [Act.put, List.setIfInBounds_toArray, List.set_cons_zero, List.set_cons_succ]
  refine wpAnyH_take (i := 8) (oi := ⟨some 107, _, _, _, _, _⟩) (v := ?_) rfl (by kernel_rfl) (by kernel_rfl) (by kernel_rfl) (fun _ _ _ h => h) (Or.inl ⟨by rfl, ?_⟩) hHeld ?_
  rotate_left
  · intro ww hSw
    try dsimp only at hSw
    have H_0 := (H.below hSw).at_ (v := .int .u32 a) 0 rfl
    have H_1 := (H.below hSw).at_ (v := .int .i64 p) 1 rfl
    have H_2 := (H.below hSw).at_ (v := .slice A n c) 2 rfl
    have H_3 := (H.below hSw).at_ (v := .int .i64 sh) 3 rfl
    have H_4 := (H.below hSw).at_ (v := .int .i64 wo) 4 rfl
    have H_5 := (H.below hSw).at_ (v := .int .i64 qu) 5 rfl
    have H_6 := (H.below hSw).at_ (v := .int .i64 tr) 6 rfl
    have hc := (hU.below hSw).here hqm
    go_simp
    try with_reducible rfl
    try omega
  try simp only [Act.put, List.setIfInBounds_toArray, List.set_cons_zero, List.set_cons_succ]
  refine wpAnyH_take (i := 9) (oi := ⟨some 108, _, _, _, _, _⟩) (v := ?_) rfl (by kernel_rfl) (by kernel_rfl) (by kernel_rfl) (fun _ _ _ h => h) (Or.inl ⟨by rfl, ?_⟩) hHeld ?_
  rotate_left
  · intro ww hSw
    try dsimp only at hSw
    go_simp
    try with_reducible rfl
    try omega
  try simp only [Act.put, List.setIfInBounds_toArray, List.set_cons_zero, List.set_cons_succ]
  refine wpAnyH_take (i := 11) (oi := ⟨some 110, _, _, _, _, _⟩) (v := ?_) rfl (by kernel_rfl) (by kernel_rfl) (by kernel_rfl) (fun _ _ _ h => h) (Or.inl ⟨by rfl, ?_⟩) hHeld ?_
  rotate_left
  · intro ww hSw
    try dsimp only at hSw
    go_simp
    try with_reducible rfl
    try omega
  try simp only [Act.put, List.setIfInBounds_toArray, List.set_cons_zero, List.set_cons_succ]
  refine wpAnyH_take (i := 12) (oi := ⟨some 111, _, _, _, _, _⟩) (v := ?_) rfl (by kernel_rfl) (by kernel_rfl) (by kernel_rfl) (fun _ _ _ h => h) (Or.inl ⟨by rfl, ?_⟩) hHeld ?_
  rotate_left
  · intro ww hSw
    try dsimp only at hSw
    go_simp
    try with_reducible rfl
    try omega
  try simp only [Act.put, List.setIfInBounds_toArray, List.set_cons_zero, List.set_cons_succ]
  refine wpAnyH_ready (rs := [10]) (by kernel_rfl) (by simp) ?_
  refine AllReadyH.cons (o := ⟨some 109, _, _, _, _, _⟩) rfl (fun K0 hK => ?_) AllReadyH.nil
  go_simp
  refine ((mof_any (sh := sh) (wo := wo) (qu := qu) (tr := tr) ha hM (h.below hHeld) (by omega) hr.out (UD.below hHeld) hmv.out hm6)).mono ?_
  rintro e ww ⟨JA, Jn, Jc, rfl, J, K'⟩
  rw [ED.out] at J
  have Jb : Jn ≤ 65000 := by have := J.len; omega
  refine hK.out _ _ (Below.then_ hHeld K') (fun hHeld' => ?_)
  clear hHeld K' hK K0
  have hHeld := hHeld'
  clear hHeld'
  try simp only [Act.put, List.setIfInBounds_toArray, List.set_cons_zero, List.set_cons_succ]
  refine wpAnyH_ready (rs := [13]) (by kernel_rfl) (by simp) ?_
  refine AllReadyH.cons (o := ⟨some 112, _, _, _, _, _⟩) rfl (fun K0 hK => ?_) AllReadyH.nil
  go_simp
  refine (mwithout_any (I.below hHeld) (by omega) HS.out (o : Int)).mono ?_
  rintro e ww ⟨LA, Ln, Lc, rfl, L, K'⟩
  replace J := J.below K'
  refine hK.out _ _ (Below.then_ hHeld K') (fun hHeld' => ?_)
  clear hHeld K' hK K0
  have hHeld := hHeld'
  clear hHeld'
  try simp only [Act.put, List.setIfInBounds_toArray, List.set_cons_zero, List.set_cons_succ]
  refine wpAnyH_ready (rs := [14]) (by kernel_rfl) (by simp) ?_
  refine AllReadyH.cons (o := ⟨some 113, _, _, _, _, _⟩) rfl (fun K0 hK => ?_) AllReadyH.nil
  go_simp
  refine (ints_same J L (by omega)).mono ?_
  rintro e ww ⟨rfl, K'⟩
  clear J L Jb
  refine hK.out _ _ (Below.then_ hHeld K') (fun hHeld' => ?_)
  clear hHeld K' hK K0
  have hHeld := hHeld'
  clear hHeld'
  try simp only [Act.put, List.setIfInBounds_toArray, List.set_cons_zero, List.set_cons_succ]
  refine wpAnyH_take (i := 15) (oi := ⟨some 114, _, _, _, _, _⟩) (v := ?_) rfl (by kernel_rfl) (by kernel_rfl) (by kernel_rfl) (fun _ _ _ h => h) (Or.inl ⟨by rfl, ?_⟩) hHeld ?_
  rotate_left
  · intro ww hSw
    try dsimp only at hSw
    go_simp
    try with_reducible rfl
    try omega
  try simp only [Act.put, List.setIfInBounds_toArray, List.set_cons_zero, List.set_cons_succ]
  refine wpAnyH_take (i := 16) (oi := ⟨some 115, _, _, _, _, _⟩) (v := .bool true) rfl (by kernel_rfl) (by kernel_rfl) (by kernel_rfl) (fun _ _ _ h => h) (Or.inl ⟨by rfl, ?_⟩) hHeld ?_
  · intro ww hSw
    try dsimp only at hSw
    go_simp
    try with_reducible rfl
    try omega
  try simp only [Act.put, List.setIfInBounds_toArray, List.set_cons_zero, List.set_cons_succ]
  refine wpAnyH_take (i := 17) (oi := ⟨some 116, _, _, _, _, _⟩) (v := ?_) rfl (by kernel_rfl) (by kernel_rfl) (by kernel_rfl) (fun _ _ _ h => h) (Or.inl ⟨by rfl, ?_⟩) hHeld ?_
  rotate_left
  · intro ww hSw
    try dsimp only at hSw
    go_simp
    try with_reducible rfl
    try omega
  try simp only [Act.put, List.setIfInBounds_toArray, List.set_cons_zero, List.set_cons_succ]
  refine wpAnyH_take (i := 18) (oi := ⟨some 117, _, _, _, _, _⟩) (v := ?_) rfl (by kernel_rfl) (by kernel_rfl) (by kernel_rfl) (fun _ _ _ h => h) (Or.inl ⟨by rfl, ?_⟩) hHeld ?_
  rotate_left
  · intro ww hSw
    try dsimp only at hSw
    go_simp
    try with_reducible rfl
    try omega
  try simp only [Act.put, List.setIfInBounds_toArray, List.set_cons_zero, List.set_cons_succ]
  refine wpAnyH_take (i := 20) (oi := ⟨some 119, _, _, _, _, _⟩) (v := ?_) rfl (by kernel_rfl) (by kernel_rfl) (by kernel_rfl) (fun _ _ _ h => h) (Or.inl ⟨by rfl, ?_⟩) hHeld ?_
  rotate_left
  · intro ww hSw
    try dsimp only at hSw
    go_simp
    try with_reducible rfl
    try omega
  try simp only [Act.put, List.setIfInBounds_toArray, List.set_cons_zero, List.set_cons_succ]
  refine wpAnyH_take (i := 21) (oi := ⟨some 120, _, _, _, _, _⟩) (v := ?_) rfl (by kernel_rfl) (by kernel_rfl) (by kernel_rfl) (fun _ _ _ h => h) (Or.inl ⟨by rfl, ?_⟩) hHeld ?_
  rotate_left
  · intro ww hSw
    try dsimp only at hSw
    go_simp
    try with_reducible rfl
    try omega
  try simp only [Act.put, List.setIfInBounds_toArray, List.set_cons_zero, List.set_cons_succ]
  refine wpAnyH_take (i := 22) (oi := ⟨some 121, _, _, _, _, _⟩) (v := .int .i64 (q : Int)) rfl (by kernel_rfl) (by kernel_rfl) (by kernel_rfl) (fun _ _ _ h => h) (Or.inl ⟨by rfl, ?_⟩) hHeld ?_
  · intro ww hSw
    try dsimp only at hSw
    go_simp
    try with_reducible rfl
    try omega
  try simp only [Act.put, List.setIfInBounds_toArray, List.set_cons_zero, List.set_cons_succ]
  refine wpAnyH_take (i := 23) (oi := ⟨some 122, _, _, _, _, _⟩) (v := ?_) rfl (by kernel_rfl) (by kernel_rfl) (by kernel_rfl) (fun _ _ _ h => h) (Or.inl ⟨by rfl, ?_⟩) hHeld ?_
  rotate_left
  · intro ww hSw
    try dsimp only at hSw
    go_simp
    try with_reducible rfl
    try omega
  try simp only [Act.put, List.setIfInBounds_toArray, List.set_cons_zero, List.set_cons_succ]
  refine wpAnyH_take (i := 24) (oi := ⟨some 123, _, _, _, _, _⟩) (v := ?_) rfl (by kernel_rfl) (by kernel_rfl) (by kernel_rfl) (fun _ _ _ h => h) (Or.inl ⟨by rfl, ?_⟩) hHeld ?_
  rotate_left
  · intro ww hSw
    try dsimp only at hSw
    have H_0 := (H.below hSw).at_ (v := .int .u32 a) 0 rfl
    have H_1 := (H.below hSw).at_ (v := .int .i64 p) 1 rfl
    have H_2 := (H.below hSw).at_ (v := .slice A n c) 2 rfl
    have H_3 := (H.below hSw).at_ (v := .int .i64 sh) 3 rfl
    have H_4 := (H.below hSw).at_ (v := .int .i64 wo) 4 rfl
    have H_5 := (H.below hSw).at_ (v := .int .i64 qu) 5 rfl
    have H_6 := (H.below hSw).at_ (v := .int .i64 tr) 6 rfl
    have hc := (hU.below hSw).here hqm
    go_simp
    try with_reducible rfl
    try omega
  try simp only [Act.put, List.setIfInBounds_toArray, List.set_cons_zero, List.set_cons_succ]
  refine wpAnyH_take (i := 25) (oi := ⟨some 124, _, _, _, _, _⟩) (v := ?_) rfl (by kernel_rfl) (by kernel_rfl) (by kernel_rfl) (fun _ _ _ h => h) (Or.inl ⟨by rfl, ?_⟩) hHeld ?_
  rotate_left
  · intro ww hSw
    try dsimp only at hSw
    go_simp
    try with_reducible rfl
    try omega
  try simp only [Act.put, List.setIfInBounds_toArray, List.set_cons_zero, List.set_cons_succ]
  refine wpAnyH_take (i := 26) (oi := ⟨some 125, _, _, _, _, _⟩) (v := .int .i64 (r : Int)) rfl (by kernel_rfl) (by kernel_rfl) (by kernel_rfl) (fun _ _ _ h => h) (Or.inl ⟨by rfl, ?_⟩) hHeld ?_
  · intro ww hSw
    try dsimp only at hSw
    go_simp
    try with_reducible rfl
    try omega
  try simp only [Act.put, List.setIfInBounds_toArray, List.set_cons_zero, List.set_cons_succ]
  refine wpAnyH_ready (rs := [19]) (by kernel_rfl) (by simp) ?_
  refine AllReadyH.cons (o := ⟨some 118, _, _, _, _, _⟩) rfl (fun K0 hK => ?_) AllReadyH.nil
  go_simp
  refine (TH.out _ (I.below hHeld)).mono ?_
  rintro e _ ⟨rfl, rfl⟩
  refine hK.out _ _ hHeld (fun hHeld' => ?_)
  clear hHeld hK K0
  have hHeld := hHeld'
  clear hHeld'
  try simp only [Act.put, List.setIfInBounds_toArray, List.set_cons_zero, List.set_cons_succ]
  refine wpAnyH_ready (rs := [27]) (by kernel_rfl) (by simp) ?_
  refine AllReadyH.cons (o := ⟨some 126, _, _, _, _, _⟩) rfl (fun K0 hK => ?_) AllReadyH.nil
  go_simp
  refine (TB.out _).mono ?_
  rintro e _ ⟨rfl, rfl⟩
  refine hK.out _ _ hHeld (fun hHeld' => ?_)
  clear hHeld hK K0
  have hHeld := hHeld'
  clear hHeld'
  try simp only [Act.put, List.setIfInBounds_toArray, List.set_cons_zero, List.set_cons_succ]
  refine wpAnyH_take (i := 28) (oi := ⟨some 127, _, _, _, _, _⟩) (v := .bool true) rfl (by kernel_rfl) (by kernel_rfl) (by kernel_rfl) (fun _ _ _ h => h) (Or.inl ⟨by rfl, ?_⟩) hHeld ?_
  · intro ww hSw
    try dsimp only at hSw
    go_simp
    try with_reducible rfl
    try omega
  try simp only [Act.put, List.setIfInBounds_toArray, List.set_cons_zero, List.set_cons_succ]
  refine wpAnyH_take (i := 29) (oi := ⟨some 128, _, _, _, _, _⟩) (v := ?_) rfl (by kernel_rfl) (by kernel_rfl) (by kernel_rfl) (fun _ _ _ h => h) (Or.inl ⟨by rfl, ?_⟩) hHeld ?_
  rotate_left
  · intro ww hSw
    try dsimp only at hSw
    go_simp
    try with_reducible rfl
    try omega
  try simp only [Act.put, List.setIfInBounds_toArray, List.set_cons_zero, List.set_cons_succ]
  refine wpAnyH_take (i := 30) (oi := ⟨some 8, _, _, _, _, _⟩) (v := ?_) rfl (by kernel_rfl) (by kernel_rfl) (by kernel_rfl) (fun _ _ _ h => h) (Or.inl ⟨by rfl, ?_⟩) hHeld ?_
  rotate_left
  · intro ww hSw
    try dsimp only at hSw
    go_simp
    try with_reducible rfl
    try omega
  try simp only [Act.put, List.setIfInBounds_toArray, List.set_cons_zero, List.set_cons_succ]
  refine wpAnyH_done (by kernel_rfl) ?_ _
  replace H := H.below hHeld
  replace h := h.below hHeld
  replace hU := hU.below hHeld
  replace I := I.below hHeld
  replace UA := UA.below hHeld
  replace UD := UD.below hHeld
  replace K := Below.then_ K hHeld
  clear hHeld
  go_wp2
  go_ret
  exact ⟨rfl, K⟩
set_option maxRecDepth 100000 in
set_option maxHeartbeats 2000000 in
theorem bad (ha : a < 4294967296) (h : IS .i64 lo w A n c zs) (hU : US w B m d ys) (hX : X < 65536) (hV : V < U64) (hb : confB a p n zs sh wo qu tr = false) :
    Calls Try.prog 5 #[.agg #[.int .u32 a, .int .i64 p, .slice A n c, .int .i64 sh, .int .i64 wo, .int .i64 qu, .int .i64 tr], .slice B m d, .int .u16 X, .int .u64 V] w (RetBo true w) := by
  replace hb := Lib.hid hb
  have K := below_alloc w (.cells #[.int .u32 a, .int .i64 p, .slice A n c, .int .i64 sh, .int .i64 wo, .int .i64 qu, .int .i64 tr] 27)
  have H := Bk.new w #[.int .u32 a, .int .i64 p, .slice A n c, .int .i64 sh, .int .i64 wo, .int .i64 qu, .int .i64 tr] 27
  replace h := h.below K
  replace hU := hU.below K
  go_enter Try.func5, Try.ntmps5
  go_upto_region 1 with (fail)
  generalize w.alloc (.cells #[.int .u32 a, .int .i64 p, .slice A n c, .int .i64 sh, .int .i64 wo, .int .i64 qu, .int .i64 tr] 27) = w1 at H K h hU ⊢
  generalize w.heap.size = g at H ⊢
  go_wp2_with fail
  refine (awake_any _).mono ?_
  rintro e w2 ⟨rfl, K'⟩
  replace H := H.below K'
  replace h := h.below K'
  replace hU := hU.below K'
  replace K := Below.then_ K K'
  clear K'
  have H_0 := H.at_ (v := .int .u32 a) 0 rfl
  have H_1 := H.at_ (v := .int .i64 p) 1 rfl
  have H_2 := H.at_ (v := .slice A n c) 2 rfl
  have H_3 := H.at_ (v := .int .i64 sh) 3 rfl
  have H_4 := H.at_ (v := .int .i64 wo) 4 rfl
  have H_5 := H.at_ (v := .int .i64 qu) 5 rfl
  have H_6 := H.at_ (v := .int .i64 tr) 6 rfl
  have H_z := H.lt
  go_wp2_with fail
  refine (fits0 ha h hb.out).mono ?_
  rintro e w3 ⟨rfl, K'⟩
  clear H_0 H_1 H_2 H_3 H_4 H_5 H_6 H_z
  replace H := H.below K'
  replace h := h.below K'
  replace hU := hU.below K'
  replace K := Below.then_ K K'
  clear K'
  go_wp2_with fail
  refine (awake_any _).mono ?_
  rintro e w4 ⟨rfl, K'⟩
  replace H := H.below K'
  replace h := h.below K'
  replace hU := hU.below K'
  replace K := Below.then_ K K'
  clear K'
  go_wp2
  go_ret
  exact ⟨rfl, K⟩
theorem fitsno {w : World} {lo : Nat} (ha : a < 4294967296) (h : IS .i64 lo w A n c zs) (hb : confB a p n zs sh wo qu tr = true) (hM : Much a p M) (hf : ¬ (M ≤ 4096 ∧ m = lv M + tv M + 1)) :
    Calls Try.prog 21 #[.agg #[.int .u32 a, .int .i64 p, .slice A n c, .int .i64 sh, .int .i64 wo, .int .i64 qu, .int .i64 tr], .slice B m d] w (RetBo false w) := by
  by_cases h1 : M ≤ 4096
  · exact fits2 ha h hb hM h1 (fun e => hf ⟨h1, e⟩)
  · exact fits1 ha h hb hM h1
set_option maxRecDepth 100000 in
set_option maxHeartbeats 2000000 in
theorem big (ha : a < 4294967296) (h : IS .i64 lo w A n c zs) (hU : US w B m d ys) (hX : X < 65536) (hV : V < U64) (hb : confB a p n zs sh wo qu tr = true) (hM : Much a p M) (hf : ¬ (M ≤ 4096 ∧ m = lv M + tv M + 1)) :
    Calls Try.prog 5 #[.agg #[.int .u32 a, .int .i64 p, .slice A n c, .int .i64 sh, .int .i64 wo, .int .i64 qu, .int .i64 tr], .slice B m d, .int .u16 X, .int .u64 V] w (RetBo true w) := by
  replace hb := Lib.hid hb
  replace hf := Lib.hid hf
  have K := below_alloc w (.cells #[.int .u32 a, .int .i64 p, .slice A n c, .int .i64 sh, .int .i64 wo, .int .i64 qu, .int .i64 tr] 27)
  have H := Bk.new w #[.int .u32 a, .int .i64 p, .slice A n c, .int .i64 sh, .int .i64 wo, .int .i64 qu, .int .i64 tr] 27
  replace h := h.below K
  replace hU := hU.below K
  go_enter Try.func5, Try.ntmps5
  go_upto_region 1 with (fail)
  generalize w.alloc (.cells #[.int .u32 a, .int .i64 p, .slice A n c, .int .i64 sh, .int .i64 wo, .int .i64 qu, .int .i64 tr] 27) = w1 at H K h hU ⊢
  generalize w.heap.size = g at H ⊢
  go_wp2_with fail
  refine (awake_any _).mono ?_
  rintro e w2 ⟨rfl, K'⟩
  replace H := H.below K'
  replace h := h.below K'
  replace hU := hU.below K'
  replace K := Below.then_ K K'
  clear K'
  have H_0 := H.at_ (v := .int .u32 a) 0 rfl
  have H_1 := H.at_ (v := .int .i64 p) 1 rfl
  have H_2 := H.at_ (v := .slice A n c) 2 rfl
  have H_3 := H.at_ (v := .int .i64 sh) 3 rfl
  have H_4 := H.at_ (v := .int .i64 wo) 4 rfl
  have H_5 := H.at_ (v := .int .i64 qu) 5 rfl
  have H_6 := H.at_ (v := .int .i64 tr) 6 rfl
  have H_z := H.lt
  go_wp2_with fail
  refine (fitsno ha h hb.out hM hf.out).mono ?_
  rintro e w3 ⟨rfl, K'⟩
  clear H_0 H_1 H_2 H_3 H_4 H_5 H_6 H_z
  replace H := H.below K'
  replace h := h.below K'
  replace hU := hU.below K'
  replace K := Below.then_ K K'
  clear K'
  go_wp2_with fail
  refine (awake_any _).mono ?_
  rintro e w4 ⟨rfl, K'⟩
  replace H := H.below K'
  replace h := h.below K'
  replace hU := hU.below K'
  replace K := Below.then_ K K'
  clear K'
  go_wp2
  go_ret
  exact ⟨rfl, K⟩
theorem main (ha : a < 4294967296) (h : IS .i64 lo w A n c zs) (hU : US w B m d ys) (hX : X < 65536) (hV : V < U64) :
    Calls Try.prog 5 #[.agg #[.int .u32 a, .int .i64 p, .slice A n c, .int .i64 sh, .int .i64 wo, .int .i64 qu, .int .i64 tr], .slice B m d, .int .u16 X, .int .u64 V] w (RetBo true w) := by
  cases hb : confB a p n zs sh wo qu tr with
  | false => exact bad ha h hU hX hV hb
  | true =>
    obtain ⟨M, hC⟩ := Cf.of hb
    by_cases hf : M ≤ 4096 ∧ m = lv M + tv M + 1
    · obtain ⟨hM4, hmm⟩ := hf
      have hM := hC.much
      have hMp := hM.pos
      have hmv : lv M ≤ m := by omega
      have hm6 : m ≤ 65536 := by have := lv_le hM.most; have := tv_le hM.most; omega
      have ho : (X : Int) % (M : Int) = ((X % M : Nat) : Int) := (Int.natCast_emod X M).symm
      have ho2 : (X : Int).tmod (M : Int) = ((X % M : Nat) : Int) := by rw [Int.tmod_eq_emod_of_nonneg (by omega)]; exact ho
      have hoM : X % M < M := Nat.mod_lt _ hMp
      have hlen := hU.len
      generalize X % M = o at ho ho2 hoM
      have hqm : o / 32 < m := by have := hmv; unfold lv at this; omega
      have hml : m - 1 < ys.length := by omega
      have hm3 : M ≤ 32 * (m - 1) := by have := hmm; unfold lv at this; omega
      have EH := os_other (zs := zs) (ys := ys) (W := V) hml hm3
      have hl2 := (may_len hC.ris (os_may M zs ys)).1
      rw [h.len] at hl2
      obtain ⟨bb, oo, rfl, _⟩ := hU.get hqm
      cases hh : hasB zs (o : Int) with
      | true => exact held ha h hU hX hV hb hM hC.few hC.ris hM4 hmm hmv hm6 ho ho2 hoM (by omega) (by omega) (by omega) hqm (m1 := m - 1) (by omega) EH (len_os _ _) (u := M - n) (by omega) (by omega) (os_claim_held (by omega) hh) (os_drop_held (by omega) hU.fit hh) hh
      | false => exact free ha h hU hX hV hb hM hC.few hC.ris hM4 hmm hmv hm6 ho ho2 hoM (by omega) (by omega) (by omega) hqm (m1 := m - 1) (by omega) EH (len_os _ _) (u := M - n) (by omega) (by omega) (os_claim (by omega) hoM hh) (os_drop (by omega) hU.fit) (has_os hoM hh) hh
    · exact big ha h hU hX hV hb hC.much hf
end
theorem walk (a p : Int) (A : Option Addr) (n c : Nat) (z : List Int) (sh wo qu tr : Int) (B : Option Addr) (m d : Nat) (zb : List Int) (x v : Int) (w : World) (wa : (Lit.int .u32 a).wf = true) (wr : IsRow .i64 w A n c z) (wb : IsRow .u64 w B m d zb) (wx : (Lit.int .u16 x).wf = true) (wv : (Lit.int .u64 v).wf = true) :
    Calls Try.prog 5 #[.agg #[.int .u32 a, .int .i64 p, .slice A n c, .int .i64 sh, .int .i64 wo, .int .i64 qu, .int .i64 tr], .slice B m d, .int .u16 x, .int .u64 v] w fun e w' => e = .returned (.bool true) ∧ Below w.heap.size w w' := by
  obtain ⟨a, rfl, ha⟩ := wf_u32 wa
  obtain ⟨zs, h, _⟩ := IS.of_row wr
  obtain ⟨ys, hU⟩ := US.of_row wb
  obtain ⟨X, rfl, hX⟩ : ∃ X : Nat, x = X ∧ X < 65536 := by
    have h' : 0 ≤ x ∧ x ≤ 65535 := by simpa [Lit.wf, IntKind.min, IntKind.max, IntKind.bits, IntKind.signed] using wx
    exact ⟨x.toNat, by omega, by omega⟩
  obtain ⟨V, rfl, hV⟩ := wf_U64 wv
  exact main ha h hU hX hV
end Go.Proofs.Ythnmneinimlpcaa.modelCells
