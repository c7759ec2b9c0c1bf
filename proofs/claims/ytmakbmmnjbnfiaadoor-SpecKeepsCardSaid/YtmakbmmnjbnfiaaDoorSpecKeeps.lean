/-
  The walk of the law SpecKeeps: for every configuration, list, request and answer it answers true.
-/
import Derived.Test.YtmakbmmnjbnfiaaDoorSpecFacts
namespace Go.Proofs.YtmakbmmnjbnfiaaDoor.specKeeps
open Go.RowKit
set_option linter.unusedVariables false
section
variable {w : World} {lo lo2 lo3 lo4 lo5 a m d q f X p1 p2 q1 q2 : Nat} {p sh wo qu tr k : Int} {A B C P Q : Option Addr} {n c : Nat} {zs xs ys : List Int} {x : An}
set_option maxRecDepth 100000 in
set_option maxHeartbeats 4000000 in
theorem main (hL0 : Laid w) (ha : a < 4294967296) (h0 : IS .i64 lo w A n c zs) (hs0 : IS .i64 lo2 w B m d xs) (hy0 : IS .u32 lo3 w C q f ys) (hX : X < 4294967296) (hw : W32 ys) (hA0 : IS .u32 lo4 w P p1 p2 x.2.2.2.1) (hE0 : IS .i64 lo5 w Q q1 q2 x.2.2.2.2) (hA1_ : 0 ≤ x.2.1 ∧ x.2.1 < 4294967296) :
    Calls Tryd.prog 6 #[.agg #[.int .u32 (a : Int), .int .i64 p, .slice A n c, .int .i64 sh, .int .i64 wo, .int .i64 qu, .int .i64 tr], .slice B m d, .agg #[.int .i64 k, .int .u32 (X : Int), .slice C q f], .agg #[.int .i64 x.1, .int .u32 x.2.1, .bool x.2.2.1, .slice P p1 p2, .slice Q q1 q2]] w (RetBo true w) := by
  replace hw := Lib.hid hw
  have hA1 := Lib.hid hA1_
  clear hA1_
  have hL := hL0
  have h := h0
  have hs := hs0
  have hy := hy0
  have hA := hA0
  have hE := hE0
  have K := Below.refl w.heap.size w
  go_enter Tryd.func6, Tryd.ntmps6
  go_upto_region 1 with (fail)
  have KS := K.size
  replace hL := hL.below (below_alloc _ (.cells #[.int .u32 (a : Int), .int .i64 p, .slice A n c, .int .i64 sh, .int .i64 wo, .int .i64 qu, .int .i64 tr] 27))
  replace h := h.below (below_alloc _ (.cells #[.int .u32 (a : Int), .int .i64 p, .slice A n c, .int .i64 sh, .int .i64 wo, .int .i64 qu, .int .i64 tr] 27))
  replace hs := hs.below (below_alloc _ (.cells #[.int .u32 (a : Int), .int .i64 p, .slice A n c, .int .i64 sh, .int .i64 wo, .int .i64 qu, .int .i64 tr] 27))
  replace hy := hy.below (below_alloc _ (.cells #[.int .u32 (a : Int), .int .i64 p, .slice A n c, .int .i64 sh, .int .i64 wo, .int .i64 qu, .int .i64 tr] 27))
  replace hA := hA.below (below_alloc _ (.cells #[.int .u32 (a : Int), .int .i64 p, .slice A n c, .int .i64 sh, .int .i64 wo, .int .i64 qu, .int .i64 tr] 27))
  replace hE := hE.below (below_alloc _ (.cells #[.int .u32 (a : Int), .int .i64 p, .slice A n c, .int .i64 sh, .int .i64 wo, .int .i64 qu, .int .i64 tr] 27))
  replace K := Below.then_ K (below_alloc _ (.cells #[.int .u32 (a : Int), .int .i64 p, .slice A n c, .int .i64 sh, .int .i64 wo, .int .i64 qu, .int .i64 tr] 27))
  have H := Bk.new (w) #[.int .u32 (a : Int), .int .i64 p, .slice A n c, .int .i64 sh, .int .i64 wo, .int .i64 qu, .int .i64 tr] 27
  replace H := H.alloc (.cells #[.int .i64 k, .int .u32 (X : Int), .slice C q f] 30)
  replace hL := hL.below (below_alloc _ (.cells #[.int .i64 k, .int .u32 (X : Int), .slice C q f] 30))
  replace h := h.below (below_alloc _ (.cells #[.int .i64 k, .int .u32 (X : Int), .slice C q f] 30))
  replace hs := hs.below (below_alloc _ (.cells #[.int .i64 k, .int .u32 (X : Int), .slice C q f] 30))
  replace hy := hy.below (below_alloc _ (.cells #[.int .i64 k, .int .u32 (X : Int), .slice C q f] 30))
  replace hA := hA.below (below_alloc _ (.cells #[.int .i64 k, .int .u32 (X : Int), .slice C q f] 30))
  replace hE := hE.below (below_alloc _ (.cells #[.int .i64 k, .int .u32 (X : Int), .slice C q f] 30))
  replace K := Below.then_ K (below_alloc _ (.cells #[.int .i64 k, .int .u32 (X : Int), .slice C q f] 30))
  have G := Bk.new ((w).alloc (.cells #[.int .u32 (a : Int), .int .i64 p, .slice A n c, .int .i64 sh, .int .i64 wo, .int .i64 qu, .int .i64 tr] 27)) #[.int .i64 k, .int .u32 (X : Int), .slice C q f] 30
  replace H := H.alloc (.cells #[.int .i64 x.1, .int .u32 x.2.1, .bool x.2.2.1, .slice P p1 p2, .slice Q q1 q2] 34)
  replace G := G.alloc (.cells #[.int .i64 x.1, .int .u32 x.2.1, .bool x.2.2.1, .slice P p1 p2, .slice Q q1 q2] 34)
  replace hL := hL.below (below_alloc _ (.cells #[.int .i64 x.1, .int .u32 x.2.1, .bool x.2.2.1, .slice P p1 p2, .slice Q q1 q2] 34))
  replace h := h.below (below_alloc _ (.cells #[.int .i64 x.1, .int .u32 x.2.1, .bool x.2.2.1, .slice P p1 p2, .slice Q q1 q2] 34))
  replace hs := hs.below (below_alloc _ (.cells #[.int .i64 x.1, .int .u32 x.2.1, .bool x.2.2.1, .slice P p1 p2, .slice Q q1 q2] 34))
  replace hy := hy.below (below_alloc _ (.cells #[.int .i64 x.1, .int .u32 x.2.1, .bool x.2.2.1, .slice P p1 p2, .slice Q q1 q2] 34))
  replace hA := hA.below (below_alloc _ (.cells #[.int .i64 x.1, .int .u32 x.2.1, .bool x.2.2.1, .slice P p1 p2, .slice Q q1 q2] 34))
  replace hE := hE.below (below_alloc _ (.cells #[.int .i64 x.1, .int .u32 x.2.1, .bool x.2.2.1, .slice P p1 p2, .slice Q q1 q2] 34))
  replace K := Below.then_ K (below_alloc _ (.cells #[.int .i64 x.1, .int .u32 x.2.1, .bool x.2.2.1, .slice P p1 p2, .slice Q q1 q2] 34))
  have J := Bk.new (((w).alloc (.cells #[.int .u32 (a : Int), .int .i64 p, .slice A n c, .int .i64 sh, .int .i64 wo, .int .i64 qu, .int .i64 tr] 27)).alloc (.cells #[.int .i64 k, .int .u32 (X : Int), .slice C q f] 30)) #[.int .i64 x.1, .int .u32 x.2.1, .bool x.2.2.1, .slice P p1 p2, .slice Q q1 q2] 34
  try simp only [World.size_alloc] at H G J
  generalize (((w).alloc (.cells #[.int .u32 (a : Int), .int .i64 p, .slice A n c, .int .i64 sh, .int .i64 wo, .int .i64 qu, .int .i64 tr] 27)).alloc (.cells #[.int .i64 k, .int .u32 (X : Int), .slice C q f] 30)).alloc (.cells #[.int .i64 x.1, .int .u32 x.2.1, .bool x.2.2.1, .slice P p1 p2, .slice Q q1 q2] 34) = w1 at H G J hL h hs hy hA hE K ⊢
  generalize hgJ : w.heap.size + 1 + 1 = gJ at H G J ⊢
  generalize hgG : w.heap.size + 1 = gG at H G J ⊢
  generalize hgH : w.heap.size = gH at H G J ⊢
  have H_b : w.heap.size ≤ gH := by omega
  have G_b : w.heap.size ≤ gG := by omega
  have J_b : w.heap.size ≤ gJ := by omega
  have ne_H_G : gH ≠ gG := by omega
  have ne_H_J : gH ≠ gJ := by omega
  have ne_G_J : gG ≠ gJ := by omega
  clear KS hgH hgG hgJ 
  go_wp2_with fail
  refine (awake_any _ hL).mono ?_
  rintro e w2 ⟨rfl, K'⟩
  replace H := H.below K'
  replace G := G.below K'
  replace J := J.below K'
  replace hL := hL.below K'
  replace h := h.below K'
  replace hs := hs.below K'
  replace hy := hy.below K'
  replace hA := hA.below K'
  replace hE := hE.below K'
  replace K := Below.then_ K K'
  clear K'
  have H_0 := H.at_ (v := .int .u32 (a : Int)) 0 rfl
  have H_1 := H.at_ (v := .int .i64 p) 1 rfl
  have H_2 := H.at_ (v := .slice A n c) 2 rfl
  have H_3 := H.at_ (v := .int .i64 sh) 3 rfl
  have H_4 := H.at_ (v := .int .i64 wo) 4 rfl
  have H_5 := H.at_ (v := .int .i64 qu) 5 rfl
  have H_6 := H.at_ (v := .int .i64 tr) 6 rfl
  have H_z := H.lt
  go_wp2_with fail
  refine (fits11_any ha h hs).mono ?_
  rintro e w3 ⟨bo, rfl, hB_, K'⟩
  clear H_0 H_1 H_2 H_3 H_4 H_5 H_6 H_z
  replace H := H.below K'
  replace G := G.below K'
  replace J := J.below K'
  replace hL := hL.below K'
  replace h := h.below K'
  replace hs := hs.below K'
  replace hy := hy.below K'
  replace hA := hA.below K'
  replace hE := hE.below K'
  replace K := Below.then_ K K'
  clear K'
  rcases bo with _ | _
  · clear hB_
    go_wp2_with fail
    refine (awake_any _ hL).mono ?_
    rintro e w4 ⟨rfl, K'⟩
    replace H := H.below K'
    replace G := G.below K'
    replace J := J.below K'
    replace hL := hL.below K'
    replace h := h.below K'
    replace hs := hs.below K'
    replace hy := hy.below K'
    replace hA := hA.below K'
    replace hE := hE.below K'
    replace K := Below.then_ K K'
    clear K'
    go_wp2
    go_ret
    exact ⟨rfl, K⟩
  obtain ⟨M, hC, hM2, hm3, hx_⟩ := hB_ rfl
  clear hB_
  have hM := hC.much
  have hMm := hM.most
  have hn : n ≤ 65536 := by have := hC.few; omega
  have hris := Lib.hid hC.ris
  have hx := Lib.hid hx_
  have hr := Lib.hid (mayR_iff.1 hx_).1
  clear hx_ hC
  have hm : m ≤ 60000 := by omega
  have G_0 := G.at_ (v := .int .i64 k) 0 rfl
  have G_1 := G.at_ (v := .int .u32 (X : Int)) 1 rfl
  have G_2 := G.at_ (v := .slice C q f) 2 rfl
  have G_z := G.lt
  rcases Nat.lt_or_ge 100 q with hfG | hfG
  · go_wp2_with fail
    refine (few_no hy (Nat.not_le.2 hfG)).mono ?_
    rintro e w4 ⟨rfl, K'⟩
    replace H := H.below K'
    replace G := G.below K'
    replace J := J.below K'
    replace hL := hL.below K'
    replace h := h.below K'
    replace hs := hs.below K'
    replace hy := hy.below K'
    replace hA := hA.below K'
    replace hE := hE.below K'
    replace K := Below.then_ K K'
    clear K'
    clear G_0 G_1 G_2 G_z
    go_wp2_with fail
    refine (awake_any _ hL).mono ?_
    rintro e w5 ⟨rfl, K'⟩
    replace H := H.below K'
    replace G := G.below K'
    replace J := J.below K'
    replace hL := hL.below K'
    replace h := h.below K'
    replace hs := hs.below K'
    replace hy := hy.below K'
    replace hA := hA.below K'
    replace hE := hE.below K'
    replace K := Below.then_ K K'
    clear K'
    go_wp2
    go_ret
    exact ⟨rfl, K⟩
  go_wp2_with fail
  refine (few_yes hy hfG).mono ?_
  rintro e w4 ⟨rfl, K'⟩
  replace H := H.below K'
  replace G := G.below K'
  replace J := J.below K'
  replace hL := hL.below K'
  replace h := h.below K'
  replace hs := hs.below K'
  replace hy := hy.below K'
  replace hA := hA.below K'
  replace hE := hE.below K'
  replace K := Below.then_ K K'
  clear K'
  clear G_0 G_1 G_2 G_z
  have hq : q ≤ 60000 := by omega
  rcases Nat.lt_or_ge 300 p1 with g1 | g1
  · have J_0 := J.at_ (v := .int .i64 x.1) 0 rfl
    have J_1 := J.at_ (v := .int .u32 x.2.1) 1 rfl
    have J_2 := J.at_ (v := .bool x.2.2.1) 2 rfl
    have J_3 := J.at_ (v := .slice P p1 p2) 3 rfl
    have J_4 := J.at_ (v := .slice Q q1 q2) 4 rfl
    have J_z := J.lt
    go_wp2_with fail
    refine (rfew_no1 g1).mono ?_
    rintro e w5 ⟨rfl, K'⟩
    clear J_0 J_1 J_2 J_3 J_4 J_z
    replace H := H.below K'
    replace G := G.below K'
    replace J := J.below K'
    replace hL := hL.below K'
    replace h := h.below K'
    replace hs := hs.below K'
    replace hy := hy.below K'
    replace hA := hA.below K'
    replace hE := hE.below K'
    replace K := Below.then_ K K'
    clear K'
    go_wp2_with fail
    refine (awake_any _ hL).mono ?_
    rintro e w6 ⟨rfl, K'⟩
    replace H := H.below K'
    replace G := G.below K'
    replace J := J.below K'
    replace hL := hL.below K'
    replace h := h.below K'
    replace hs := hs.below K'
    replace hy := hy.below K'
    replace hA := hA.below K'
    replace hE := hE.below K'
    replace K := Below.then_ K K'
    clear K'
    go_wp2
    go_ret
    exact ⟨rfl, K⟩
  rcases Nat.lt_or_ge 300 q1 with g2 | g2
  · have J_0 := J.at_ (v := .int .i64 x.1) 0 rfl
    have J_1 := J.at_ (v := .int .u32 x.2.1) 1 rfl
    have J_2 := J.at_ (v := .bool x.2.2.1) 2 rfl
    have J_3 := J.at_ (v := .slice P p1 p2) 3 rfl
    have J_4 := J.at_ (v := .slice Q q1 q2) 4 rfl
    have J_z := J.lt
    go_wp2_with fail
    refine (rfew_no2 g1 g2).mono ?_
    rintro e w5 ⟨rfl, K'⟩
    clear J_0 J_1 J_2 J_3 J_4 J_z
    replace H := H.below K'
    replace G := G.below K'
    replace J := J.below K'
    replace hL := hL.below K'
    replace h := h.below K'
    replace hs := hs.below K'
    replace hy := hy.below K'
    replace hA := hA.below K'
    replace hE := hE.below K'
    replace K := Below.then_ K K'
    clear K'
    go_wp2_with fail
    refine (awake_any _ hL).mono ?_
    rintro e w6 ⟨rfl, K'⟩
    replace H := H.below K'
    replace G := G.below K'
    replace J := J.below K'
    replace hL := hL.below K'
    replace h := h.below K'
    replace hs := hs.below K'
    replace hy := hy.below K'
    replace hA := hA.below K'
    replace hE := hE.below K'
    replace K := Below.then_ K K'
    clear K'
    go_wp2
    go_ret
    exact ⟨rfl, K⟩
  have J_0 := J.at_ (v := .int .i64 x.1) 0 rfl
  have J_1 := J.at_ (v := .int .u32 x.2.1) 1 rfl
  have J_2 := J.at_ (v := .bool x.2.2.1) 2 rfl
  have J_3 := J.at_ (v := .slice P p1 p2) 3 rfl
  have J_4 := J.at_ (v := .slice Q q1 q2) 4 rfl
  have J_z := J.lt
  go_wp2_with fail
  refine (rfew_yes g1 g2).mono ?_
  rintro e w5 ⟨rfl, K'⟩
  clear J_0 J_1 J_2 J_3 J_4 J_z
  replace H := H.below K'
  replace G := G.below K'
  replace J := J.below K'
  replace hL := hL.below K'
  replace h := h.below K'
  replace hs := hs.below K'
  replace hy := hy.below K'
  replace hA := hA.below K'
  replace hE := hE.below K'
  replace K := Below.then_ K K'
  clear K'
  have b1 : p1 ≤ 60000 := by omega
  have b2 : q1 ≤ 60000 := by omega
  have hml := hs0.len
  have hqf := hy0.len
  obtain ⟨i0, hi, hz0, hz1, hz2⟩ := info_parts int_info
  have hown : Ri .i64 3 (w5.alloc (.cells #[] 3)) w5.heap.size (.slice (some ⟨w5.heap.size, 0, none⟩) 0 0) 0 [] := World.ownsRow_lit w5 #[] 0 (Nat.le_refl _) (by unfold maxLen; omega) rfl
  have Ka := below_alloc w5 (.cells #[] 3)
  obtain ⟨Q_A, Q_c, wqQ_, hap, R1, K1⟩ := run_app (P := Tryd.prog) Tryd.underlying25 hi hz0 hz1 (by omega) hown (hs.below Ka) (by omega) Ka.size 25
  rw [Nat.zero_add] at hap R1
  rw [List.nil_append] at R1
  have HA := Lib.hid hap
  have K' := Ka.trans K1
  have Q_ := R1.is
  clear hap hi hz0 hz1 hz2 hown R1 Ka K1
  go_upto_region 4 with (first | (at_builtin; refine wpList_append_run rfl (.tmp 30) (.tmp 31) 25 rfl _ _ _ _ rfl rfl HA.out ?_))
  clear HA
  replace H := H.below K'
  replace G := G.below K'
  replace J := J.below K'
  replace hL := hL.below K'
  replace h := h.below K'
  replace hs := hs.below K'
  replace hy := hy.below K'
  replace hA := hA.below K'
  replace hE := hE.below K'
  replace K := Below.then_ K K'
  clear K'
  replace Q_ := Q_.lower (Nat.zero_le _)
  have Q_O := Q_.av_old (Nat.le_refl wqQ_.heap.size)
  have G_0 := G.at_ (v := .int .i64 k) 0 rfl
  have G_1 := G.at_ (v := .int .u32 (X : Int)) 1 rfl
  have G_2 := G.at_ (v := .slice C q f) 2 rfl
  have G_z := G.lt
  go_upto_region 5 with (first | (refine wpList_store_row rfl 30 (.tmp 10) (.tmp 33) rfl _ _ rfl (show _ = Value.agg #[.int .i64 k, .int .u32 (X : Int), .slice C q f] from rfl) _ _ (Bk.new _ _ _) ak_sz rfl (by simp [Value.oneCell']) ?_))
  try rw [World.setRow_alloc_new]
  clear G_0 G_1 G_2 G_z
  have KS := K.size
  have H_l := H.lt
  have G_l := G.lt
  have J_l := J.lt
  replace H := H.alloc (.cells #[.int .i64 k, .int .u32 (X : Int), .slice C q f] 30)
  replace G := G.alloc (.cells #[.int .i64 k, .int .u32 (X : Int), .slice C q f] 30)
  replace J := J.alloc (.cells #[.int .i64 k, .int .u32 (X : Int), .slice C q f] 30)
  replace hL := hL.below (below_alloc _ (.cells #[.int .i64 k, .int .u32 (X : Int), .slice C q f] 30))
  replace h := h.below (below_alloc _ (.cells #[.int .i64 k, .int .u32 (X : Int), .slice C q f] 30))
  replace hs := hs.below (below_alloc _ (.cells #[.int .i64 k, .int .u32 (X : Int), .slice C q f] 30))
  replace hy := hy.below (below_alloc _ (.cells #[.int .i64 k, .int .u32 (X : Int), .slice C q f] 30))
  replace hA := hA.below (below_alloc _ (.cells #[.int .i64 k, .int .u32 (X : Int), .slice C q f] 30))
  replace hE := hE.below (below_alloc _ (.cells #[.int .i64 k, .int .u32 (X : Int), .slice C q f] 30))
  replace Q_ := Q_.below (below_alloc _ (.cells #[.int .i64 k, .int .u32 (X : Int), .slice C q f] 30))
  replace K := Below.then_ K (below_alloc _ (.cells #[.int .i64 k, .int .u32 (X : Int), .slice C q f] 30))
  have O := Bk.new (wqQ_) #[.int .i64 k, .int .u32 (X : Int), .slice C q f] 30
  try simp only [World.size_alloc] at O
  generalize (wqQ_).alloc (.cells #[.int .i64 k, .int .u32 (X : Int), .slice C q f] 30) = w7 at H G J O hL h hs hy hA hE Q_ K ⊢
  generalize hgO : wqQ_.heap.size = gO at O Q_O ⊢
  have O_b : w.heap.size ≤ gO := by omega
  have ne_H_O : gH ≠ gO := by omega
  have ne_G_O : gG ≠ gO := by omega
  have ne_J_O : gJ ≠ gO := by omega
  clear KS hgO H_l G_l J_l
  have O_lW := O.lt
  obtain ⟨i0, hi, hz0, hz1, hz2⟩ := info_parts u32_info
  have hown : Ri .u32 22 (w7.alloc (.cells #[] 22)) w7.heap.size (.slice (some ⟨w7.heap.size, 0, none⟩) 0 0) 0 [] := World.ownsRow_lit w7 #[] 0 (Nat.le_refl _) (by unfold maxLen; omega) rfl
  have Ka := below_alloc w7 (.cells #[] 22)
  obtain ⟨T_A, T_c, wqT_, hap, R1, K1⟩ := run_app (P := Tryd.prog) Tryd.underlying28 hi hz0 hz1 (by omega) hown (hy.below Ka) (by omega) Ka.size 28
  rw [Nat.zero_add] at hap R1
  rw [List.nil_append] at R1
  have HA := Lib.hid hap
  have K' := Ka.trans K1
  have T_ := R1.is
  clear hap hi hz0 hz1 hz2 hown R1 Ka K1
  have O_2 := (O.below K').at_ (v := .slice C q f) 2 rfl
  have O_z := (O.below K').lt
  have O_f := (O.below K').fz 2
  have G_0 := G.at_ (v := .int .i64 k) 0 rfl
  have G_1 := G.at_ (v := .int .u32 (X : Int)) 1 rfl
  have G_2 := G.at_ (v := .slice C q f) 2 rfl
  have G_z := G.lt
  go_upto_region 6 with (first | (at_builtin; refine wpList_append_run rfl (.tmp 34) (.tmp 36) 28 rfl _ _ _ _ rfl rfl HA.out ?_))
  clear HA O_2 O_z O_f
  clear G_0 G_1 G_2 G_z
  replace H := H.below K'
  replace G := G.below K'
  replace J := J.below K'
  replace O := O.below K'
  replace hL := hL.below K'
  replace h := h.below K'
  replace hs := hs.below K'
  replace hy := hy.below K'
  replace hA := hA.below K'
  replace hE := hE.below K'
  replace Q_ := Q_.below K'
  replace K := Below.then_ K K'
  clear K'
  have T_O := T_.av O_lW
  clear O_lW
  replace T_ := T_.lower (Nat.zero_le _)
  replace H := H.far (p := ⟨gO, 2, none⟩) ne_H_O (.slice T_A q T_c)
  replace G := G.far (p := ⟨gO, 2, none⟩) ne_G_O (.slice T_A q T_c)
  replace J := J.far (p := ⟨gO, 2, none⟩) ne_J_O (.slice T_A q T_c)
  replace O : Bk (wqT_.setCell ⟨gO, 2, none⟩ (.slice T_A q T_c)) gO 30 #[.int .i64 k, .int .u32 (X : Int), .slice T_A q T_c] := O.set_ 2 (.slice T_A q T_c)
  replace Q_ := Q_.cell_av (p := ⟨gO, 2, none⟩) Q_O (.slice T_A q T_c)
  replace T_ := T_.cell_av (p := ⟨gO, 2, none⟩) T_O (.slice T_A q T_c)
  replace K := K.setCell (p := ⟨gO, 2, none⟩) O_b (.slice T_A q T_c)
  replace hL := hL0.below K
  replace h := h0.below K
  replace hs := hs0.below K
  replace hy := hy0.below K
  replace hA := hA0.below K
  replace hE := hE0.below K
  generalize wqT_.setCell ⟨gO, 2, none⟩ (.slice T_A q T_c) = w20 at H G J O Q_ T_ K hL h hs hy hA hE ⊢
  have H_0 := H.at_ (v := .int .u32 (a : Int)) 0 rfl
  have H_1 := H.at_ (v := .int .i64 p) 1 rfl
  have H_2 := H.at_ (v := .slice A n c) 2 rfl
  have H_3 := H.at_ (v := .int .i64 sh) 3 rfl
  have H_4 := H.at_ (v := .int .i64 wo) 4 rfl
  have H_5 := H.at_ (v := .int .i64 qu) 5 rfl
  have H_6 := H.at_ (v := .int .i64 tr) 6 rfl
  have H_z := H.lt
  have O_0 := O.at_ (v := .int .i64 k) 0 rfl
  have O_1 := O.at_ (v := .int .u32 (X : Int)) 1 rfl
  have O_2 := O.at_ (v := .slice T_A q T_c) 2 rfl
  have O_z := O.lt
  have J_0 := J.at_ (v := .int .i64 x.1) 0 rfl
  have J_1 := J.at_ (v := .int .u32 x.2.1) 1 rfl
  have J_2 := J.at_ (v := .bool x.2.2.1) 2 rfl
  have J_3 := J.at_ (v := .slice P p1 p2) 3 rfl
  have J_4 := J.at_ (v := .slice Q q1 q2) 4 rfl
  have J_z := J.lt
  go_wp2_with fail
  refine (legal_any (k := k) (x := x) (sh := sh) (wo := wo) (qu := qu) (tr := tr) hL ha hM h hn Q_ hm hx.out hX T_ hq hw.out hA hE b1 b2 hA1.out).mono ?_
  clear H_0 H_1 H_2 H_3 H_4 H_5 H_6 H_z
  clear O_0 O_1 O_2 O_z
  clear J_0 J_1 J_2 J_3 J_4 J_z
  rintro e w21 ⟨NA, Nn, Nc, rfl, N, hav, K'⟩
  clear hav N
  replace H := H.below K'
  replace G := G.below K'
  replace J := J.below K'
  replace O := O.below K'
  replace hL := hL.below K'
  replace h := h.below K'
  replace hs := hs.below K'
  replace hy := hy.below K'
  replace hA := hA.below K'
  replace hE := hE.below K'
  replace Q_ := Q_.below K'
  replace T_ := T_.below K'
  replace K := Below.then_ K K'
  clear K'
  have H_0 := H.at_ (v := .int .u32 (a : Int)) 0 rfl
  have H_1 := H.at_ (v := .int .i64 p) 1 rfl
  have H_2 := H.at_ (v := .slice A n c) 2 rfl
  have H_3 := H.at_ (v := .int .i64 sh) 3 rfl
  have H_4 := H.at_ (v := .int .i64 wo) 4 rfl
  have H_5 := H.at_ (v := .int .i64 qu) 5 rfl
  have H_6 := H.at_ (v := .int .i64 tr) 6 rfl
  have H_z := H.lt
  have O_0 := O.at_ (v := .int .i64 k) 0 rfl
  have O_1 := O.at_ (v := .int .u32 (X : Int)) 1 rfl
  have O_2 := O.at_ (v := .slice T_A q T_c) 2 rfl
  have O_z := O.lt
  go_wp2_with fail
  refine (some_any (k := k) (sh := sh) (wo := wo) (qu := qu) (tr := tr) hL ha hM h hn Q_ hm hx.out hX T_ hq hw.out).mono ?_
  clear H_0 H_1 H_2 H_3 H_4 H_5 H_6 H_z
  clear O_0 O_1 O_2 O_z
  rintro e w22 ⟨VA, Vn, Vc, DA, Dn, Dc, EA, En, Ec, rfl, V, hav, D, E, K'⟩
  clear hav V D E
  replace H := H.below K'
  replace G := G.below K'
  replace J := J.below K'
  replace O := O.below K'
  replace hL := hL.below K'
  replace h := h.below K'
  replace hs := hs.below K'
  replace hy := hy.below K'
  replace hA := hA.below K'
  replace hE := hE.below K'
  replace Q_ := Q_.below K'
  replace T_ := T_.below K'
  replace K := Below.then_ K K'
  clear K'
  have O_0 := O.at_ (v := .int .i64 k) 0 rfl
  have O_1 := O.at_ (v := .int .u32 (X : Int)) 1 rfl
  have O_2 := O.at_ (v := .slice T_A q T_c) 2 rfl
  have O_z := O.lt
  have G_0 := G.at_ (v := .int .i64 k) 0 rfl
  have G_1 := G.at_ (v := .int .u32 (X : Int)) 1 rfl
  have G_2 := G.at_ (v := .slice C q f) 2 rfl
  have G_z := G.lt
  go_wp2_with fail
  refine (ints_same Q_ hs (by omega)).mono ?_
  rintro e w23 ⟨rfl, K'⟩
  clear O_0 O_1 O_2 O_z
  clear G_0 G_1 G_2 G_z
  replace H := H.below K'
  replace G := G.below K'
  replace J := J.below K'
  replace O := O.below K'
  replace hL := hL.below K'
  replace h := h.below K'
  replace hs := hs.below K'
  replace hy := hy.below K'
  replace hA := hA.below K'
  replace hE := hE.below K'
  replace Q_ := Q_.below K'
  replace T_ := T_.below K'
  replace K := Below.then_ K K'
  clear K'
  have O_0 := O.at_ (v := .int .i64 k) 0 rfl
  have O_1 := O.at_ (v := .int .u32 (X : Int)) 1 rfl
  have O_2 := O.at_ (v := .slice T_A q T_c) 2 rfl
  have O_z := O.lt
  have G_0 := G.at_ (v := .int .i64 k) 0 rfl
  have G_1 := G.at_ (v := .int .u32 (X : Int)) 1 rfl
  have G_2 := G.at_ (v := .slice C q f) 2 rfl
  have G_z := G.lt
  go_wp2_with fail
  refine (asks_self (k := k) (x := (X : Int)) T_ hy (by omega) (by omega)).mono ?_
  rintro e w24 ⟨rfl, K'⟩
  clear O_0 O_1 O_2 O_z
  clear G_0 G_1 G_2 G_z
  replace H := H.below K'
  replace G := G.below K'
  replace J := J.below K'
  replace O := O.below K'
  replace hL := hL.below K'
  replace h := h.below K'
  replace hs := hs.below K'
  replace hy := hy.below K'
  replace hA := hA.below K'
  replace hE := hE.below K'
  replace Q_ := Q_.below K'
  replace T_ := T_.below K'
  replace K := Below.then_ K K'
  clear K'
  go_wp2
  go_ret
  exact ⟨rfl, K⟩
theorem walk (a p : Int) (A : Option Addr) (n c : Nat) (z : List Int) (sh wo qu tr : Int) (B : Option Addr) (m d : Nat) (zb : List Int) (k x : Int) (C : Option Addr) (q f : Nat) (y : List Int) (E D : Int) (U : Bool) (P : Option Addr) (p1 p2 : Nat) (g1 : List Int) (Q : Option Addr) (q1 q2 : Nat) (g2 : List Int) (w : World) (hL : Laid w) (wa : (Lit.int .u32 a).wf = true) (wr : IsRow .i64 w A n c z) (wb : IsRow .i64 w B m d zb) (wx : (Lit.int .u32 x).wf = true) (wy : IsRow .u32 w C q f y) (wd : (Lit.int .u32 D).wf = true) (w1 : IsRow .u32 w P p1 p2 g1) (w2 : IsRow .i64 w Q q1 q2 g2) :
    Calls Tryd.prog 6 #[.agg #[.int .u32 a, .int .i64 p, .slice A n c, .int .i64 sh, .int .i64 wo, .int .i64 qu, .int .i64 tr], .slice B m d, .agg #[.int .i64 k, .int .u32 x, .slice C q f], .agg #[.int .i64 E, .int .u32 D, .bool U, .slice P p1 p2, .slice Q q1 q2]] w fun e w' => e = .returned (.bool true) ∧ Below w.heap.size w w' := by
  obtain ⟨a, rfl, ha⟩ := wf_u32 wa
  obtain ⟨X, rfl, hX⟩ := wf_u32 wx
  obtain ⟨D, rfl, hD⟩ := wf_u32 wd
  obtain ⟨zs, h, _⟩ := IS.of_row wr
  obtain ⟨xs, hs, _⟩ := IS.of_row wb
  obtain ⟨ys, hy, hw⟩ := row_u32 wy
  obtain ⟨gs, hA, _⟩ := IS.of_row w1
  obtain ⟨es, hE, _⟩ := IS.of_row w2
  exact main (x := (E, (D : Int), U, gs, es)) hL ha h hs hy hX hw hA hE ⟨by show (0 : Int) ≤ (D : Int); omega, by show (D : Int) < 4294967296; omega⟩
end
end Go.Proofs.YtmakbmmnjbnfiaaDoor.specKeeps
