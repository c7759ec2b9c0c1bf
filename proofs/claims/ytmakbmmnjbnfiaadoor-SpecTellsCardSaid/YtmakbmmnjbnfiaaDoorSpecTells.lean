/-
  The walk of the law SpecTells: for every configuration, list, request and answer it answers true.
-/
import Derived.Test.YtmakbmmnjbnfiaaDoorSpecRsome
namespace Go.Proofs.YtmakbmmnjbnfiaaDoor.specTells
open Go.RowKit
set_option linter.unusedVariables false
section
variable {w : World} {lo lo2 lo3 lo4 lo5 a m d q f X p1 p2 q1 q2 : Nat} {p sh wo qu tr k : Int} {A B C P Q : Option Addr} {n c : Nat} {zs xs ys : List Int} {x : An}
set_option maxRecDepth 100000 in
set_option maxHeartbeats 4000000 in
theorem main (hL0 : Laid w) (ha : a < 4294967296) (h0 : IS .i64 lo w A n c zs) (hs0 : IS .i64 lo2 w B m d xs) (hy0 : IS .u32 lo3 w C q f ys) (hX : X < 4294967296) (hw : W32 ys) (hA0 : IS .u32 lo4 w P p1 p2 x.2.2.2.1) (hE0 : IS .i64 lo5 w Q q1 q2 x.2.2.2.2) (hA1_ : 0 ≤ x.2.1 ∧ x.2.1 < 4294967296) :
    Calls Tryd.prog 3 #[.agg #[.int .u32 (a : Int), .int .i64 p, .slice A n c, .int .i64 sh, .int .i64 wo, .int .i64 qu, .int .i64 tr], .slice B m d, .agg #[.int .i64 k, .int .u32 (X : Int), .slice C q f], .agg #[.int .i64 x.1, .int .u32 x.2.1, .bool x.2.2.1, .slice P p1 p2, .slice Q q1 q2]] w (RetBo true w) := by
  replace hw := Lib.hid hw
  have hA1 := Lib.hid hA1_
  clear hA1_
  have hL := hL0
  have h := h0
  have hs := hs0
  have hy := hy0
  have hA := hA0
  have hE := hE0
  have K := Below.refl w.heap.size w
  go_enter Tryd.func3, Tryd.ntmps3
  go_upto_region 1 with (fail)
  have KS := K.size
  replace hL := hL.below (below_alloc _ (.cells #[.int .u32 (a : Int), .int .i64 p, .slice A n c, .int .i64 sh, .int .i64 wo, .int .i64 qu, .int .i64 tr] 27))
  replace h := h.below (below_alloc _ (.cells #[.int .u32 (a : Int), .int .i64 p, .slice A n c, .int .i64 sh, .int .i64 wo, .int .i64 qu, .int .i64 tr] 27))
  replace hs := hs.below (below_alloc _ (.cells #[.int .u32 (a : Int), .int .i64 p, .slice A n c, .int .i64 sh, .int .i64 wo, .int .i64 qu, .int .i64 tr] 27))
  replace hy := hy.below (below_alloc _ (.cells #[.int .u32 (a : Int), .int .i64 p, .slice A n c, .int .i64 sh, .int .i64 wo, .int .i64 qu, .int .i64 tr] 27))
  replace hA := hA.below (below_alloc _ (.cells #[.int .u32 (a : Int), .int .i64 p, .slice A n c, .int .i64 sh, .int .i64 wo, .int .i64 qu, .int .i64 tr] 27))
  replace hE := hE.below (below_alloc _ (.cells #[.int .u32 (a : Int), .int .i64 p, .slice A n c, .int .i64 sh, .int .i64 wo, .int .i64 qu, .int .i64 tr] 27))
  replace K := Below.then_ K (below_alloc _ (.cells #[.int .u32 (a : Int), .int .i64 p, .slice A n c, .int .i64 sh, .int .i64 wo, .int .i64 qu, .int .i64 tr] 27))
  have H := Bk.new (w) #[.int .u32 (a : Int), .int .i64 p, .slice A n c, .int .i64 sh, .int .i64 wo, .int .i64 qu, .int .i64 tr] 27
  replace H := H.alloc (.cells #[.int .i64 k, .int .u32 (X : Int), .slice C q f] 30)
  replace hL := hL.below (below_alloc _ (.cells #[.int .i64 k, .int .u32 (X : Int), .slice C q f] 30))
  replace h := h.below (below_alloc _ (.cells #[.int .i64 k, .int .u32 (X : Int), .slice C q f] 30))
  replace hs := hs.below (below_alloc _ (.cells #[.int .i64 k, .int .u32 (X : Int), .slice C q f] 30))
  replace hy := hy.below (below_alloc _ (.cells #[.int .i64 k, .int .u32 (X : Int), .slice C q f] 30))
  replace hA := hA.below (below_alloc _ (.cells #[.int .i64 k, .int .u32 (X : Int), .slice C q f] 30))
  replace hE := hE.below (below_alloc _ (.cells #[.int .i64 k, .int .u32 (X : Int), .slice C q f] 30))
  replace K := Below.then_ K (below_alloc _ (.cells #[.int .i64 k, .int .u32 (X : Int), .slice C q f] 30))
  have G := Bk.new ((w).alloc (.cells #[.int .u32 (a : Int), .int .i64 p, .slice A n c, .int .i64 sh, .int .i64 wo, .int .i64 qu, .int .i64 tr] 27)) #[.int .i64 k, .int .u32 (X : Int), .slice C q f] 30
  replace H := H.alloc (.cells #[.int .i64 x.1, .int .u32 x.2.1, .bool x.2.2.1, .slice P p1 p2, .slice Q q1 q2] 34)
  replace G := G.alloc (.cells #[.int .i64 x.1, .int .u32 x.2.1, .bool x.2.2.1, .slice P p1 p2, .slice Q q1 q2] 34)
  replace hL := hL.below (below_alloc _ (.cells #[.int .i64 x.1, .int .u32 x.2.1, .bool x.2.2.1, .slice P p1 p2, .slice Q q1 q2] 34))
  replace h := h.below (below_alloc _ (.cells #[.int .i64 x.1, .int .u32 x.2.1, .bool x.2.2.1, .slice P p1 p2, .slice Q q1 q2] 34))
  replace hs := hs.below (below_alloc _ (.cells #[.int .i64 x.1, .int .u32 x.2.1, .bool x.2.2.1, .slice P p1 p2, .slice Q q1 q2] 34))
  replace hy := hy.below (below_alloc _ (.cells #[.int .i64 x.1, .int .u32 x.2.1, .bool x.2.2.1, .slice P p1 p2, .slice Q q1 q2] 34))
  replace hA := hA.below (below_alloc _ (.cells #[.int .i64 x.1, .int .u32 x.2.1, .bool x.2.2.1, .slice P p1 p2, .slice Q q1 q2] 34))
  replace hE := hE.below (below_alloc _ (.cells #[.int .i64 x.1, .int .u32 x.2.1, .bool x.2.2.1, .slice P p1 p2, .slice Q q1 q2] 34))
  replace K := Below.then_ K (below_alloc _ (.cells #[.int .i64 x.1, .int .u32 x.2.1, .bool x.2.2.1, .slice P p1 p2, .slice Q q1 q2] 34))
  have J := Bk.new (((w).alloc (.cells #[.int .u32 (a : Int), .int .i64 p, .slice A n c, .int .i64 sh, .int .i64 wo, .int .i64 qu, .int .i64 tr] 27)).alloc (.cells #[.int .i64 k, .int .u32 (X : Int), .slice C q f] 30)) #[.int .i64 x.1, .int .u32 x.2.1, .bool x.2.2.1, .slice P p1 p2, .slice Q q1 q2] 34
  try simp only [World.size_alloc] at H G J
  generalize (((w).alloc (.cells #[.int .u32 (a : Int), .int .i64 p, .slice A n c, .int .i64 sh, .int .i64 wo, .int .i64 qu, .int .i64 tr] 27)).alloc (.cells #[.int .i64 k, .int .u32 (X : Int), .slice C q f] 30)).alloc (.cells #[.int .i64 x.1, .int .u32 x.2.1, .bool x.2.2.1, .slice P p1 p2, .slice Q q1 q2] 34) = w1 at H G J hL h hs hy hA hE K ⊢
  generalize hgJ : w.heap.size + 1 + 1 = gJ at H G J ⊢
  generalize hgG : w.heap.size + 1 = gG at H G J ⊢
  generalize hgH : w.heap.size = gH at H G J ⊢
  have H_b : w.heap.size ≤ gH := by omega
  have G_b : w.heap.size ≤ gG := by omega
  have J_b : w.heap.size ≤ gJ := by omega
  have ne_H_G : gH ≠ gG := by omega
  have ne_H_J : gH ≠ gJ := by omega
  have ne_G_J : gG ≠ gJ := by omega
  clear KS hgH hgG hgJ 
  go_wp2_with fail
  refine (awake_any _ hL).mono ?_
  rintro e w2 ⟨rfl, K'⟩
  replace H := H.below K'
  replace G := G.below K'
  replace J := J.below K'
  replace hL := hL.below K'
  replace h := h.below K'
  replace hs := hs.below K'
  replace hy := hy.below K'
  replace hA := hA.below K'
  replace hE := hE.below K'
  replace K := Below.then_ K K'
  clear K'
  have H_0 := H.at_ (v := .int .u32 (a : Int)) 0 rfl
  have H_1 := H.at_ (v := .int .i64 p) 1 rfl
  have H_2 := H.at_ (v := .slice A n c) 2 rfl
  have H_3 := H.at_ (v := .int .i64 sh) 3 rfl
  have H_4 := H.at_ (v := .int .i64 wo) 4 rfl
  have H_5 := H.at_ (v := .int .i64 qu) 5 rfl
  have H_6 := H.at_ (v := .int .i64 tr) 6 rfl
  have H_z := H.lt
  go_wp2_with fail
  refine (fits11_any ha h hs).mono ?_
  rintro e w3 ⟨bo, rfl, hB_, K'⟩
  clear H_0 H_1 H_2 H_3 H_4 H_5 H_6 H_z
  replace H := H.below K'
  replace G := G.below K'
  replace J := J.below K'
  replace hL := hL.below K'
  replace h := h.below K'
  replace hs := hs.below K'
  replace hy := hy.below K'
  replace hA := hA.below K'
  replace hE := hE.below K'
  replace K := Below.then_ K K'
  clear K'
  rcases bo with _ | _
  · clear hB_
    go_wp2_with fail
    refine (awake_any _ hL).mono ?_
    rintro e w4 ⟨rfl, K'⟩
    replace H := H.below K'
    replace G := G.below K'
    replace J := J.below K'
    replace hL := hL.below K'
    replace h := h.below K'
    replace hs := hs.below K'
    replace hy := hy.below K'
    replace hA := hA.below K'
    replace hE := hE.below K'
    replace K := Below.then_ K K'
    clear K'
    go_wp2
    go_ret
    exact ⟨rfl, K⟩
  obtain ⟨M, hC, hM2, hm3, hx_⟩ := hB_ rfl
  clear hB_
  have hM := hC.much
  have hMm := hM.most
  have hn : n ≤ 65536 := by have := hC.few; omega
  have hris := Lib.hid hC.ris
  have hx := Lib.hid hx_
  have hr := Lib.hid (mayR_iff.1 hx_).1
  clear hx_ hC
  have hm : m ≤ 60000 := by omega
  have G_0 := G.at_ (v := .int .i64 k) 0 rfl
  have G_1 := G.at_ (v := .int .u32 (X : Int)) 1 rfl
  have G_2 := G.at_ (v := .slice C q f) 2 rfl
  have G_z := G.lt
  rcases Nat.lt_or_ge 100 q with hfG | hfG
  · go_wp2_with fail
    refine (few_no hy (Nat.not_le.2 hfG)).mono ?_
    rintro e w4 ⟨rfl, K'⟩
    replace H := H.below K'
    replace G := G.below K'
    replace J := J.below K'
    replace hL := hL.below K'
    replace h := h.below K'
    replace hs := hs.below K'
    replace hy := hy.below K'
    replace hA := hA.below K'
    replace hE := hE.below K'
    replace K := Below.then_ K K'
    clear K'
    clear G_0 G_1 G_2 G_z
    go_wp2_with fail
    refine (awake_any _ hL).mono ?_
    rintro e w5 ⟨rfl, K'⟩
    replace H := H.below K'
    replace G := G.below K'
    replace J := J.below K'
    replace hL := hL.below K'
    replace h := h.below K'
    replace hs := hs.below K'
    replace hy := hy.below K'
    replace hA := hA.below K'
    replace hE := hE.below K'
    replace K := Below.then_ K K'
    clear K'
    go_wp2
    go_ret
    exact ⟨rfl, K⟩
  go_wp2_with fail
  refine (few_yes hy hfG).mono ?_
  rintro e w4 ⟨rfl, K'⟩
  replace H := H.below K'
  replace G := G.below K'
  replace J := J.below K'
  replace hL := hL.below K'
  replace h := h.below K'
  replace hs := hs.below K'
  replace hy := hy.below K'
  replace hA := hA.below K'
  replace hE := hE.below K'
  replace K := Below.then_ K K'
  clear K'
  clear G_0 G_1 G_2 G_z
  have hq : q ≤ 60000 := by omega
  rcases Nat.lt_or_ge 300 p1 with g1 | g1
  · have J_0 := J.at_ (v := .int .i64 x.1) 0 rfl
    have J_1 := J.at_ (v := .int .u32 x.2.1) 1 rfl
    have J_2 := J.at_ (v := .bool x.2.2.1) 2 rfl
    have J_3 := J.at_ (v := .slice P p1 p2) 3 rfl
    have J_4 := J.at_ (v := .slice Q q1 q2) 4 rfl
    have J_z := J.lt
    go_wp2_with fail
    refine (rfew_no1 g1).mono ?_
    rintro e w5 ⟨rfl, K'⟩
    clear J_0 J_1 J_2 J_3 J_4 J_z
    replace H := H.below K'
    replace G := G.below K'
    replace J := J.below K'
    replace hL := hL.below K'
    replace h := h.below K'
    replace hs := hs.below K'
    replace hy := hy.below K'
    replace hA := hA.below K'
    replace hE := hE.below K'
    replace K := Below.then_ K K'
    clear K'
    go_wp2_with fail
    refine (awake_any _ hL).mono ?_
    rintro e w6 ⟨rfl, K'⟩
    replace H := H.below K'
    replace G := G.below K'
    replace J := J.below K'
    replace hL := hL.below K'
    replace h := h.below K'
    replace hs := hs.below K'
    replace hy := hy.below K'
    replace hA := hA.below K'
    replace hE := hE.below K'
    replace K := Below.then_ K K'
    clear K'
    go_wp2
    go_ret
    exact ⟨rfl, K⟩
  rcases Nat.lt_or_ge 300 q1 with g2 | g2
  · have J_0 := J.at_ (v := .int .i64 x.1) 0 rfl
    have J_1 := J.at_ (v := .int .u32 x.2.1) 1 rfl
    have J_2 := J.at_ (v := .bool x.2.2.1) 2 rfl
    have J_3 := J.at_ (v := .slice P p1 p2) 3 rfl
    have J_4 := J.at_ (v := .slice Q q1 q2) 4 rfl
    have J_z := J.lt
    go_wp2_with fail
    refine (rfew_no2 g1 g2).mono ?_
    rintro e w5 ⟨rfl, K'⟩
    clear J_0 J_1 J_2 J_3 J_4 J_z
    replace H := H.below K'
    replace G := G.below K'
    replace J := J.below K'
    replace hL := hL.below K'
    replace h := h.below K'
    replace hs := hs.below K'
    replace hy := hy.below K'
    replace hA := hA.below K'
    replace hE := hE.below K'
    replace K := Below.then_ K K'
    clear K'
    go_wp2_with fail
    refine (awake_any _ hL).mono ?_
    rintro e w6 ⟨rfl, K'⟩
    replace H := H.below K'
    replace G := G.below K'
    replace J := J.below K'
    replace hL := hL.below K'
    replace h := h.below K'
    replace hs := hs.below K'
    replace hy := hy.below K'
    replace hA := hA.below K'
    replace hE := hE.below K'
    replace K := Below.then_ K K'
    clear K'
    go_wp2
    go_ret
    exact ⟨rfl, K⟩
  have J_0 := J.at_ (v := .int .i64 x.1) 0 rfl
  have J_1 := J.at_ (v := .int .u32 x.2.1) 1 rfl
  have J_2 := J.at_ (v := .bool x.2.2.1) 2 rfl
  have J_3 := J.at_ (v := .slice P p1 p2) 3 rfl
  have J_4 := J.at_ (v := .slice Q q1 q2) 4 rfl
  have J_z := J.lt
  go_wp2_with fail
  refine (rfew_yes g1 g2).mono ?_
  rintro e w5 ⟨rfl, K'⟩
  clear J_0 J_1 J_2 J_3 J_4 J_z
  replace H := H.below K'
  replace G := G.below K'
  replace J := J.below K'
  replace hL := hL.below K'
  replace h := h.below K'
  replace hs := hs.below K'
  replace hy := hy.below K'
  replace hA := hA.below K'
  replace hE := hE.below K'
  replace K := Below.then_ K K'
  clear K'
  have b1 : p1 ≤ 60000 := by omega
  have b2 : q1 ≤ 60000 := by omega
  have hfew := Lib.hid (may_few hris.out (leg_may (a := a) (k := k) (X := X) (ys := ys) (x := x) hx.out))
  have hfew2 := Lib.hid (may_few hris.out (some_may (a := a) (k := k) (X := X) (ys := ys) hx.out))
  have hlen := Lib.hid (someS_len (a := a) (M := M) (zs := zs) (xs := xs) k X ys)
  obtain ⟨r, hr1⟩ : ∃ r, legS a M zs xs k X ys x = r := ⟨_, rfl⟩
  obtain ⟨v, hv1⟩ : ∃ v, someS a M zs xs k X ys = v := ⟨_, rfl⟩
  obtain ⟨b0, hb0⟩ : ∃ b, decide (x = v.2) = b := ⟨_, rfl⟩
  rw [hr1] at hfew
  rw [hv1] at hfew2 hlen
  have eb0 : (b0 == b0) = true := by simp
  have eb1 : (r.2 == r.2) = true := by simp
  replace hr1 := Lib.hid hr1
  replace hv1 := Lib.hid hv1
  replace hb0 := Lib.hid hb0
  have hml := hs0.len
  have hql := hy0.len
  have T1 := legal_any (k := k) (x := x) (sh := sh) (wo := wo) (qu := qu) (tr := tr) hL ha hM h hn hs hm hx.out hX hy hq hw.out hA hE b1 b2 hA1.out
  rw [hr1.out] at T1
  replace T1 := Lib.hid T1
  have H_0 := H.at_ (v := .int .u32 (a : Int)) 0 rfl
  have H_1 := H.at_ (v := .int .i64 p) 1 rfl
  have H_2 := H.at_ (v := .slice A n c) 2 rfl
  have H_3 := H.at_ (v := .int .i64 sh) 3 rfl
  have H_4 := H.at_ (v := .int .i64 wo) 4 rfl
  have H_5 := H.at_ (v := .int .i64 qu) 5 rfl
  have H_6 := H.at_ (v := .int .i64 tr) 6 rfl
  have H_z := H.lt
  have G_0 := G.at_ (v := .int .i64 k) 0 rfl
  have G_1 := G.at_ (v := .int .u32 (X : Int)) 1 rfl
  have G_2 := G.at_ (v := .slice C q f) 2 rfl
  have G_z := G.lt
  have J_0 := J.at_ (v := .int .i64 x.1) 0 rfl
  have J_1 := J.at_ (v := .int .u32 x.2.1) 1 rfl
  have J_2 := J.at_ (v := .bool x.2.2.1) 2 rfl
  have J_3 := J.at_ (v := .slice P p1 p2) 3 rfl
  have J_4 := J.at_ (v := .slice Q q1 q2) 4 rfl
  have J_z := J.lt
  go_wp2_with fail
  refine (T1.out).mono ?_
  clear H_0 H_1 H_2 H_3 H_4 H_5 H_6 H_z
  clear G_0 G_1 G_2 G_z
  clear J_0 J_1 J_2 J_3 J_4 J_z
  rintro e w6 ⟨N1A, N1n, N1c, rfl, N1, hav, K'⟩
  clear hav
  replace H := H.below K'
  replace G := G.below K'
  replace J := J.below K'
  replace hL := hL.below K'
  replace h := h.below K'
  replace hs := hs.below K'
  replace hy := hy.below K'
  replace hA := hA.below K'
  replace hE := hE.below K'
  replace K := Below.then_ K K'
  clear K'
  clear T1
  have T1 := rlegal_any (k := k) (x := x) (sh := sh) (wo := wo) (qu := qu) (tr := tr) ha hM h hn hs hm hx.out hX hy hq hw.out hA hE b1 b2 hA1.out
  rw [hr1.out] at T1
  replace T1 := Lib.hid T1
  have H_0 := H.at_ (v := .int .u32 (a : Int)) 0 rfl
  have H_1 := H.at_ (v := .int .i64 p) 1 rfl
  have H_2 := H.at_ (v := .slice A n c) 2 rfl
  have H_3 := H.at_ (v := .int .i64 sh) 3 rfl
  have H_4 := H.at_ (v := .int .i64 wo) 4 rfl
  have H_5 := H.at_ (v := .int .i64 qu) 5 rfl
  have H_6 := H.at_ (v := .int .i64 tr) 6 rfl
  have H_z := H.lt
  have G_0 := G.at_ (v := .int .i64 k) 0 rfl
  have G_1 := G.at_ (v := .int .u32 (X : Int)) 1 rfl
  have G_2 := G.at_ (v := .slice C q f) 2 rfl
  have G_z := G.lt
  have J_0 := J.at_ (v := .int .i64 x.1) 0 rfl
  have J_1 := J.at_ (v := .int .u32 x.2.1) 1 rfl
  have J_2 := J.at_ (v := .bool x.2.2.1) 2 rfl
  have J_3 := J.at_ (v := .slice P p1 p2) 3 rfl
  have J_4 := J.at_ (v := .slice Q q1 q2) 4 rfl
  have J_z := J.lt
  go_wp2_with fail
  refine (T1.out).mono ?_
  clear H_0 H_1 H_2 H_3 H_4 H_5 H_6 H_z
  clear G_0 G_1 G_2 G_z
  clear J_0 J_1 J_2 J_3 J_4 J_z
  rintro e w7 ⟨N2A, N2n, N2c, rfl, N2, hav, K'⟩
  clear hav
  replace H := H.below K'
  replace G := G.below K'
  replace J := J.below K'
  replace hL := hL.below K'
  replace h := h.below K'
  replace hs := hs.below K'
  replace hy := hy.below K'
  replace hA := hA.below K'
  replace hE := hE.below K'
  replace N1 := N1.below K'
  replace K := Below.then_ K K'
  clear K'
  clear T1
  have T1 := some_any (k := k) (sh := sh) (wo := wo) (qu := qu) (tr := tr) hL ha hM h hn hs hm hx.out hX hy hq hw.out
  rw [hv1.out] at T1
  replace T1 := Lib.hid T1
  have H_0 := H.at_ (v := .int .u32 (a : Int)) 0 rfl
  have H_1 := H.at_ (v := .int .i64 p) 1 rfl
  have H_2 := H.at_ (v := .slice A n c) 2 rfl
  have H_3 := H.at_ (v := .int .i64 sh) 3 rfl
  have H_4 := H.at_ (v := .int .i64 wo) 4 rfl
  have H_5 := H.at_ (v := .int .i64 qu) 5 rfl
  have H_6 := H.at_ (v := .int .i64 tr) 6 rfl
  have H_z := H.lt
  have G_0 := G.at_ (v := .int .i64 k) 0 rfl
  have G_1 := G.at_ (v := .int .u32 (X : Int)) 1 rfl
  have G_2 := G.at_ (v := .slice C q f) 2 rfl
  have G_z := G.lt
  go_wp2_with fail
  refine (T1.out).mono ?_
  clear H_0 H_1 H_2 H_3 H_4 H_5 H_6 H_z
  clear G_0 G_1 G_2 G_z
  rintro e w8 ⟨V1A, V1n, V1c, D1A, D1n, D1c, E1A, E1n, E1c, rfl, V1, hav, D1, E1, K'⟩
  clear hav 
  replace H := H.below K'
  replace G := G.below K'
  replace J := J.below K'
  replace hL := hL.below K'
  replace h := h.below K'
  replace hs := hs.below K'
  replace hy := hy.below K'
  replace hA := hA.below K'
  replace hE := hE.below K'
  replace N1 := N1.below K'
  replace N2 := N2.below K'
  replace K := Below.then_ K K'
  clear K'
  clear T1
  go_upto_region 6 with (first | (refine wpList_store_row rfl 34 (.tmp 14) (.tmp 58) rfl _ _ rfl (show _ = Value.agg #[.int .i64 v.2.1, .int .u32 v.2.2.1, .bool v.2.2.2.1, .slice D1A D1n D1c, .slice E1A E1n E1c] from rfl) _ _ (Bk.new _ _ _) an_sz rfl (by simp [Value.oneCell']) ?_))
  try rw [World.setRow_alloc_new]
  have KS := K.size
  have H_l := H.lt
  have G_l := G.lt
  have J_l := J.lt
  replace H := H.alloc (.cells #[.int .i64 v.2.1, .int .u32 v.2.2.1, .bool v.2.2.2.1, .slice D1A D1n D1c, .slice E1A E1n E1c] 34)
  replace G := G.alloc (.cells #[.int .i64 v.2.1, .int .u32 v.2.2.1, .bool v.2.2.2.1, .slice D1A D1n D1c, .slice E1A E1n E1c] 34)
  replace J := J.alloc (.cells #[.int .i64 v.2.1, .int .u32 v.2.2.1, .bool v.2.2.2.1, .slice D1A D1n D1c, .slice E1A E1n E1c] 34)
  replace hL := hL.below (below_alloc _ (.cells #[.int .i64 v.2.1, .int .u32 v.2.2.1, .bool v.2.2.2.1, .slice D1A D1n D1c, .slice E1A E1n E1c] 34))
  replace h := h.below (below_alloc _ (.cells #[.int .i64 v.2.1, .int .u32 v.2.2.1, .bool v.2.2.2.1, .slice D1A D1n D1c, .slice E1A E1n E1c] 34))
  replace hs := hs.below (below_alloc _ (.cells #[.int .i64 v.2.1, .int .u32 v.2.2.1, .bool v.2.2.2.1, .slice D1A D1n D1c, .slice E1A E1n E1c] 34))
  replace hy := hy.below (below_alloc _ (.cells #[.int .i64 v.2.1, .int .u32 v.2.2.1, .bool v.2.2.2.1, .slice D1A D1n D1c, .slice E1A E1n E1c] 34))
  replace hA := hA.below (below_alloc _ (.cells #[.int .i64 v.2.1, .int .u32 v.2.2.1, .bool v.2.2.2.1, .slice D1A D1n D1c, .slice E1A E1n E1c] 34))
  replace hE := hE.below (below_alloc _ (.cells #[.int .i64 v.2.1, .int .u32 v.2.2.1, .bool v.2.2.2.1, .slice D1A D1n D1c, .slice E1A E1n E1c] 34))
  replace N1 := N1.below (below_alloc _ (.cells #[.int .i64 v.2.1, .int .u32 v.2.2.1, .bool v.2.2.2.1, .slice D1A D1n D1c, .slice E1A E1n E1c] 34))
  replace N2 := N2.below (below_alloc _ (.cells #[.int .i64 v.2.1, .int .u32 v.2.2.1, .bool v.2.2.2.1, .slice D1A D1n D1c, .slice E1A E1n E1c] 34))
  replace V1 := V1.below (below_alloc _ (.cells #[.int .i64 v.2.1, .int .u32 v.2.2.1, .bool v.2.2.2.1, .slice D1A D1n D1c, .slice E1A E1n E1c] 34))
  replace D1 := D1.below (below_alloc _ (.cells #[.int .i64 v.2.1, .int .u32 v.2.2.1, .bool v.2.2.2.1, .slice D1A D1n D1c, .slice E1A E1n E1c] 34))
  replace E1 := E1.below (below_alloc _ (.cells #[.int .i64 v.2.1, .int .u32 v.2.2.1, .bool v.2.2.2.1, .slice D1A D1n D1c, .slice E1A E1n E1c] 34))
  replace K := Below.then_ K (below_alloc _ (.cells #[.int .i64 v.2.1, .int .u32 v.2.2.1, .bool v.2.2.2.1, .slice D1A D1n D1c, .slice E1A E1n E1c] 34))
  have Y := Bk.new (w8) #[.int .i64 v.2.1, .int .u32 v.2.2.1, .bool v.2.2.2.1, .slice D1A D1n D1c, .slice E1A E1n E1c] 34
  try simp only [World.size_alloc] at Y
  generalize (w8).alloc (.cells #[.int .i64 v.2.1, .int .u32 v.2.2.1, .bool v.2.2.2.1, .slice D1A D1n D1c, .slice E1A E1n E1c] 34) = w9 at H G J Y hL h hs hy hA hE N1 N2 V1 D1 E1 K ⊢
  generalize hgY : w8.heap.size = gY at Y ⊢
  have Y_b : w.heap.size ≤ gY := by omega
  have ne_H_Y : gH ≠ gY := by omega
  have ne_G_Y : gG ≠ gY := by omega
  have ne_J_Y : gJ ≠ gY := by omega
  clear KS hgY H_l G_l J_l
  have T1 := rsome_any (k := k) (sh := sh) (wo := wo) (qu := qu) (tr := tr) ha hM h hn hs hm hx.out hX hy hq hw.out
  rw [hv1.out] at T1
  replace T1 := Lib.hid T1
  have H_0 := H.at_ (v := .int .u32 (a : Int)) 0 rfl
  have H_1 := H.at_ (v := .int .i64 p) 1 rfl
  have H_2 := H.at_ (v := .slice A n c) 2 rfl
  have H_3 := H.at_ (v := .int .i64 sh) 3 rfl
  have H_4 := H.at_ (v := .int .i64 wo) 4 rfl
  have H_5 := H.at_ (v := .int .i64 qu) 5 rfl
  have H_6 := H.at_ (v := .int .i64 tr) 6 rfl
  have H_z := H.lt
  have G_0 := G.at_ (v := .int .i64 k) 0 rfl
  have G_1 := G.at_ (v := .int .u32 (X : Int)) 1 rfl
  have G_2 := G.at_ (v := .slice C q f) 2 rfl
  have G_z := G.lt
  go_wp2_with fail
  refine (T1.out).mono ?_
  clear H_0 H_1 H_2 H_3 H_4 H_5 H_6 H_z
  clear G_0 G_1 G_2 G_z
  rintro e w10 ⟨V2A, V2n, V2c, D2A, D2n, D2c, E2A, E2n, E2c, rfl, V2, hav, D2, E2, K'⟩
  clear hav 
  replace H := H.below K'
  replace G := G.below K'
  replace J := J.below K'
  replace Y := Y.below K'
  replace hL := hL.below K'
  replace h := h.below K'
  replace hs := hs.below K'
  replace hy := hy.below K'
  replace hA := hA.below K'
  replace hE := hE.below K'
  replace N1 := N1.below K'
  replace N2 := N2.below K'
  replace V1 := V1.below K'
  replace D1 := D1.below K'
  replace E1 := E1.below K'
  replace K := Below.then_ K K'
  clear K'
  clear T1
  go_upto_region 7 with (first | (refine wpList_store_row rfl 34 (.tmp 16) (.tmp 65) rfl _ _ rfl (show _ = Value.agg #[.int .i64 v.2.1, .int .u32 v.2.2.1, .bool v.2.2.2.1, .slice D2A D2n D2c, .slice E2A E2n E2c] from rfl) _ _ (Bk.new _ _ _) an_sz rfl (by simp [Value.oneCell']) ?_))
  try rw [World.setRow_alloc_new]
  have KS := K.size
  have H_l := H.lt
  have G_l := G.lt
  have J_l := J.lt
  have Y_l := Y.lt
  replace H := H.alloc (.cells #[.int .i64 v.2.1, .int .u32 v.2.2.1, .bool v.2.2.2.1, .slice D2A D2n D2c, .slice E2A E2n E2c] 34)
  replace G := G.alloc (.cells #[.int .i64 v.2.1, .int .u32 v.2.2.1, .bool v.2.2.2.1, .slice D2A D2n D2c, .slice E2A E2n E2c] 34)
  replace J := J.alloc (.cells #[.int .i64 v.2.1, .int .u32 v.2.2.1, .bool v.2.2.2.1, .slice D2A D2n D2c, .slice E2A E2n E2c] 34)
  replace Y := Y.alloc (.cells #[.int .i64 v.2.1, .int .u32 v.2.2.1, .bool v.2.2.2.1, .slice D2A D2n D2c, .slice E2A E2n E2c] 34)
  replace hL := hL.below (below_alloc _ (.cells #[.int .i64 v.2.1, .int .u32 v.2.2.1, .bool v.2.2.2.1, .slice D2A D2n D2c, .slice E2A E2n E2c] 34))
  replace h := h.below (below_alloc _ (.cells #[.int .i64 v.2.1, .int .u32 v.2.2.1, .bool v.2.2.2.1, .slice D2A D2n D2c, .slice E2A E2n E2c] 34))
  replace hs := hs.below (below_alloc _ (.cells #[.int .i64 v.2.1, .int .u32 v.2.2.1, .bool v.2.2.2.1, .slice D2A D2n D2c, .slice E2A E2n E2c] 34))
  replace hy := hy.below (below_alloc _ (.cells #[.int .i64 v.2.1, .int .u32 v.2.2.1, .bool v.2.2.2.1, .slice D2A D2n D2c, .slice E2A E2n E2c] 34))
  replace hA := hA.below (below_alloc _ (.cells #[.int .i64 v.2.1, .int .u32 v.2.2.1, .bool v.2.2.2.1, .slice D2A D2n D2c, .slice E2A E2n E2c] 34))
  replace hE := hE.below (below_alloc _ (.cells #[.int .i64 v.2.1, .int .u32 v.2.2.1, .bool v.2.2.2.1, .slice D2A D2n D2c, .slice E2A E2n E2c] 34))
  replace N1 := N1.below (below_alloc _ (.cells #[.int .i64 v.2.1, .int .u32 v.2.2.1, .bool v.2.2.2.1, .slice D2A D2n D2c, .slice E2A E2n E2c] 34))
  replace N2 := N2.below (below_alloc _ (.cells #[.int .i64 v.2.1, .int .u32 v.2.2.1, .bool v.2.2.2.1, .slice D2A D2n D2c, .slice E2A E2n E2c] 34))
  replace V1 := V1.below (below_alloc _ (.cells #[.int .i64 v.2.1, .int .u32 v.2.2.1, .bool v.2.2.2.1, .slice D2A D2n D2c, .slice E2A E2n E2c] 34))
  replace D1 := D1.below (below_alloc _ (.cells #[.int .i64 v.2.1, .int .u32 v.2.2.1, .bool v.2.2.2.1, .slice D2A D2n D2c, .slice E2A E2n E2c] 34))
  replace E1 := E1.below (below_alloc _ (.cells #[.int .i64 v.2.1, .int .u32 v.2.2.1, .bool v.2.2.2.1, .slice D2A D2n D2c, .slice E2A E2n E2c] 34))
  replace V2 := V2.below (below_alloc _ (.cells #[.int .i64 v.2.1, .int .u32 v.2.2.1, .bool v.2.2.2.1, .slice D2A D2n D2c, .slice E2A E2n E2c] 34))
  replace D2 := D2.below (below_alloc _ (.cells #[.int .i64 v.2.1, .int .u32 v.2.2.1, .bool v.2.2.2.1, .slice D2A D2n D2c, .slice E2A E2n E2c] 34))
  replace E2 := E2.below (below_alloc _ (.cells #[.int .i64 v.2.1, .int .u32 v.2.2.1, .bool v.2.2.2.1, .slice D2A D2n D2c, .slice E2A E2n E2c] 34))
  replace K := Below.then_ K (below_alloc _ (.cells #[.int .i64 v.2.1, .int .u32 v.2.2.1, .bool v.2.2.2.1, .slice D2A D2n D2c, .slice E2A E2n E2c] 34))
  have Z := Bk.new (w10) #[.int .i64 v.2.1, .int .u32 v.2.2.1, .bool v.2.2.2.1, .slice D2A D2n D2c, .slice E2A E2n E2c] 34
  try simp only [World.size_alloc] at Z
  generalize (w10).alloc (.cells #[.int .i64 v.2.1, .int .u32 v.2.2.1, .bool v.2.2.2.1, .slice D2A D2n D2c, .slice E2A E2n E2c] 34) = w11 at H G J Y Z hL h hs hy hA hE N1 N2 V1 D1 E1 V2 D2 E2 K ⊢
  generalize hgZ : w10.heap.size = gZ at Z ⊢
  have Z_b : w.heap.size ≤ gZ := by omega
  have ne_H_Z : gH ≠ gZ := by omega
  have ne_G_Z : gG ≠ gZ := by omega
  have ne_J_Z : gJ ≠ gZ := by omega
  have ne_Y_Z : gY ≠ gZ := by omega
  clear KS hgZ H_l G_l J_l Y_l
  have c1 : N1n ≤ 65536 := by have h1 := N1.len; have h2 := hfew.out; omega
  have c2 : V1n ≤ 65536 := by have h1 := V1.len; have h2 := hfew2.out; omega
  have c3 : D1n ≤ 65536 ∧ E1n ≤ 65536 := by have h1 := D1.len; have h2 := E1.len; have h3 := hlen.out; omega
  have c4 : D2n ≤ 65536 ∧ E2n ≤ 65536 := by have h1 := D2.len; have h2 := E2.len; have h3 := hlen.out; omega
  obtain ⟨c5, c6⟩ := c3
  obtain ⟨c7, c8⟩ := c4
  clear hml hql
  go_wp2
  refine wp_region_held_drew (S := fun w' => Below w.heap.size w w' ∧ Bk w' gH 27 #[.int .u32 (a : Int), .int .i64 p, .slice A n c, .int .i64 sh, .int .i64 wo, .int .i64 qu, .int .i64 tr] ∧ Bk w' gG 30 #[.int .i64 k, .int .u32 (X : Int), .slice C q f] ∧ Bk w' gJ 34 #[.int .i64 x.1, .int .u32 x.2.1, .bool x.2.2.1, .slice P p1 p2, .slice Q q1 q2] ∧ Bk w' gY 34 #[.int .i64 v.2.1, .int .u32 v.2.2.1, .bool v.2.2.2.1, .slice D1A D1n D1c, .slice E1A E1n E1c] ∧ Bk w' gZ 34 #[.int .i64 v.2.1, .int .u32 v.2.2.1, .bool v.2.2.2.1, .slice D2A D2n D2c, .slice E2A E2n E2c] ∧ True) (by kernel_rfl) ⟨K.drew, H.below ((Below.refl _ _).drew), G.below ((Below.refl _ _).drew), J.below ((Below.refl _ _).drew), Y.below ((Below.refl _ _).drew), Z.below ((Below.refl _ _).drew), trivial⟩ (fun hHeld => ?_)
  replace N1 := N1.below ((Below.refl _ _).drew)
  replace N2 := N2.below ((Below.refl _ _).drew)
  replace V1 := V1.below ((Below.refl _ _).drew)
  replace D1 := D1.below ((Below.refl _ _).drew)
  replace E1 := E1.below ((Below.refl _ _).drew)
  replace V2 := V2.below ((Below.refl _ _).drew)
  replace D2 := D2.below ((Below.refl _ _).drew)
  replace E2 := E2.below ((Below.refl _ _).drew)
  generalize w11.drew = v12 at hHeld N1 N2 V1 D1 E1 V2 D2 E2 ⊢
  refine wpAnyH_take (i := 0) (oi := ⟨some 66, _, _, _, _, _⟩) (v := ?_) rfl (by kernel_rfl) (by kernel_rfl) (by kernel_rfl) (fun _ _ _ h => h) (Or.inl ⟨by rfl, ?_⟩) hHeld ?_
  rotate_left
  · intro ww hSw
    try dsimp only at hSw
    go_simp
    try with_reducible rfl
    try omega
  try simp only [Act.put, List.setIfInBounds_toArray, List.set_cons_zero, List.set_cons_succ]
  refine wpAnyH_take (i := 1) (oi := ⟨some 67, _, _, _, _, _⟩) (v := ?_) rfl (by kernel_rfl) (by kernel_rfl) (by kernel_rfl) (fun _ _ _ h => h) (Or.inl ⟨by rfl, ?_⟩) hHeld ?_
  rotate_left
  · intro ww hSw
    try dsimp only at hSw
    go_simp
    try with_reducible rfl
    try omega
  try simp only [Act.put, List.setIfInBounds_toArray, List.set_cons_zero, List.set_cons_succ]
  refine wpAnyH_ready (rs := [2]) (by kernel_rfl) (by simp) ?_
  refine AllReadyH.cons (o := ⟨some 68, _, _, _, _, _⟩) rfl (fun K0 hK => ?_) AllReadyH.nil
  go_simp
  refine (ints_same N1 N2 c1).mono ?_
  rintro e v13 ⟨rfl, K'⟩
  refine hK.out _ _ ⟨Below.then_ hHeld.1 K', hHeld.2.1.below K', hHeld.2.2.1.below K', hHeld.2.2.2.1.below K', hHeld.2.2.2.2.1.below K', hHeld.2.2.2.2.2.1.below K', trivial⟩ (fun hHeld' => ?_)
  replace N1 := N1.below K'
  replace N2 := N2.below K'
  replace V1 := V1.below K'
  replace D1 := D1.below K'
  replace E1 := E1.below K'
  replace V2 := V2.below K'
  replace D2 := D2.below K'
  replace E2 := E2.below K'
  clear hHeld K' hK K0
  have hHeld := hHeld'
  clear hHeld'
  try simp only [Act.put, List.setIfInBounds_toArray, List.set_cons_zero, List.set_cons_succ]
  refine wpAnyH_take (i := 3) (oi := ⟨some 69, _, _, _, _, _⟩) (v := .bool true) rfl (by kernel_rfl) (by kernel_rfl) (by kernel_rfl) (fun _ _ _ h => h) (Or.inl ⟨by rfl, ?_⟩) hHeld ?_
  · intro ww hSw
    try dsimp only at hSw
    go_simp
    try with_reducible rfl
    try omega
  try simp only [Act.put, List.setIfInBounds_toArray, List.set_cons_zero, List.set_cons_succ]
  refine wpAnyH_take (i := 4) (oi := ⟨some 70, _, _, _, _, _⟩) (v := ?_) rfl (by kernel_rfl) (by kernel_rfl) (by kernel_rfl) (fun _ _ _ h => h) (Or.inl ⟨by rfl, ?_⟩) hHeld ?_
  rotate_left
  · intro ww hSw
    try dsimp only at hSw
    go_simp
    try with_reducible rfl
    try omega
  try simp only [Act.put, List.setIfInBounds_toArray, List.set_cons_zero, List.set_cons_succ]
  refine wpAnyH_take (i := 5) (oi := ⟨some 71, _, _, _, _, _⟩) (v := ?_) rfl (by kernel_rfl) (by kernel_rfl) (by kernel_rfl) (fun _ _ _ h => h) (Or.inl ⟨by rfl, ?_⟩) hHeld ?_
  rotate_left
  · intro ww hSw
    try dsimp only at hSw
    go_simp
    try with_reducible rfl
    try omega
  try simp only [Act.put, List.setIfInBounds_toArray, List.set_cons_zero, List.set_cons_succ]
  refine wpAnyH_take (i := 6) (oi := ⟨some 72, _, _, _, _, _⟩) (v := .bool true) rfl (by kernel_rfl) (by kernel_rfl) (by kernel_rfl) (fun _ _ _ h => h) (Or.inl ⟨by rfl, ?_⟩) hHeld ?_
  · intro ww hSw
    try dsimp only at hSw
    go_simp
    try with_reducible rfl
    try omega
  try simp only [Act.put, List.setIfInBounds_toArray, List.set_cons_zero, List.set_cons_succ]
  refine wpAnyH_take (i := 7) (oi := ⟨some 73, _, _, _, _, _⟩) (v := ?_) rfl (by kernel_rfl) (by kernel_rfl) (by kernel_rfl) (fun _ _ _ h => h) (Or.inl ⟨by rfl, ?_⟩) hHeld ?_
  rotate_left
  · intro ww hSw
    try dsimp only at hSw
    go_simp
    try with_reducible rfl
    try omega
  try simp only [Act.put, List.setIfInBounds_toArray, List.set_cons_zero, List.set_cons_succ]
  refine wpAnyH_take (i := 8) (oi := ⟨some 74, _, _, _, _, _⟩) (v := .bool true) rfl (by kernel_rfl) (by kernel_rfl) (by kernel_rfl) (fun _ _ _ h => h) (Or.inl ⟨by rfl, ?_⟩) hHeld ?_
  · intro ww hSw
    try dsimp only at hSw
    go_simp
    try with_reducible rfl
    try omega
  try simp only [Act.put, List.setIfInBounds_toArray, List.set_cons_zero, List.set_cons_succ]
  refine wpAnyH_take (i := 9) (oi := ⟨some 75, _, _, _, _, _⟩) (v := ?_) rfl (by kernel_rfl) (by kernel_rfl) (by kernel_rfl) (fun _ _ _ h => h) (Or.inl ⟨by rfl, ?_⟩) hHeld ?_
  rotate_left
  · intro ww hSw
    try dsimp only at hSw
    go_simp
    try with_reducible rfl
    try omega
  try simp only [Act.put, List.setIfInBounds_toArray, List.set_cons_zero, List.set_cons_succ]
  refine wpAnyH_take (i := 10) (oi := ⟨some 76, _, _, _, _, _⟩) (v := ?_) rfl (by kernel_rfl) (by kernel_rfl) (by kernel_rfl) (fun _ _ _ h => h) (Or.inl ⟨by rfl, ?_⟩) hHeld ?_
  rotate_left
  · intro ww hSw
    try dsimp only at hSw
    go_simp
    try with_reducible rfl
    try omega
  try simp only [Act.put, List.setIfInBounds_toArray, List.set_cons_zero, List.set_cons_succ]
  refine wpAnyH_ready (rs := [11]) (by kernel_rfl) (by simp) ?_
  refine AllReadyH.cons (o := ⟨some 77, _, _, _, _, _⟩) rfl (fun K0 hK => ?_) AllReadyH.nil
  go_simp
  refine (ints_same V1 V2 c2).mono ?_
  rintro e v14 ⟨rfl, K'⟩
  refine hK.out _ _ ⟨Below.then_ hHeld.1 K', hHeld.2.1.below K', hHeld.2.2.1.below K', hHeld.2.2.2.1.below K', hHeld.2.2.2.2.1.below K', hHeld.2.2.2.2.2.1.below K', trivial⟩ (fun hHeld' => ?_)
  replace N1 := N1.below K'
  replace N2 := N2.below K'
  replace V1 := V1.below K'
  replace D1 := D1.below K'
  replace E1 := E1.below K'
  replace V2 := V2.below K'
  replace D2 := D2.below K'
  replace E2 := E2.below K'
  clear hHeld K' hK K0
  have hHeld := hHeld'
  clear hHeld'
  try simp only [Act.put, List.setIfInBounds_toArray, List.set_cons_zero, List.set_cons_succ]
  refine wpAnyH_take (i := 12) (oi := ⟨some 78, _, _, _, _, _⟩) (v := ?_) rfl (by kernel_rfl) (by kernel_rfl) (by kernel_rfl) (fun _ _ _ h => h) (Or.inl ⟨by rfl, ?_⟩) hHeld ?_
  rotate_left
  · intro ww hSw
    try dsimp only at hSw
    go_simp
    try with_reducible rfl
    try omega
  try simp only [Act.put, List.setIfInBounds_toArray, List.set_cons_zero, List.set_cons_succ]
  refine wpAnyH_take (i := 13) (oi := ⟨some 79, _, _, _, _, _⟩) (v := .bool true) rfl (by kernel_rfl) (by kernel_rfl) (by kernel_rfl) (fun _ _ _ h => h) (Or.inl ⟨by rfl, ?_⟩) hHeld ?_
  · intro ww hSw
    try dsimp only at hSw
    go_simp
    try with_reducible rfl
    try omega
  try simp only [Act.put, List.setIfInBounds_toArray, List.set_cons_zero, List.set_cons_succ]
  refine wpAnyH_take (i := 14) (oi := ⟨some 80, _, _, _, _, _⟩) (v := ?_) rfl (by kernel_rfl) (by kernel_rfl) (by kernel_rfl) (fun _ _ _ h => h) (Or.inl ⟨by rfl, ?_⟩) hHeld ?_
  rotate_left
  · intro ww hSw
    try dsimp only at hSw
    have J_0 := (hSw.2.2.2.1).at_ (v := .int .i64 x.1) 0 rfl
    have J_1 := (hSw.2.2.2.1).at_ (v := .int .u32 x.2.1) 1 rfl
    have J_2 := (hSw.2.2.2.1).at_ (v := .bool x.2.2.1) 2 rfl
    have J_3 := (hSw.2.2.2.1).at_ (v := .slice P p1 p2) 3 rfl
    have J_4 := (hSw.2.2.2.1).at_ (v := .slice Q q1 q2) 4 rfl
    have J_z := (hSw.2.2.2.1).lt
    have Y_0 := (hSw.2.2.2.2.1).at_ (v := .int .i64 v.2.1) 0 rfl
    have Y_1 := (hSw.2.2.2.2.1).at_ (v := .int .u32 v.2.2.1) 1 rfl
    have Y_2 := (hSw.2.2.2.2.1).at_ (v := .bool v.2.2.2.1) 2 rfl
    have Y_3 := (hSw.2.2.2.2.1).at_ (v := .slice D1A D1n D1c) 3 rfl
    have Y_4 := (hSw.2.2.2.2.1).at_ (v := .slice E1A E1n E1c) 4 rfl
    have Y_z := (hSw.2.2.2.2.1).lt
    have Z_0 := (hSw.2.2.2.2.2.1).at_ (v := .int .i64 v.2.1) 0 rfl
    have Z_1 := (hSw.2.2.2.2.2.1).at_ (v := .int .u32 v.2.2.1) 1 rfl
    have Z_2 := (hSw.2.2.2.2.2.1).at_ (v := .bool v.2.2.2.1) 2 rfl
    have Z_3 := (hSw.2.2.2.2.2.1).at_ (v := .slice D2A D2n D2c) 3 rfl
    have Z_4 := (hSw.2.2.2.2.2.1).at_ (v := .slice E2A E2n E2c) 4 rfl
    have Z_z := (hSw.2.2.2.2.2.1).lt
    go_simp
    try with_reducible rfl
    try omega
  try simp only [Act.put, List.setIfInBounds_toArray, List.set_cons_zero, List.set_cons_succ]
  refine wpAnyH_take (i := 15) (oi := ⟨some 81, _, _, _, _, _⟩) (v := ?_) rfl (by kernel_rfl) (by kernel_rfl) (by kernel_rfl) (fun _ _ _ h => h) (Or.inl ⟨by rfl, ?_⟩) hHeld ?_
  rotate_left
  · intro ww hSw
    try dsimp only at hSw
    have J_0 := (hSw.2.2.2.1).at_ (v := .int .i64 x.1) 0 rfl
    have J_1 := (hSw.2.2.2.1).at_ (v := .int .u32 x.2.1) 1 rfl
    have J_2 := (hSw.2.2.2.1).at_ (v := .bool x.2.2.1) 2 rfl
    have J_3 := (hSw.2.2.2.1).at_ (v := .slice P p1 p2) 3 rfl
    have J_4 := (hSw.2.2.2.1).at_ (v := .slice Q q1 q2) 4 rfl
    have J_z := (hSw.2.2.2.1).lt
    have Y_0 := (hSw.2.2.2.2.1).at_ (v := .int .i64 v.2.1) 0 rfl
    have Y_1 := (hSw.2.2.2.2.1).at_ (v := .int .u32 v.2.2.1) 1 rfl
    have Y_2 := (hSw.2.2.2.2.1).at_ (v := .bool v.2.2.2.1) 2 rfl
    have Y_3 := (hSw.2.2.2.2.1).at_ (v := .slice D1A D1n D1c) 3 rfl
    have Y_4 := (hSw.2.2.2.2.1).at_ (v := .slice E1A E1n E1c) 4 rfl
    have Y_z := (hSw.2.2.2.2.1).lt
    have Z_0 := (hSw.2.2.2.2.2.1).at_ (v := .int .i64 v.2.1) 0 rfl
    have Z_1 := (hSw.2.2.2.2.2.1).at_ (v := .int .u32 v.2.2.1) 1 rfl
    have Z_2 := (hSw.2.2.2.2.2.1).at_ (v := .bool v.2.2.2.1) 2 rfl
    have Z_3 := (hSw.2.2.2.2.2.1).at_ (v := .slice D2A D2n D2c) 3 rfl
    have Z_4 := (hSw.2.2.2.2.2.1).at_ (v := .slice E2A E2n E2c) 4 rfl
    have Z_z := (hSw.2.2.2.2.2.1).lt
    go_simp
    try with_reducible rfl
    try omega
  try simp only [Act.put, List.setIfInBounds_toArray, List.set_cons_zero, List.set_cons_succ]
  refine wpAnyH_ready (rs := [16]) (by kernel_rfl) (by simp) ?_
  refine AllReadyH.cons (o := ⟨some 82, _, _, _, _, _⟩) rfl (fun K0 hK => ?_) AllReadyH.nil
  go_simp
  refine (answers_is (x := v.2) (y := v.2) D1 E1 D2 E2 c5 c6 c7 c8 (decide_eq_true rfl)).mono ?_
  rintro e v15 ⟨rfl, K'⟩
  refine hK.out _ _ ⟨Below.then_ hHeld.1 K', hHeld.2.1.below K', hHeld.2.2.1.below K', hHeld.2.2.2.1.below K', hHeld.2.2.2.2.1.below K', hHeld.2.2.2.2.2.1.below K', trivial⟩ (fun hHeld' => ?_)
  replace N1 := N1.below K'
  replace N2 := N2.below K'
  replace V1 := V1.below K'
  replace D1 := D1.below K'
  replace E1 := E1.below K'
  replace V2 := V2.below K'
  replace D2 := D2.below K'
  replace E2 := E2.below K'
  clear hHeld K' hK K0
  have hHeld := hHeld'
  clear hHeld'
  try simp only [Act.put, List.setIfInBounds_toArray, List.set_cons_zero, List.set_cons_succ]
  refine wpAnyH_take (i := 17) (oi := ⟨some 83, _, _, _, _, _⟩) (v := ?_) rfl (by kernel_rfl) (by kernel_rfl) (by kernel_rfl) (fun _ _ _ h => h) (Or.inl ⟨by rfl, ?_⟩) hHeld ?_
  rotate_left
  · intro ww hSw
    try dsimp only at hSw
    go_simp
    try with_reducible rfl
    try omega
  try simp only [Act.put, List.setIfInBounds_toArray, List.set_cons_zero, List.set_cons_succ]
  refine wpAnyH_take (i := 18) (oi := ⟨some 84, _, _, _, _, _⟩) (v := .bool true) rfl (by kernel_rfl) (by kernel_rfl) (by kernel_rfl) (fun _ _ _ h => h) (Or.inl ⟨by rfl, ?_⟩) hHeld ?_
  · intro ww hSw
    try dsimp only at hSw
    go_simp
    try with_reducible rfl
    try omega
  try simp only [Act.put, List.setIfInBounds_toArray, List.set_cons_zero, List.set_cons_succ]
  refine wpAnyH_take (i := 19) (oi := ⟨some 85, _, _, _, _, _⟩) (v := ?_) rfl (by kernel_rfl) (by kernel_rfl) (by kernel_rfl) (fun _ _ _ h => h) (Or.inl ⟨by rfl, ?_⟩) hHeld ?_
  rotate_left
  · intro ww hSw
    try dsimp only at hSw
    have J_0 := (hSw.2.2.2.1).at_ (v := .int .i64 x.1) 0 rfl
    have J_1 := (hSw.2.2.2.1).at_ (v := .int .u32 x.2.1) 1 rfl
    have J_2 := (hSw.2.2.2.1).at_ (v := .bool x.2.2.1) 2 rfl
    have J_3 := (hSw.2.2.2.1).at_ (v := .slice P p1 p2) 3 rfl
    have J_4 := (hSw.2.2.2.1).at_ (v := .slice Q q1 q2) 4 rfl
    have J_z := (hSw.2.2.2.1).lt
    have Y_0 := (hSw.2.2.2.2.1).at_ (v := .int .i64 v.2.1) 0 rfl
    have Y_1 := (hSw.2.2.2.2.1).at_ (v := .int .u32 v.2.2.1) 1 rfl
    have Y_2 := (hSw.2.2.2.2.1).at_ (v := .bool v.2.2.2.1) 2 rfl
    have Y_3 := (hSw.2.2.2.2.1).at_ (v := .slice D1A D1n D1c) 3 rfl
    have Y_4 := (hSw.2.2.2.2.1).at_ (v := .slice E1A E1n E1c) 4 rfl
    have Y_z := (hSw.2.2.2.2.1).lt
    have Z_0 := (hSw.2.2.2.2.2.1).at_ (v := .int .i64 v.2.1) 0 rfl
    have Z_1 := (hSw.2.2.2.2.2.1).at_ (v := .int .u32 v.2.2.1) 1 rfl
    have Z_2 := (hSw.2.2.2.2.2.1).at_ (v := .bool v.2.2.2.1) 2 rfl
    have Z_3 := (hSw.2.2.2.2.2.1).at_ (v := .slice D2A D2n D2c) 3 rfl
    have Z_4 := (hSw.2.2.2.2.2.1).at_ (v := .slice E2A E2n E2c) 4 rfl
    have Z_z := (hSw.2.2.2.2.2.1).lt
    go_simp
    try with_reducible rfl
    try omega
  try simp only [Act.put, List.setIfInBounds_toArray, List.set_cons_zero, List.set_cons_succ]
  refine wpAnyH_take (i := 20) (oi := ⟨some 86, _, _, _, _, _⟩) (v := ?_) rfl (by kernel_rfl) (by kernel_rfl) (by kernel_rfl) (fun _ _ _ h => h) (Or.inl ⟨by rfl, ?_⟩) hHeld ?_
  rotate_left
  · intro ww hSw
    try dsimp only at hSw
    have J_0 := (hSw.2.2.2.1).at_ (v := .int .i64 x.1) 0 rfl
    have J_1 := (hSw.2.2.2.1).at_ (v := .int .u32 x.2.1) 1 rfl
    have J_2 := (hSw.2.2.2.1).at_ (v := .bool x.2.2.1) 2 rfl
    have J_3 := (hSw.2.2.2.1).at_ (v := .slice P p1 p2) 3 rfl
    have J_4 := (hSw.2.2.2.1).at_ (v := .slice Q q1 q2) 4 rfl
    have J_z := (hSw.2.2.2.1).lt
    have Y_0 := (hSw.2.2.2.2.1).at_ (v := .int .i64 v.2.1) 0 rfl
    have Y_1 := (hSw.2.2.2.2.1).at_ (v := .int .u32 v.2.2.1) 1 rfl
    have Y_2 := (hSw.2.2.2.2.1).at_ (v := .bool v.2.2.2.1) 2 rfl
    have Y_3 := (hSw.2.2.2.2.1).at_ (v := .slice D1A D1n D1c) 3 rfl
    have Y_4 := (hSw.2.2.2.2.1).at_ (v := .slice E1A E1n E1c) 4 rfl
    have Y_z := (hSw.2.2.2.2.1).lt
    have Z_0 := (hSw.2.2.2.2.2.1).at_ (v := .int .i64 v.2.1) 0 rfl
    have Z_1 := (hSw.2.2.2.2.2.1).at_ (v := .int .u32 v.2.2.1) 1 rfl
    have Z_2 := (hSw.2.2.2.2.2.1).at_ (v := .bool v.2.2.2.1) 2 rfl
    have Z_3 := (hSw.2.2.2.2.2.1).at_ (v := .slice D2A D2n D2c) 3 rfl
    have Z_4 := (hSw.2.2.2.2.2.1).at_ (v := .slice E2A E2n E2c) 4 rfl
    have Z_z := (hSw.2.2.2.2.2.1).lt
    go_simp
    try with_reducible rfl
    try omega
  try simp only [Act.put, List.setIfInBounds_toArray, List.set_cons_zero, List.set_cons_succ]
  refine wpAnyH_take (i := 22) (oi := ⟨some 88, _, _, _, _, _⟩) (v := ?_) rfl (by kernel_rfl) (by kernel_rfl) (by kernel_rfl) (fun _ _ _ h => h) (Or.inl ⟨by rfl, ?_⟩) hHeld ?_
  rotate_left
  · intro ww hSw
    try dsimp only at hSw
    have J_0 := (hSw.2.2.2.1).at_ (v := .int .i64 x.1) 0 rfl
    have J_1 := (hSw.2.2.2.1).at_ (v := .int .u32 x.2.1) 1 rfl
    have J_2 := (hSw.2.2.2.1).at_ (v := .bool x.2.2.1) 2 rfl
    have J_3 := (hSw.2.2.2.1).at_ (v := .slice P p1 p2) 3 rfl
    have J_4 := (hSw.2.2.2.1).at_ (v := .slice Q q1 q2) 4 rfl
    have J_z := (hSw.2.2.2.1).lt
    have Y_0 := (hSw.2.2.2.2.1).at_ (v := .int .i64 v.2.1) 0 rfl
    have Y_1 := (hSw.2.2.2.2.1).at_ (v := .int .u32 v.2.2.1) 1 rfl
    have Y_2 := (hSw.2.2.2.2.1).at_ (v := .bool v.2.2.2.1) 2 rfl
    have Y_3 := (hSw.2.2.2.2.1).at_ (v := .slice D1A D1n D1c) 3 rfl
    have Y_4 := (hSw.2.2.2.2.1).at_ (v := .slice E1A E1n E1c) 4 rfl
    have Y_z := (hSw.2.2.2.2.1).lt
    have Z_0 := (hSw.2.2.2.2.2.1).at_ (v := .int .i64 v.2.1) 0 rfl
    have Z_1 := (hSw.2.2.2.2.2.1).at_ (v := .int .u32 v.2.2.1) 1 rfl
    have Z_2 := (hSw.2.2.2.2.2.1).at_ (v := .bool v.2.2.2.1) 2 rfl
    have Z_3 := (hSw.2.2.2.2.2.1).at_ (v := .slice D2A D2n D2c) 3 rfl
    have Z_4 := (hSw.2.2.2.2.2.1).at_ (v := .slice E2A E2n E2c) 4 rfl
    have Z_z := (hSw.2.2.2.2.2.1).lt
    go_simp
    try with_reducible rfl
    try omega
  try simp only [Act.put, List.setIfInBounds_toArray, List.set_cons_zero, List.set_cons_succ]
  refine wpAnyH_take (i := 23) (oi := ⟨some 89, _, _, _, _, _⟩) (v := ?_) rfl (by kernel_rfl) (by kernel_rfl) (by kernel_rfl) (fun _ _ _ h => h) (Or.inl ⟨by rfl, ?_⟩) hHeld ?_
  rotate_left
  · intro ww hSw
    try dsimp only at hSw
    have J_0 := (hSw.2.2.2.1).at_ (v := .int .i64 x.1) 0 rfl
    have J_1 := (hSw.2.2.2.1).at_ (v := .int .u32 x.2.1) 1 rfl
    have J_2 := (hSw.2.2.2.1).at_ (v := .bool x.2.2.1) 2 rfl
    have J_3 := (hSw.2.2.2.1).at_ (v := .slice P p1 p2) 3 rfl
    have J_4 := (hSw.2.2.2.1).at_ (v := .slice Q q1 q2) 4 rfl
    have J_z := (hSw.2.2.2.1).lt
    have Y_0 := (hSw.2.2.2.2.1).at_ (v := .int .i64 v.2.1) 0 rfl
    have Y_1 := (hSw.2.2.2.2.1).at_ (v := .int .u32 v.2.2.1) 1 rfl
    have Y_2 := (hSw.2.2.2.2.1).at_ (v := .bool v.2.2.2.1) 2 rfl
    have Y_3 := (hSw.2.2.2.2.1).at_ (v := .slice D1A D1n D1c) 3 rfl
    have Y_4 := (hSw.2.2.2.2.1).at_ (v := .slice E1A E1n E1c) 4 rfl
    have Y_z := (hSw.2.2.2.2.1).lt
    have Z_0 := (hSw.2.2.2.2.2.1).at_ (v := .int .i64 v.2.1) 0 rfl
    have Z_1 := (hSw.2.2.2.2.2.1).at_ (v := .int .u32 v.2.2.1) 1 rfl
    have Z_2 := (hSw.2.2.2.2.2.1).at_ (v := .bool v.2.2.2.1) 2 rfl
    have Z_3 := (hSw.2.2.2.2.2.1).at_ (v := .slice D2A D2n D2c) 3 rfl
    have Z_4 := (hSw.2.2.2.2.2.1).at_ (v := .slice E2A E2n E2c) 4 rfl
    have Z_z := (hSw.2.2.2.2.2.1).lt
    go_simp
    try with_reducible rfl
    try omega
  try simp only [Act.put, List.setIfInBounds_toArray, List.set_cons_zero, List.set_cons_succ]
  refine wpAnyH_ready (rs := [21]) (by kernel_rfl) (by simp) ?_
  refine AllReadyH.cons (o := ⟨some 87, _, _, _, _, _⟩) rfl (fun K0 hK => ?_) AllReadyH.nil
  go_simp
  refine (same_is (x := x) (y := v.2) (hA0.below hHeld.1) (hE0.below hHeld.1) D1 E1 (by omega) (by omega) c5 c6 hb0.out).mono ?_
  rintro e v16 ⟨rfl, K'⟩
  refine hK.out _ _ ⟨Below.then_ hHeld.1 K', hHeld.2.1.below K', hHeld.2.2.1.below K', hHeld.2.2.2.1.below K', hHeld.2.2.2.2.1.below K', hHeld.2.2.2.2.2.1.below K', trivial⟩ (fun hHeld' => ?_)
  replace N1 := N1.below K'
  replace N2 := N2.below K'
  replace V1 := V1.below K'
  replace D1 := D1.below K'
  replace E1 := E1.below K'
  replace V2 := V2.below K'
  replace D2 := D2.below K'
  replace E2 := E2.below K'
  clear hHeld K' hK K0
  have hHeld := hHeld'
  clear hHeld'
  try simp only [Act.put, List.setIfInBounds_toArray, List.set_cons_zero, List.set_cons_succ]
  refine wpAnyH_ready (rs := [24]) (by kernel_rfl) (by simp) ?_
  refine AllReadyH.cons (o := ⟨some 90, _, _, _, _, _⟩) rfl (fun K0 hK => ?_) AllReadyH.nil
  go_simp
  refine (answers_is (x := x) (y := v.2) (hA0.below hHeld.1) (hE0.below hHeld.1) D1 E1 (by omega) (by omega) c5 c6 hb0.out).mono ?_
  rintro e v17 ⟨rfl, K'⟩
  refine hK.out _ _ ⟨Below.then_ hHeld.1 K', hHeld.2.1.below K', hHeld.2.2.1.below K', hHeld.2.2.2.1.below K', hHeld.2.2.2.2.1.below K', hHeld.2.2.2.2.2.1.below K', trivial⟩ (fun hHeld' => ?_)
  replace N1 := N1.below K'
  replace N2 := N2.below K'
  replace V1 := V1.below K'
  replace D1 := D1.below K'
  replace E1 := E1.below K'
  replace V2 := V2.below K'
  replace D2 := D2.below K'
  replace E2 := E2.below K'
  clear hHeld K' hK K0
  have hHeld := hHeld'
  clear hHeld'
  try simp only [Act.put, List.setIfInBounds_toArray, List.set_cons_zero, List.set_cons_succ]
  refine wpAnyH_take (i := 25) (oi := ⟨some 91, _, _, _, _, _⟩) (v := .bool true) rfl (by kernel_rfl) (by kernel_rfl) (by kernel_rfl) (fun _ _ _ h => h) (Or.inl ⟨by rfl, ?_⟩) hHeld ?_
  · intro ww hSw
    try dsimp only at hSw
    go_simp
    try with_reducible rfl
    try omega
  try simp only [Act.put, List.setIfInBounds_toArray, List.set_cons_zero, List.set_cons_succ]
  refine wpAnyH_take (i := 26) (oi := ⟨some 92, _, _, _, _, _⟩) (v := ?_) rfl (by kernel_rfl) (by kernel_rfl) (by kernel_rfl) (fun _ _ _ h => h) (Or.inl ⟨by rfl, ?_⟩) hHeld ?_
  rotate_left
  · intro ww hSw
    try dsimp only at hSw
    go_simp
    try with_reducible rfl
    try omega
  try simp only [Act.put, List.setIfInBounds_toArray, List.set_cons_zero, List.set_cons_succ]
  refine wpAnyH_take (i := 27) (oi := ⟨some 8, _, _, _, _, _⟩) (v := ?_) rfl (by kernel_rfl) (by kernel_rfl) (by kernel_rfl) (fun _ _ _ h => h) (Or.inl ⟨by rfl, ?_⟩) hHeld ?_
  rotate_left
  · intro ww hSw
    try dsimp only at hSw
    go_simp
    try with_reducible rfl
    try omega
  try simp only [Act.put, List.setIfInBounds_toArray, List.set_cons_zero, List.set_cons_succ]
  refine wpAnyH_done (by kernel_rfl) ?_ _
  replace K := hHeld.1
  replace H := hHeld.2.1
  replace G := hHeld.2.2.1
  replace J := hHeld.2.2.2.1
  replace Y := hHeld.2.2.2.2.1
  replace Z := hHeld.2.2.2.2.2.1
  clear hHeld
  replace hL := hL0.below K
  replace h := h0.below K
  replace hs := hs0.below K
  replace hy := hy0.below K
  replace hA := hA0.below K
  replace hE := hE0.below K
  go_wp2
  go_ret
  exact ⟨rfl, K⟩
theorem walk (a p : Int) (A : Option Addr) (n c : Nat) (z : List Int) (sh wo qu tr : Int) (B : Option Addr) (m d : Nat) (zb : List Int) (k x : Int) (C : Option Addr) (q f : Nat) (y : List Int) (E D : Int) (U : Bool) (P : Option Addr) (p1 p2 : Nat) (g1 : List Int) (Q : Option Addr) (q1 q2 : Nat) (g2 : List Int) (w : World) (hL : Laid w) (wa : (Lit.int .u32 a).wf = true) (wr : IsRow .i64 w A n c z) (wb : IsRow .i64 w B m d zb) (wx : (Lit.int .u32 x).wf = true) (wy : IsRow .u32 w C q f y) (wd : (Lit.int .u32 D).wf = true) (w1 : IsRow .u32 w P p1 p2 g1) (w2 : IsRow .i64 w Q q1 q2 g2) :
    Calls Tryd.prog 3 #[.agg #[.int .u32 a, .int .i64 p, .slice A n c, .int .i64 sh, .int .i64 wo, .int .i64 qu, .int .i64 tr], .slice B m d, .agg #[.int .i64 k, .int .u32 x, .slice C q f], .agg #[.int .i64 E, .int .u32 D, .bool U, .slice P p1 p2, .slice Q q1 q2]] w fun e w' => e = .returned (.bool true) ∧ Below w.heap.size w w' := by
  obtain ⟨a, rfl, ha⟩ := wf_u32 wa
  obtain ⟨X, rfl, hX⟩ := wf_u32 wx
  obtain ⟨D, rfl, hD⟩ := wf_u32 wd
  obtain ⟨zs, h, _⟩ := IS.of_row wr
  obtain ⟨xs, hs, _⟩ := IS.of_row wb
  obtain ⟨ys, hy, hw⟩ := row_u32 wy
  obtain ⟨gs, hA, _⟩ := IS.of_row w1
  obtain ⟨es, hE, _⟩ := IS.of_row w2
  exact main (x := (E, (D : Int), U, gs, es)) hL ha h hs hy hX hw hA hE ⟨by show (0 : Int) ≤ (D : Int); omega, by show (D : Int) < 4294967296; omega⟩
end
end Go.Proofs.YtmakbmmnjbnfiaaDoor.specTells
