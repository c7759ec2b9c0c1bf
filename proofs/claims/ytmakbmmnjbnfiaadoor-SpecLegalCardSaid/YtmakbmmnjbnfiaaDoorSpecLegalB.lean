/-
  The walk of the law SpecLegal: the cases B.
-/
import Derived.Test.YtmakbmmnjbnfiaaDoorSpecLegalA
namespace Go.Proofs.YtmakbmmnjbnfiaaDoor.specLegal
open Go.RowKit
set_option linter.unusedVariables false
section
variable {w : World} {lo lo2 lo3 lo4 lo5 a m d q f X p1 p2 q1 q2 : Nat} {p sh wo qu tr k : Int} {A B C P Q : Option Addr} {n c : Nat} {zs xs ys : List Int} {x : An}
set_option maxRecDepth 100000 in
set_option maxHeartbeats 4000000 in
theorem main_B (hL0 : Laid w) (ha : a < 4294967296) (h0 : IS .i64 lo w A n c zs) (hs0 : IS .i64 lo2 w B m d xs) (hy0 : IS .u32 lo3 w C q f ys) (hX : X < 4294967296) (hw : W32 ys) (hA0 : IS .u32 lo4 w P p1 p2 x.2.2.2.1) (hE0 : IS .i64 lo5 w Q q1 q2 x.2.2.2.2) (hA1_ : 0 ≤ x.2.1 ∧ x.2.1 < 4294967296) (hx0 : x.1 = 0) (hk : k ≠ 5) :
    Calls Tryd.prog 4 #[.agg #[.int .u32 (a : Int), .int .i64 p, .slice A n c, .int .i64 sh, .int .i64 wo, .int .i64 qu, .int .i64 tr], .slice B m d, .agg #[.int .i64 k, .int .u32 (X : Int), .slice C q f], .agg #[.int .i64 x.1, .int .u32 x.2.1, .bool x.2.2.1, .slice P p1 p2, .slice Q q1 q2]] w (RetBo true w) := by
  have g0 : (x.1 != 0) = false := by simp [hx0]
  have g00 : (x.1 == 0) = true := by simp [hx0]
  have g5 : (k != 5) = true := by simp; omega
  replace hx0 := Lib.hid hx0
  replace hk := Lib.hid hk
  replace hw := Lib.hid hw
  have hA1 := Lib.hid hA1_
  clear hA1_
  have hL := hL0
  have h := h0
  have hs := hs0
  have hy := hy0
  have hA := hA0
  have hE := hE0
  have K := Below.refl w.heap.size w
  go_enter Tryd.func4, Tryd.ntmps4
  go_upto_region 1 with (fail)
  have KS := K.size
  replace hL := hL.below (below_alloc _ (.cells #[.int .u32 (a : Int), .int .i64 p, .slice A n c, .int .i64 sh, .int .i64 wo, .int .i64 qu, .int .i64 tr] 27))
  replace h := h.below (below_alloc _ (.cells #[.int .u32 (a : Int), .int .i64 p, .slice A n c, .int .i64 sh, .int .i64 wo, .int .i64 qu, .int .i64 tr] 27))
  replace hs := hs.below (below_alloc _ (.cells #[.int .u32 (a : Int), .int .i64 p, .slice A n c, .int .i64 sh, .int .i64 wo, .int .i64 qu, .int .i64 tr] 27))
  replace hy := hy.below (below_alloc _ (.cells #[.int .u32 (a : Int), .int .i64 p, .slice A n c, .int .i64 sh, .int .i64 wo, .int .i64 qu, .int .i64 tr] 27))
  replace hA := hA.below (below_alloc _ (.cells #[.int .u32 (a : Int), .int .i64 p, .slice A n c, .int .i64 sh, .int .i64 wo, .int .i64 qu, .int .i64 tr] 27))
  replace hE := hE.below (below_alloc _ (.cells #[.int .u32 (a : Int), .int .i64 p, .slice A n c, .int .i64 sh, .int .i64 wo, .int .i64 qu, .int .i64 tr] 27))
  replace K := Below.then_ K (below_alloc _ (.cells #[.int .u32 (a : Int), .int .i64 p, .slice A n c, .int .i64 sh, .int .i64 wo, .int .i64 qu, .int .i64 tr] 27))
  have H := Bk.new (w) #[.int .u32 (a : Int), .int .i64 p, .slice A n c, .int .i64 sh, .int .i64 wo, .int .i64 qu, .int .i64 tr] 27
  replace H := H.alloc (.cells #[.int .i64 k, .int .u32 (X : Int), .slice C q f] 30)
  replace hL := hL.below (below_alloc _ (.cells #[.int .i64 k, .int .u32 (X : Int), .slice C q f] 30))
  replace h := h.below (below_alloc _ (.cells #[.int .i64 k, .int .u32 (X : Int), .slice C q f] 30))
  replace hs := hs.below (below_alloc _ (.cells #[.int .i64 k, .int .u32 (X : Int), .slice C q f] 30))
  replace hy := hy.below (below_alloc _ (.cells #[.int .i64 k, .int .u32 (X : Int), .slice C q f] 30))
  replace hA := hA.below (below_alloc _ (.cells #[.int .i64 k, .int .u32 (X : Int), .slice C q f] 30))
  replace hE := hE.below (below_alloc _ (.cells #[.int .i64 k, .int .u32 (X : Int), .slice C q f] 30))
  replace K := Below.then_ K (below_alloc _ (.cells #[.int .i64 k, .int .u32 (X : Int), .slice C q f] 30))
  have G := Bk.new ((w).alloc (.cells #[.int .u32 (a : Int), .int .i64 p, .slice A n c, .int .i64 sh, .int .i64 wo, .int .i64 qu, .int .i64 tr] 27)) #[.int .i64 k, .int .u32 (X : Int), .slice C q f] 30
  replace H := H.alloc (.cells #[.int .i64 x.1, .int .u32 x.2.1, .bool x.2.2.1, .slice P p1 p2, .slice Q q1 q2] 34)
  replace G := G.alloc (.cells #[.int .i64 x.1, .int .u32 x.2.1, .bool x.2.2.1, .slice P p1 p2, .slice Q q1 q2] 34)
  replace hL := hL.below (below_alloc _ (.cells #[.int .i64 x.1, .int .u32 x.2.1, .bool x.2.2.1, .slice P p1 p2, .slice Q q1 q2] 34))
  replace h := h.below (below_alloc _ (.cells #[.int .i64 x.1, .int .u32 x.2.1, .bool x.2.2.1, .slice P p1 p2, .slice Q q1 q2] 34))
  replace hs := hs.below (below_alloc _ (.cells #[.int .i64 x.1, .int .u32 x.2.1, .bool x.2.2.1, .slice P p1 p2, .slice Q q1 q2] 34))
  replace hy := hy.below (below_alloc _ (.cells #[.int .i64 x.1, .int .u32 x.2.1, .bool x.2.2.1, .slice P p1 p2, .slice Q q1 q2] 34))
  replace hA := hA.below (below_alloc _ (.cells #[.int .i64 x.1, .int .u32 x.2.1, .bool x.2.2.1, .slice P p1 p2, .slice Q q1 q2] 34))
  replace hE := hE.below (below_alloc _ (.cells #[.int .i64 x.1, .int .u32 x.2.1, .bool x.2.2.1, .slice P p1 p2, .slice Q q1 q2] 34))
  replace K := Below.then_ K (below_alloc _ (.cells #[.int .i64 x.1, .int .u32 x.2.1, .bool x.2.2.1, .slice P p1 p2, .slice Q q1 q2] 34))
  have J := Bk.new (((w).alloc (.cells #[.int .u32 (a : Int), .int .i64 p, .slice A n c, .int .i64 sh, .int .i64 wo, .int .i64 qu, .int .i64 tr] 27)).alloc (.cells #[.int .i64 k, .int .u32 (X : Int), .slice C q f] 30)) #[.int .i64 x.1, .int .u32 x.2.1, .bool x.2.2.1, .slice P p1 p2, .slice Q q1 q2] 34
  try simp only [World.size_alloc] at H G J
  generalize (((w).alloc (.cells #[.int .u32 (a : Int), .int .i64 p, .slice A n c, .int .i64 sh, .int .i64 wo, .int .i64 qu, .int .i64 tr] 27)).alloc (.cells #[.int .i64 k, .int .u32 (X : Int), .slice C q f] 30)).alloc (.cells #[.int .i64 x.1, .int .u32 x.2.1, .bool x.2.2.1, .slice P p1 p2, .slice Q q1 q2] 34) = w1 at H G J hL h hs hy hA hE K ⊢
  generalize hgJ : w.heap.size + 1 + 1 = gJ at H G J ⊢
  generalize hgG : w.heap.size + 1 = gG at H G J ⊢
  generalize hgH : w.heap.size = gH at H G J ⊢
  have H_b : w.heap.size ≤ gH := by omega
  have G_b : w.heap.size ≤ gG := by omega
  have J_b : w.heap.size ≤ gJ := by omega
  have ne_H_G : gH ≠ gG := by omega
  have ne_H_J : gH ≠ gJ := by omega
  have ne_G_J : gG ≠ gJ := by omega
  clear KS hgH hgG hgJ 
  go_wp2_with fail
  refine (awake_any _ hL).mono ?_
  rintro e w2 ⟨rfl, K'⟩
  replace H := H.below K'
  replace G := G.below K'
  replace J := J.below K'
  replace hL := hL.below K'
  replace h := h.below K'
  replace hs := hs.below K'
  replace hy := hy.below K'
  replace hA := hA.below K'
  replace hE := hE.below K'
  replace K := Below.then_ K K'
  clear K'
  have H_0 := H.at_ (v := .int .u32 (a : Int)) 0 rfl
  have H_1 := H.at_ (v := .int .i64 p) 1 rfl
  have H_2 := H.at_ (v := .slice A n c) 2 rfl
  have H_3 := H.at_ (v := .int .i64 sh) 3 rfl
  have H_4 := H.at_ (v := .int .i64 wo) 4 rfl
  have H_5 := H.at_ (v := .int .i64 qu) 5 rfl
  have H_6 := H.at_ (v := .int .i64 tr) 6 rfl
  have H_z := H.lt
  go_wp2_with fail
  refine (fits11_any ha h hs).mono ?_
  rintro e w3 ⟨bo, rfl, hB_, K'⟩
  clear H_0 H_1 H_2 H_3 H_4 H_5 H_6 H_z
  replace H := H.below K'
  replace G := G.below K'
  replace J := J.below K'
  replace hL := hL.below K'
  replace h := h.below K'
  replace hs := hs.below K'
  replace hy := hy.below K'
  replace hA := hA.below K'
  replace hE := hE.below K'
  replace K := Below.then_ K K'
  clear K'
  rcases bo with _ | _
  · clear hB_
    go_wp2_with fail
    refine (awake_any _ hL).mono ?_
    rintro e w4 ⟨rfl, K'⟩
    replace H := H.below K'
    replace G := G.below K'
    replace J := J.below K'
    replace hL := hL.below K'
    replace h := h.below K'
    replace hs := hs.below K'
    replace hy := hy.below K'
    replace hA := hA.below K'
    replace hE := hE.below K'
    replace K := Below.then_ K K'
    clear K'
    go_wp2
    go_ret
    exact ⟨rfl, K⟩
  obtain ⟨M, hC, hM2, hm3, hx_⟩ := hB_ rfl
  clear hB_
  have hM := hC.much
  have hMm := hM.most
  have hn : n ≤ 65536 := by have := hC.few; omega
  have hris := Lib.hid hC.ris
  have hx := Lib.hid hx_
  have hr := Lib.hid (mayR_iff.1 hx_).1
  clear hx_ hC
  have hm : m ≤ 60000 := by omega
  have G_0 := G.at_ (v := .int .i64 k) 0 rfl
  have G_1 := G.at_ (v := .int .u32 (X : Int)) 1 rfl
  have G_2 := G.at_ (v := .slice C q f) 2 rfl
  have G_z := G.lt
  rcases Nat.lt_or_ge 100 q with hfG | hfG
  · go_wp2_with fail
    refine (few_no hy (Nat.not_le.2 hfG)).mono ?_
    rintro e w4 ⟨rfl, K'⟩
    replace H := H.below K'
    replace G := G.below K'
    replace J := J.below K'
    replace hL := hL.below K'
    replace h := h.below K'
    replace hs := hs.below K'
    replace hy := hy.below K'
    replace hA := hA.below K'
    replace hE := hE.below K'
    replace K := Below.then_ K K'
    clear K'
    clear G_0 G_1 G_2 G_z
    go_wp2_with fail
    refine (awake_any _ hL).mono ?_
    rintro e w5 ⟨rfl, K'⟩
    replace H := H.below K'
    replace G := G.below K'
    replace J := J.below K'
    replace hL := hL.below K'
    replace h := h.below K'
    replace hs := hs.below K'
    replace hy := hy.below K'
    replace hA := hA.below K'
    replace hE := hE.below K'
    replace K := Below.then_ K K'
    clear K'
    go_wp2
    go_ret
    exact ⟨rfl, K⟩
  go_wp2_with fail
  refine (few_yes hy hfG).mono ?_
  rintro e w4 ⟨rfl, K'⟩
  replace H := H.below K'
  replace G := G.below K'
  replace J := J.below K'
  replace hL := hL.below K'
  replace h := h.below K'
  replace hs := hs.below K'
  replace hy := hy.below K'
  replace hA := hA.below K'
  replace hE := hE.below K'
  replace K := Below.then_ K K'
  clear K'
  clear G_0 G_1 G_2 G_z
  have hq : q ≤ 60000 := by omega
  rcases Nat.lt_or_ge 300 p1 with g1 | g1
  · have J_0 := J.at_ (v := .int .i64 x.1) 0 rfl
    have J_1 := J.at_ (v := .int .u32 x.2.1) 1 rfl
    have J_2 := J.at_ (v := .bool x.2.2.1) 2 rfl
    have J_3 := J.at_ (v := .slice P p1 p2) 3 rfl
    have J_4 := J.at_ (v := .slice Q q1 q2) 4 rfl
    have J_z := J.lt
    go_wp2_with fail
    refine (rfew_no1 g1).mono ?_
    rintro e w5 ⟨rfl, K'⟩
    clear J_0 J_1 J_2 J_3 J_4 J_z
    replace H := H.below K'
    replace G := G.below K'
    replace J := J.below K'
    replace hL := hL.below K'
    replace h := h.below K'
    replace hs := hs.below K'
    replace hy := hy.below K'
    replace hA := hA.below K'
    replace hE := hE.below K'
    replace K := Below.then_ K K'
    clear K'
    go_wp2_with fail
    refine (awake_any _ hL).mono ?_
    rintro e w6 ⟨rfl, K'⟩
    replace H := H.below K'
    replace G := G.below K'
    replace J := J.below K'
    replace hL := hL.below K'
    replace h := h.below K'
    replace hs := hs.below K'
    replace hy := hy.below K'
    replace hA := hA.below K'
    replace hE := hE.below K'
    replace K := Below.then_ K K'
    clear K'
    go_wp2
    go_ret
    exact ⟨rfl, K⟩
  rcases Nat.lt_or_ge 300 q1 with g2 | g2
  · have J_0 := J.at_ (v := .int .i64 x.1) 0 rfl
    have J_1 := J.at_ (v := .int .u32 x.2.1) 1 rfl
    have J_2 := J.at_ (v := .bool x.2.2.1) 2 rfl
    have J_3 := J.at_ (v := .slice P p1 p2) 3 rfl
    have J_4 := J.at_ (v := .slice Q q1 q2) 4 rfl
    have J_z := J.lt
    go_wp2_with fail
    refine (rfew_no2 g1 g2).mono ?_
    rintro e w5 ⟨rfl, K'⟩
    clear J_0 J_1 J_2 J_3 J_4 J_z
    replace H := H.below K'
    replace G := G.below K'
    replace J := J.below K'
    replace hL := hL.below K'
    replace h := h.below K'
    replace hs := hs.below K'
    replace hy := hy.below K'
    replace hA := hA.below K'
    replace hE := hE.below K'
    replace K := Below.then_ K K'
    clear K'
    go_wp2_with fail
    refine (awake_any _ hL).mono ?_
    rintro e w6 ⟨rfl, K'⟩
    replace H := H.below K'
    replace G := G.below K'
    replace J := J.below K'
    replace hL := hL.below K'
    replace h := h.below K'
    replace hs := hs.below K'
    replace hy := hy.below K'
    replace hA := hA.below K'
    replace hE := hE.below K'
    replace K := Below.then_ K K'
    clear K'
    go_wp2
    go_ret
    exact ⟨rfl, K⟩
  have J_0 := J.at_ (v := .int .i64 x.1) 0 rfl
  have J_1 := J.at_ (v := .int .u32 x.2.1) 1 rfl
  have J_2 := J.at_ (v := .bool x.2.2.1) 2 rfl
  have J_3 := J.at_ (v := .slice P p1 p2) 3 rfl
  have J_4 := J.at_ (v := .slice Q q1 q2) 4 rfl
  have J_z := J.lt
  go_wp2_with fail
  refine (rfew_yes g1 g2).mono ?_
  rintro e w5 ⟨rfl, K'⟩
  clear J_0 J_1 J_2 J_3 J_4 J_z
  replace H := H.below K'
  replace G := G.below K'
  replace J := J.below K'
  replace hL := hL.below K'
  replace h := h.below K'
  replace hs := hs.below K'
  replace hy := hy.below K'
  replace hA := hA.below K'
  replace hE := hE.below K'
  replace K := Below.then_ K K'
  clear K'
  have b1 : p1 ≤ 60000 := by omega
  have b2 : q1 ≤ 60000 := by omega
  have hfit := hM.fits ha
  obtain ⟨v, hv1⟩ : ∃ v, someS a M zs xs k X ys = v := ⟨_, rfl⟩
  have hvm := some_may (a := a) (k := k) (X := X) (ys := ys) hx.out
  have hvl := leg_some (a := a) (M := M) (zs := zs) (xs := xs) (k := k) (X := X) (ys := ys)
  have hvr := some_rng (a := a) (M := M) (zs := zs) (xs := xs) (k := k) (X := X) (ys := ys)
  have hlen := someS_len (a := a) (M := M) (zs := zs) (xs := xs) k X ys
  have hva := some_addr (xs := xs) (k := k) (ys := ys) (zs := zs) ha hX (hM.fits ha)
  rw [hv1] at hvm hvl hvr hlen hva
  have f10 : (v.2.1 == 10) = false := by simp; omega
  have f11 : (v.2.1 == 11) = false := by simp; omega
  have f12 : (v.2.1 == 12) = false := by simp; omega
  have hfv := may_few hris.out hvm
  replace hv1 := Lib.hid hv1
  replace hvm := Lib.hid hvm
  replace hvl := Lib.hid hvl
  replace hlen := Lib.hid hlen
  replace hva := Lib.hid hva
  clear hvr
  have hml := hs0.len
  have hql := hy0.len
  obtain ⟨r, hr1⟩ : ∃ r, legS a M zs xs k X ys x = r := ⟨_, rfl⟩
  have hrm := leg_may (a := a) (k := k) (X := X) (ys := ys) (x := x) hx.out
  have hnew := leg_new (a := a) (k := k) (X := X) (ys := ys) (x := x) hx.out
  have hno := leg_no (a := a) (M := M) (zs := zs) (xs := xs) (k := k) (X := X) (ys := ys) (x := x)
  have herr := leg_err (a := a) (M := M) (zs := zs) (k := k) (X := X) (ys := ys) (x := x) hr.out
  have hqry : k = 5 → r.2 = true → x.1 = 0 → fiE a M X zs = 0 ∧ x.2.2.1 = hasB xs (ofO a M X) := fun hk h1 h2 => by subst hk; rw [← hr1] at h1; exact leg_query h1 h2
  rw [hr1] at hrm hnew hno herr
  have hfr := may_few hris.out hrm
  replace hr1 := Lib.hid hr1
  replace hrm := Lib.hid hrm
  replace hnew := Lib.hid hnew
  replace hno := Lib.hid hno
  replace herr := Lib.hid herr
  replace hqry := Lib.hid hqry
  have T1 := some_any (k := k) (sh := sh) (wo := wo) (qu := qu) (tr := tr) hL ha hM h hn hs hm hx.out hX hy hq hw.out
  rw [hv1.out] at T1
  replace T1 := Lib.hid T1
  have H_0 := H.at_ (v := .int .u32 (a : Int)) 0 rfl
  have H_1 := H.at_ (v := .int .i64 p) 1 rfl
  have H_2 := H.at_ (v := .slice A n c) 2 rfl
  have H_3 := H.at_ (v := .int .i64 sh) 3 rfl
  have H_4 := H.at_ (v := .int .i64 wo) 4 rfl
  have H_5 := H.at_ (v := .int .i64 qu) 5 rfl
  have H_6 := H.at_ (v := .int .i64 tr) 6 rfl
  have H_z := H.lt
  have G_0 := G.at_ (v := .int .i64 k) 0 rfl
  have G_1 := G.at_ (v := .int .u32 (X : Int)) 1 rfl
  have G_2 := G.at_ (v := .slice C q f) 2 rfl
  have G_z := G.lt
  go_wp2_with fail
  refine (T1.out).mono ?_
  clear H_0 H_1 H_2 H_3 H_4 H_5 H_6 H_z
  clear G_0 G_1 G_2 G_z
  rintro e w6 ⟨VA, Vn, Vc, DA, Dn, Dc, EA, En, Ec, rfl, V, hav, D, E, K'⟩
  clear hav 
  replace H := H.below K'
  replace G := G.below K'
  replace J := J.below K'
  replace hL := hL.below K'
  replace h := h.below K'
  replace hs := hs.below K'
  replace hy := hy.below K'
  replace hA := hA.below K'
  replace hE := hE.below K'
  replace K := Below.then_ K K'
  clear K'
  clear T1
  go_upto_region 4 with (first | (refine wpList_store_row rfl 34 (.tmp 10) (.tmp 42) rfl _ _ rfl (show _ = Value.agg #[.int .i64 v.2.1, .int .u32 v.2.2.1, .bool v.2.2.2.1, .slice DA Dn Dc, .slice EA En Ec] from rfl) _ _ (Bk.new _ _ _) an_sz rfl (by simp [Value.oneCell']) ?_))
  try rw [World.setRow_alloc_new]
  have KS := K.size
  have H_l := H.lt
  have G_l := G.lt
  have J_l := J.lt
  replace H := H.alloc (.cells #[.int .i64 v.2.1, .int .u32 v.2.2.1, .bool v.2.2.2.1, .slice DA Dn Dc, .slice EA En Ec] 34)
  replace G := G.alloc (.cells #[.int .i64 v.2.1, .int .u32 v.2.2.1, .bool v.2.2.2.1, .slice DA Dn Dc, .slice EA En Ec] 34)
  replace J := J.alloc (.cells #[.int .i64 v.2.1, .int .u32 v.2.2.1, .bool v.2.2.2.1, .slice DA Dn Dc, .slice EA En Ec] 34)
  replace hL := hL.below (below_alloc _ (.cells #[.int .i64 v.2.1, .int .u32 v.2.2.1, .bool v.2.2.2.1, .slice DA Dn Dc, .slice EA En Ec] 34))
  replace h := h.below (below_alloc _ (.cells #[.int .i64 v.2.1, .int .u32 v.2.2.1, .bool v.2.2.2.1, .slice DA Dn Dc, .slice EA En Ec] 34))
  replace hs := hs.below (below_alloc _ (.cells #[.int .i64 v.2.1, .int .u32 v.2.2.1, .bool v.2.2.2.1, .slice DA Dn Dc, .slice EA En Ec] 34))
  replace hy := hy.below (below_alloc _ (.cells #[.int .i64 v.2.1, .int .u32 v.2.2.1, .bool v.2.2.2.1, .slice DA Dn Dc, .slice EA En Ec] 34))
  replace hA := hA.below (below_alloc _ (.cells #[.int .i64 v.2.1, .int .u32 v.2.2.1, .bool v.2.2.2.1, .slice DA Dn Dc, .slice EA En Ec] 34))
  replace hE := hE.below (below_alloc _ (.cells #[.int .i64 v.2.1, .int .u32 v.2.2.1, .bool v.2.2.2.1, .slice DA Dn Dc, .slice EA En Ec] 34))
  replace V := V.below (below_alloc _ (.cells #[.int .i64 v.2.1, .int .u32 v.2.2.1, .bool v.2.2.2.1, .slice DA Dn Dc, .slice EA En Ec] 34))
  replace D := D.below (below_alloc _ (.cells #[.int .i64 v.2.1, .int .u32 v.2.2.1, .bool v.2.2.2.1, .slice DA Dn Dc, .slice EA En Ec] 34))
  replace E := E.below (below_alloc _ (.cells #[.int .i64 v.2.1, .int .u32 v.2.2.1, .bool v.2.2.2.1, .slice DA Dn Dc, .slice EA En Ec] 34))
  replace K := Below.then_ K (below_alloc _ (.cells #[.int .i64 v.2.1, .int .u32 v.2.2.1, .bool v.2.2.2.1, .slice DA Dn Dc, .slice EA En Ec] 34))
  have Y := Bk.new (w6) #[.int .i64 v.2.1, .int .u32 v.2.2.1, .bool v.2.2.2.1, .slice DA Dn Dc, .slice EA En Ec] 34
  try simp only [World.size_alloc] at Y
  generalize (w6).alloc (.cells #[.int .i64 v.2.1, .int .u32 v.2.2.1, .bool v.2.2.2.1, .slice DA Dn Dc, .slice EA En Ec] 34) = w7 at H G J Y hL h hs hy hA hE V D E K ⊢
  generalize hgY : w6.heap.size = gY at Y ⊢
  have Y_b : w.heap.size ≤ gY := by omega
  have ne_H_Y : gH ≠ gY := by omega
  have ne_G_Y : gG ≠ gY := by omega
  have ne_J_Y : gJ ≠ gY := by omega
  clear KS hgY H_l G_l J_l
  have c1_ : Dn ≤ 60000 ∧ En ≤ 60000 := by have h1 := D.len; have h2 := E.len; have h3 := hlen.out; omega
  obtain ⟨c2_, c3_⟩ := c1_
  have T1 := legal_any (k := k) (x := v.2) (sh := sh) (wo := wo) (qu := qu) (tr := tr) hL ha hM h hn hs hm hx.out hX hy hq hw.out D E c2_ c3_ hva.out
  rw [hvl.out] at T1
  replace T1 := Lib.hid T1
  have H_0 := H.at_ (v := .int .u32 (a : Int)) 0 rfl
  have H_1 := H.at_ (v := .int .i64 p) 1 rfl
  have H_2 := H.at_ (v := .slice A n c) 2 rfl
  have H_3 := H.at_ (v := .int .i64 sh) 3 rfl
  have H_4 := H.at_ (v := .int .i64 wo) 4 rfl
  have H_5 := H.at_ (v := .int .i64 qu) 5 rfl
  have H_6 := H.at_ (v := .int .i64 tr) 6 rfl
  have H_z := H.lt
  have G_0 := G.at_ (v := .int .i64 k) 0 rfl
  have G_1 := G.at_ (v := .int .u32 (X : Int)) 1 rfl
  have G_2 := G.at_ (v := .slice C q f) 2 rfl
  have G_z := G.lt
  have Y_0 := Y.at_ (v := .int .i64 v.2.1) 0 rfl
  have Y_1 := Y.at_ (v := .int .u32 v.2.2.1) 1 rfl
  have Y_2 := Y.at_ (v := .bool v.2.2.2.1) 2 rfl
  have Y_3 := Y.at_ (v := .slice DA Dn Dc) 3 rfl
  have Y_4 := Y.at_ (v := .slice EA En Ec) 4 rfl
  have Y_z := Y.lt
  go_wp2_with fail
  refine (T1.out).mono ?_
  clear H_0 H_1 H_2 H_3 H_4 H_5 H_6 H_z
  clear G_0 G_1 G_2 G_z
  clear Y_0 Y_1 Y_2 Y_3 Y_4 Y_z
  rintro e w8 ⟨UA, Un, Uc, rfl, U, hav, K'⟩
  clear hav
  replace H := H.below K'
  replace G := G.below K'
  replace J := J.below K'
  replace Y := Y.below K'
  replace hL := hL.below K'
  replace h := h.below K'
  replace hs := hs.below K'
  replace hy := hy.below K'
  replace hA := hA.below K'
  replace hE := hE.below K'
  replace V := V.below K'
  replace D := D.below K'
  replace E := E.below K'
  replace K := Below.then_ K K'
  clear K'
  clear T1
  have c4_ : Vn ≤ 65536 := by have h1 := V.len; omega
  go_wp2_with fail
  refine (ints_same V U c4_).mono ?_
  rintro e w9 ⟨rfl, K'⟩
  replace H := H.below K'
  replace G := G.below K'
  replace J := J.below K'
  replace Y := Y.below K'
  replace hL := hL.below K'
  replace h := h.below K'
  replace hs := hs.below K'
  replace hy := hy.below K'
  replace hA := hA.below K'
  replace hE := hE.below K'
  replace V := V.below K'
  replace D := D.below K'
  replace E := E.below K'
  replace U := U.below K'
  replace K := Below.then_ K K'
  clear K'
  have T1 := rmay9_any (a := a) (p := p) (sh := sh) (wo := wo) (qu := qu) (tr := tr) hM h hn V c4_
  rw [hvm.out] at T1
  replace T1 := Lib.hid T1
  have H_0 := H.at_ (v := .int .u32 (a : Int)) 0 rfl
  have H_1 := H.at_ (v := .int .i64 p) 1 rfl
  have H_2 := H.at_ (v := .slice A n c) 2 rfl
  have H_3 := H.at_ (v := .int .i64 sh) 3 rfl
  have H_4 := H.at_ (v := .int .i64 wo) 4 rfl
  have H_5 := H.at_ (v := .int .i64 qu) 5 rfl
  have H_6 := H.at_ (v := .int .i64 tr) 6 rfl
  have H_z := H.lt
  go_wp2_with fail
  refine (T1.out).mono ?_
  rintro e w10 ⟨rfl, K'⟩
  clear H_0 H_1 H_2 H_3 H_4 H_5 H_6 H_z
  replace H := H.below K'
  replace G := G.below K'
  replace J := J.below K'
  replace Y := Y.below K'
  replace hL := hL.below K'
  replace h := h.below K'
  replace hs := hs.below K'
  replace hy := hy.below K'
  replace hA := hA.below K'
  replace hE := hE.below K'
  replace V := V.below K'
  replace D := D.below K'
  replace E := E.below K'
  replace U := U.below K'
  replace K := Below.then_ K K'
  clear K'
  clear T1
  clear V
  clear U
  clear D
  clear E
  have Y_0 := Y.at_ (v := .int .i64 v.2.1) 0 rfl
  have Y_1 := Y.at_ (v := .int .u32 v.2.2.1) 1 rfl
  have Y_2 := Y.at_ (v := .bool v.2.2.2.1) 2 rfl
  have Y_3 := Y.at_ (v := .slice DA Dn Dc) 3 rfl
  have Y_4 := Y.at_ (v := .slice EA En Ec) 4 rfl
  have Y_z := Y.lt
  go_upto_region 7 with (fail)
  clear Y_0 Y_1 Y_2 Y_3 Y_4 Y_z
  clear Y f10 f11 f12 c2_ c3_ c4_ hvl hvm hva hlen hv1 hfv
  have T1 := legal_any (k := k) (x := x) (sh := sh) (wo := wo) (qu := qu) (tr := tr) hL ha hM h hn hs hm hx.out hX hy hq hw.out hA hE b1 b2 hA1.out
  rw [hr1.out] at T1
  replace T1 := Lib.hid T1
  have H_0 := H.at_ (v := .int .u32 (a : Int)) 0 rfl
  have H_1 := H.at_ (v := .int .i64 p) 1 rfl
  have H_2 := H.at_ (v := .slice A n c) 2 rfl
  have H_3 := H.at_ (v := .int .i64 sh) 3 rfl
  have H_4 := H.at_ (v := .int .i64 wo) 4 rfl
  have H_5 := H.at_ (v := .int .i64 qu) 5 rfl
  have H_6 := H.at_ (v := .int .i64 tr) 6 rfl
  have H_z := H.lt
  have G_0 := G.at_ (v := .int .i64 k) 0 rfl
  have G_1 := G.at_ (v := .int .u32 (X : Int)) 1 rfl
  have G_2 := G.at_ (v := .slice C q f) 2 rfl
  have G_z := G.lt
  have J_0 := J.at_ (v := .int .i64 x.1) 0 rfl
  have J_1 := J.at_ (v := .int .u32 x.2.1) 1 rfl
  have J_2 := J.at_ (v := .bool x.2.2.1) 2 rfl
  have J_3 := J.at_ (v := .slice P p1 p2) 3 rfl
  have J_4 := J.at_ (v := .slice Q q1 q2) 4 rfl
  have J_z := J.lt
  go_wp2_with fail
  refine (T1.out).mono ?_
  clear H_0 H_1 H_2 H_3 H_4 H_5 H_6 H_z
  clear G_0 G_1 G_2 G_z
  clear J_0 J_1 J_2 J_3 J_4 J_z
  rintro e w11 ⟨NA, Nn, Nc, rfl, N, hav, K'⟩
  clear hav
  replace H := H.below K'
  replace G := G.below K'
  replace J := J.below K'
  replace hL := hL.below K'
  replace h := h.below K'
  replace hs := hs.below K'
  replace hy := hy.below K'
  replace hA := hA.below K'
  replace hE := hE.below K'
  replace K := Below.then_ K K'
  clear K'
  clear T1
  have c5_ : Nn ≤ 65536 := by have h1 := N.len; omega
  have hNl := N.len
  obtain ⟨rs, rb⟩ := r
  skip
  obtain ⟨b, hb⟩ : ∃ b, rb = b := ⟨_, rfl⟩
  subst hb
  cases rb with
  | false =>
    have N2 : IS .i64 0 w11 NA Nn Nc xs := by have := N; rwa [show ((rs, false) : List Int × Bool).1 = xs from hno.out rfl] at this
    go_wp2_with fail
    refine (ints_same N2 hs c5_).mono ?_
    rintro e w12 ⟨rfl, K'⟩
    replace H := H.below K'
    replace G := G.below K'
    replace J := J.below K'
    replace hL := hL.below K'
    replace h := h.below K'
    replace hs := hs.below K'
    replace hy := hy.below K'
    replace hA := hA.below K'
    replace hE := hE.below K'
    replace N := N.below K'
    replace N2 := N2.below K'
    replace K := Below.then_ K K'
    clear K'
    go_wp2
    go_ret
    exact ⟨rfl, K⟩
  | true =>
    have N1 : IS .i64 0 w11 NA Nn Nc rs := N
    clear N
    have hrm2 : Hid (mayR M zs 0 rs = true) := hrm
    obtain ⟨hn1_, hn2_, hn3_⟩ := hnew.out
    have hn1 : rs.length ≤ xs.length + 1 := hn1_
    have hn2 : Hid (∀ z ∈ rs, hasB xs z = false → (k = 1 ∨ k = 2) ∧ x.2.1 = a + z) := Lib.hid (hn2_ rfl)
    have hn3 : Hid (k = 1 → x.1 = 0 → nw_ xs rs = 1) := Lib.hid (hn3_ rfl)
    have herr2 : Hid (x.1 ≠ 0 → rs = xs) := herr
    have hqry2 : Hid (k = 5 → x.1 = 0 → fiE a M X zs = 0 ∧ x.2.2.1 = hasB xs (ofO a M X)) := Lib.hid (fun h1 h2 => hqry.out h1 rfl h2)
    have hNl : rs.length = Nn := hNl
    have hbd : Hid (∀ z ∈ rs, 0 ≤ z ∧ z < M) := Lib.hid (fun z hz => ⟨((mayR_iff.1 hrm2.out).2 z hz).1, ((mayR_iff.1 hrm2.out).2 z hz).2.1⟩)
    clear hrm hnew hno herr hqry hr1 hn1_ hn2_ hn3_
    have T1 := fun w (h : IS .i64 lo w A n c zs) (N1 : IS .i64 0 w NA Nn Nc rs) => Lib.hid (rmay9_any (w := w) (a := a) (p := p) (sh := sh) (wo := wo) (qu := qu) (tr := tr) (lo := lo) (lo2 := 0) (A := A) (c := c) (B := NA) (d := Nc) hM h hn N1 c5_)
    rw [hrm2.out] at T1
    have e9 : decide ((m : Int) + 1 < (Nn : Int)) = false := by simp; omega
    have e8 : IntKind.i64.wrap ((m : Int) + 1) = (m : Int) + 1 := IntWalk.i64_in _ (by omega)
    have J_0 := J.at_ (v := .int .i64 x.1) 0 rfl
    have J_1 := J.at_ (v := .int .u32 x.2.1) 1 rfl
    have J_2 := J.at_ (v := .bool x.2.2.1) 2 rfl
    have J_3 := J.at_ (v := .slice P p1 p2) 3 rfl
    have J_4 := J.at_ (v := .slice Q q1 q2) 4 rfl
    have J_z := J.lt
    have H_0 := H.at_ (v := .int .u32 (a : Int)) 0 rfl
    have H_1 := H.at_ (v := .int .i64 p) 1 rfl
    have H_2 := H.at_ (v := .slice A n c) 2 rfl
    have H_3 := H.at_ (v := .int .i64 sh) 3 rfl
    have H_4 := H.at_ (v := .int .i64 wo) 4 rfl
    have H_5 := H.at_ (v := .int .i64 qu) 5 rfl
    have H_6 := H.at_ (v := .int .i64 tr) 6 rfl
    have H_z := H.lt
    go_wp2_with fail
    refine ((T1 _ h N1).out).mono ?_
    rintro e w12 ⟨rfl, K'⟩
    clear H_0 H_1 H_2 H_3 H_4 H_5 H_6 H_z
    replace H := H.below K'
    replace G := G.below K'
    replace J := J.below K'
    replace hL := hL.below K'
    replace h := h.below K'
    replace hs := hs.below K'
    replace hy := hy.below K'
    replace hA := hA.below K'
    replace hE := hE.below K'
    replace N1 := N1.below K'
    replace K := Below.then_ K K'
    clear K'
    clear T1 J_0 J_1 J_2 J_3 J_4 J_z
    go_wp2
    go_loopw [15, 16] (fun mo i wr => ∃ r : Nat, r ≤ Nn ∧ i = .int .i64 r ∧ mo = .int .i64 (nw_ xs (rs.take r) : Nat) ∧ Below w12.heap.size w12 wr) (fun _ i _ => Nn - (intOf i).toNat)
    case atStart => exact ⟨0, Nat.zero_le _, rfl, by rw [List.take_zero, nw_nil]; rfl, Below.refl _ _⟩
    case round =>
      obtain ⟨r, hk_, rfl, rfl, Kr⟩ := hrel
      replace H := H.below Kr
      replace G := G.below Kr
      replace J := J.below Kr
      replace hL := hL.below Kr
      replace h := h.below Kr
      replace hs := hs.below Kr
      replace hy := hy.below Kr
      replace hA := hA.below Kr
      replace hE := hE.below Kr
      replace N1 := N1.below Kr
      replace K := Below.then_ K Kr
      have hnwl : nw_ xs (rs.take r) ≤ 65536 := by have h1 : nw_ xs (rs.take r) ≤ (rs.take r).length := List.length_filter_le _ _; rw [List.length_take] at h1; omega
      by_cases hlt : r < Nn
      · obtain ⟨b, o, hNA, _, hc⟩ := N1.get hlt
        obtain ⟨z, hz, hzM⟩ : ∃ z : Nat, gi rs r = (z : Int) ∧ z < M := by
          have := hbd.out _ (gi_mem (xs := rs) (j := r) (by omega))
          exact ⟨(gi rs r).toNat, by omega, by omega⟩
        subst hNA
        rw [hz] at hc
        have hsn := nw_snoc xs (rs.take r) (gi rs r)
        rw [← take_gi (by omega), hz] at hsn
        have hmem : (z : Int) ∈ rs := by rw [← hz]; exact gi_mem (by omega)
        replace hz := Lib.hid hz
        cases hh : hasB xs (z : Int) with
        | true =>
          rw [if_pos hh, Nat.add_zero] at hsn
          replace hsn := Lib.hid hsn
          have T := rhas9_any hs (by omega) (z : Int)
          rw [hh] at T
          replace T := Lib.hid T
          replace hh := Lib.hid hh
          clear hmem
          go_wp2_with fail
          refine T.out.mono ?_
          rintro e _ ⟨rfl, rfl⟩
          clear T
          go_wp2
          go_roundw
          case rel => exact ⟨r + 1, by omega, by go_num, by rw [hsn.out]; rfl, Kr⟩
          case measure => simp [intOf]; omega
        | false =>
          rw [hh, if_neg (by simp)] at hsn
          replace hsn := Lib.hid hsn
          obtain ⟨hk12, hxa⟩ := hn2.out _ hmem hh
          have T := rhas9_any hs (by omega) (z : Int)
          rw [hh] at T
          replace T := Lib.hid T
          replace hh := Lib.hid hh
          clear hmem
          have t1 : IntKind.u32.wrap (z : Int) = (z : Int) := by simp [IntKind.wrap, IntKind.bits, IntKind.signed]; omega
          have t2 : IntKind.u32.wrap ((a : Int) + (z : Int)) = (a : Int) + z := by simp [IntKind.wrap, IntKind.bits, IntKind.signed]; omega
          have t3 : (x.2.1 != (a : Int) + z) = false := by simp [hxa]
          have t4 : IntKind.i64.wrap ((nw_ xs (rs.take r) : Int) + 1) = ((nw_ xs (rs.take r) + 1 : Nat) : Int) := by rw [IntWalk.i64_in _ (by omega)]; omega
          replace hxa := Lib.hid hxa
          go_wp2_with fail
          refine T.out.mono ?_
          rintro e _ ⟨rfl, rfl⟩
          clear T
          rcases hk12 with hk12 | hk12
          · have g1n : (k != 1) = false := by simp [hk12]
            have g2n : (k != 2) = true := by simp [hk12]
            replace hk12 := Lib.hid hk12
            go_wp2
            refine wp_region_held_drew (S := fun w' => Below wr.heap.size wr w') (by kernel_rfl) (Below.refl _ _).drew (fun hHeld => ?_)
            generalize wr.drew = w30 at hHeld ⊢
            refine wpAnyH_take (i := 0) (oi := ⟨some 131, _, _, _, _, _⟩) (v := ?_) rfl (by kernel_rfl) (by kernel_rfl) (by kernel_rfl) (fun _ _ _ h => h) (Or.inl ⟨by rfl, ?_⟩) hHeld ?_
            rotate_left
            · intro ww hSw
              try dsimp only at hSw
              go_simp
              try with_reducible rfl
              try omega
            try simp only [Act.put, List.setIfInBounds_toArray, List.set_cons_zero, List.set_cons_succ]
            refine wpAnyH_take (i := 1) (oi := ⟨some 132, _, _, _, _, _⟩) (v := ?_) rfl (by kernel_rfl) (by kernel_rfl) (by kernel_rfl) (fun _ _ _ h => h) (Or.inl ⟨by rfl, ?_⟩) hHeld ?_
            rotate_left
            · intro ww hSw
              try dsimp only at hSw
              have H_0 := (H.below hSw).at_ (v := .int .u32 (a : Int)) 0 rfl
              have H_1 := (H.below hSw).at_ (v := .int .i64 p) 1 rfl
              have H_2 := (H.below hSw).at_ (v := .slice A n c) 2 rfl
              have H_3 := (H.below hSw).at_ (v := .int .i64 sh) 3 rfl
              have H_4 := (H.below hSw).at_ (v := .int .i64 wo) 4 rfl
              have H_5 := (H.below hSw).at_ (v := .int .i64 qu) 5 rfl
              have H_6 := (H.below hSw).at_ (v := .int .i64 tr) 6 rfl
              have G_0 := (G.below hSw).at_ (v := .int .i64 k) 0 rfl
              have G_1 := (G.below hSw).at_ (v := .int .u32 (X : Int)) 1 rfl
              have G_2 := (G.below hSw).at_ (v := .slice C q f) 2 rfl
              have J_0 := (J.below hSw).at_ (v := .int .i64 x.1) 0 rfl
              have J_1 := (J.below hSw).at_ (v := .int .u32 x.2.1) 1 rfl
              have J_2 := (J.below hSw).at_ (v := .bool x.2.2.1) 2 rfl
              have J_3 := (J.below hSw).at_ (v := .slice P p1 p2) 3 rfl
              have J_4 := (J.below hSw).at_ (v := .slice Q q1 q2) 4 rfl
              have hze := (N1.below hSw).here (j := r) hlt
              rw [hz.out] at hze
              go_simp
              try with_reducible rfl
              try omega
            try simp only [Act.put, List.setIfInBounds_toArray, List.set_cons_zero, List.set_cons_succ]
            refine wpAnyH_take (i := 2) (oi := ⟨some 133, _, _, _, _, _⟩) (v := ?_) rfl (by kernel_rfl) (by kernel_rfl) (by kernel_rfl) (fun _ _ _ h => h) (Or.inl ⟨by rfl, ?_⟩) hHeld ?_
            rotate_left
            · intro ww hSw
              try dsimp only at hSw
              go_simp
              try with_reducible rfl
              try omega
            try simp only [Act.put, List.setIfInBounds_toArray, List.set_cons_zero, List.set_cons_succ]
            refine wpAnyH_take (i := 3) (oi := ⟨some 134, _, _, _, _, _⟩) (v := .bool false) rfl (by kernel_rfl) (by kernel_rfl) (by kernel_rfl) (fun _ _ _ h => h) (Or.inl ⟨by rfl, ?_⟩) hHeld ?_
            · intro ww hSw
              try dsimp only at hSw
              go_simp
              try with_reducible rfl
              try omega
            try simp only [Act.put, List.setIfInBounds_toArray, List.set_cons_zero, List.set_cons_succ]
            refine wpAnyH_take (i := 4) (oi := ⟨some 135, _, _, _, _, _⟩) (v := undef) rfl (by kernel_rfl) (by kernel_rfl) (by kernel_rfl) (fun _ _ _ h => h) (Or.inr ⟨by rfl, rfl⟩) hHeld ?_
            try simp only [Act.put, List.setIfInBounds_toArray, List.set_cons_zero, List.set_cons_succ]
            refine wpAnyH_take (i := 5) (oi := ⟨some 136, _, _, _, _, _⟩) (v := undef) rfl (by kernel_rfl) (by kernel_rfl) (by kernel_rfl) (fun _ _ _ h => h) (Or.inr ⟨by rfl, rfl⟩) hHeld ?_
            try simp only [Act.put, List.setIfInBounds_toArray, List.set_cons_zero, List.set_cons_succ]
            refine wpAnyH_take (i := 6) (oi := ⟨some 137, _, _, _, _, _⟩) (v := undef) rfl (by kernel_rfl) (by kernel_rfl) (by kernel_rfl) (fun _ _ _ h => h) (Or.inr ⟨by rfl, rfl⟩) hHeld ?_
            try simp only [Act.put, List.setIfInBounds_toArray, List.set_cons_zero, List.set_cons_succ]
            refine wpAnyH_take (i := 7) (oi := ⟨some 138, _, _, _, _, _⟩) (v := ?_) rfl (by kernel_rfl) (by kernel_rfl) (by kernel_rfl) (fun _ _ _ h => h) (Or.inl ⟨by rfl, ?_⟩) hHeld ?_
            rotate_left
            · intro ww hSw
              try dsimp only at hSw
              go_simp
              try with_reducible rfl
              try omega
            try simp only [Act.put, List.setIfInBounds_toArray, List.set_cons_zero, List.set_cons_succ]
            refine wpAnyH_take (i := 8) (oi := ⟨some 139, _, _, _, _, _⟩) (v := .bool false) rfl (by kernel_rfl) (by kernel_rfl) (by kernel_rfl) (fun _ _ _ h => h) (Or.inl ⟨by rfl, ?_⟩) hHeld ?_
            · intro ww hSw
              try dsimp only at hSw
              go_simp
              try with_reducible rfl
              try omega
            try simp only [Act.put, List.setIfInBounds_toArray, List.set_cons_zero, List.set_cons_succ]
            refine wpAnyH_take (i := 9) (oi := ⟨some 140, _, _, _, _, _⟩) (v := ?_) rfl (by kernel_rfl) (by kernel_rfl) (by kernel_rfl) (fun _ _ _ h => h) (Or.inl ⟨by rfl, ?_⟩) hHeld ?_
            rotate_left
            · intro ww hSw
              try dsimp only at hSw
              go_simp
              try with_reducible rfl
              try omega
            try simp only [Act.put, List.setIfInBounds_toArray, List.set_cons_zero, List.set_cons_succ]
            refine wpAnyH_take (i := 10) (oi := ⟨some 141, _, _, _, _, _⟩) (v := ?_) rfl (by kernel_rfl) (by kernel_rfl) (by kernel_rfl) (fun _ _ _ h => h) (Or.inl ⟨by rfl, ?_⟩) hHeld ?_
            rotate_left
            · intro ww hSw
              try dsimp only at hSw
              have H_0 := (H.below hSw).at_ (v := .int .u32 (a : Int)) 0 rfl
              have H_1 := (H.below hSw).at_ (v := .int .i64 p) 1 rfl
              have H_2 := (H.below hSw).at_ (v := .slice A n c) 2 rfl
              have H_3 := (H.below hSw).at_ (v := .int .i64 sh) 3 rfl
              have H_4 := (H.below hSw).at_ (v := .int .i64 wo) 4 rfl
              have H_5 := (H.below hSw).at_ (v := .int .i64 qu) 5 rfl
              have H_6 := (H.below hSw).at_ (v := .int .i64 tr) 6 rfl
              have G_0 := (G.below hSw).at_ (v := .int .i64 k) 0 rfl
              have G_1 := (G.below hSw).at_ (v := .int .u32 (X : Int)) 1 rfl
              have G_2 := (G.below hSw).at_ (v := .slice C q f) 2 rfl
              have J_0 := (J.below hSw).at_ (v := .int .i64 x.1) 0 rfl
              have J_1 := (J.below hSw).at_ (v := .int .u32 x.2.1) 1 rfl
              have J_2 := (J.below hSw).at_ (v := .bool x.2.2.1) 2 rfl
              have J_3 := (J.below hSw).at_ (v := .slice P p1 p2) 3 rfl
              have J_4 := (J.below hSw).at_ (v := .slice Q q1 q2) 4 rfl
              have hze := (N1.below hSw).here (j := r) hlt
              rw [hz.out] at hze
              go_simp
              try with_reducible rfl
              try omega
            try simp only [Act.put, List.setIfInBounds_toArray, List.set_cons_zero, List.set_cons_succ]
            refine wpAnyH_take (i := 11) (oi := ⟨some 142, _, _, _, _, _⟩) (v := ?_) rfl (by kernel_rfl) (by kernel_rfl) (by kernel_rfl) (fun _ _ _ h => h) (Or.inl ⟨by rfl, ?_⟩) hHeld ?_
            rotate_left
            · intro ww hSw
              try dsimp only at hSw
              go_simp
              try with_reducible rfl
              try omega
            try simp only [Act.put, List.setIfInBounds_toArray, List.set_cons_zero, List.set_cons_succ]
            refine wpAnyH_take (i := 12) (oi := ⟨some 143, _, _, _, _, _⟩) (v := ?_) rfl (by kernel_rfl) (by kernel_rfl) (by kernel_rfl) (fun _ _ _ h => h) (Or.inl ⟨by rfl, ?_⟩) hHeld ?_
            rotate_left
            · intro ww hSw
              try dsimp only at hSw
              go_simp
              try with_reducible rfl
              try omega
            try simp only [Act.put, List.setIfInBounds_toArray, List.set_cons_zero, List.set_cons_succ]
            refine wpAnyH_take (i := 13) (oi := ⟨some 144, _, _, _, _, _⟩) (v := ?_) rfl (by kernel_rfl) (by kernel_rfl) (by kernel_rfl) (fun _ _ _ h => h) (Or.inl ⟨by rfl, ?_⟩) hHeld ?_
            rotate_left
            · intro ww hSw
              try dsimp only at hSw
              have H_0 := (H.below hSw).at_ (v := .int .u32 (a : Int)) 0 rfl
              have H_1 := (H.below hSw).at_ (v := .int .i64 p) 1 rfl
              have H_2 := (H.below hSw).at_ (v := .slice A n c) 2 rfl
              have H_3 := (H.below hSw).at_ (v := .int .i64 sh) 3 rfl
              have H_4 := (H.below hSw).at_ (v := .int .i64 wo) 4 rfl
              have H_5 := (H.below hSw).at_ (v := .int .i64 qu) 5 rfl
              have H_6 := (H.below hSw).at_ (v := .int .i64 tr) 6 rfl
              have G_0 := (G.below hSw).at_ (v := .int .i64 k) 0 rfl
              have G_1 := (G.below hSw).at_ (v := .int .u32 (X : Int)) 1 rfl
              have G_2 := (G.below hSw).at_ (v := .slice C q f) 2 rfl
              have J_0 := (J.below hSw).at_ (v := .int .i64 x.1) 0 rfl
              have J_1 := (J.below hSw).at_ (v := .int .u32 x.2.1) 1 rfl
              have J_2 := (J.below hSw).at_ (v := .bool x.2.2.1) 2 rfl
              have J_3 := (J.below hSw).at_ (v := .slice P p1 p2) 3 rfl
              have J_4 := (J.below hSw).at_ (v := .slice Q q1 q2) 4 rfl
              have hze := (N1.below hSw).here (j := r) hlt
              rw [hz.out] at hze
              go_simp
              try with_reducible rfl
              try omega
            try simp only [Act.put, List.setIfInBounds_toArray, List.set_cons_zero, List.set_cons_succ]
            refine wpAnyH_take (i := 14) (oi := ⟨some 145, _, _, _, _, _⟩) (v := ?_) rfl (by kernel_rfl) (by kernel_rfl) (by kernel_rfl) (fun _ _ _ h => h) (Or.inl ⟨by rfl, ?_⟩) hHeld ?_
            rotate_left
            · intro ww hSw
              try dsimp only at hSw
              go_simp
              try with_reducible rfl
              try omega
            try simp only [Act.put, List.setIfInBounds_toArray, List.set_cons_zero, List.set_cons_succ]
            refine wpAnyH_take (i := 15) (oi := ⟨some 146, _, _, _, _, _⟩) (v := ?_) rfl (by kernel_rfl) (by kernel_rfl) (by kernel_rfl) (fun _ _ _ h => h) (Or.inl ⟨by rfl, ?_⟩) hHeld ?_
            rotate_left
            · intro ww hSw
              try dsimp only at hSw
              go_simp
              try with_reducible rfl
              try omega
            try simp only [Act.put, List.setIfInBounds_toArray, List.set_cons_zero, List.set_cons_succ]
            refine wpAnyH_take (i := 16) (oi := ⟨some 147, _, _, _, _, _⟩) (v := ?_) rfl (by kernel_rfl) (by kernel_rfl) (by kernel_rfl) (fun _ _ _ h => h) (Or.inl ⟨by rfl, ?_⟩) hHeld ?_
            rotate_left
            · intro ww hSw
              try dsimp only at hSw
              go_simp
              try with_reducible rfl
              try omega
            try simp only [Act.put, List.setIfInBounds_toArray, List.set_cons_zero, List.set_cons_succ]
            refine wpAnyH_take (i := 17) (oi := ⟨some 148, _, _, _, _, _⟩) (v := ?_) rfl (by kernel_rfl) (by kernel_rfl) (by kernel_rfl) (fun _ _ _ h => h) (Or.inl ⟨by rfl, ?_⟩) hHeld ?_
            rotate_left
            · intro ww hSw
              try dsimp only at hSw
              have H_0 := (H.below hSw).at_ (v := .int .u32 (a : Int)) 0 rfl
              have H_1 := (H.below hSw).at_ (v := .int .i64 p) 1 rfl
              have H_2 := (H.below hSw).at_ (v := .slice A n c) 2 rfl
              have H_3 := (H.below hSw).at_ (v := .int .i64 sh) 3 rfl
              have H_4 := (H.below hSw).at_ (v := .int .i64 wo) 4 rfl
              have H_5 := (H.below hSw).at_ (v := .int .i64 qu) 5 rfl
              have H_6 := (H.below hSw).at_ (v := .int .i64 tr) 6 rfl
              have G_0 := (G.below hSw).at_ (v := .int .i64 k) 0 rfl
              have G_1 := (G.below hSw).at_ (v := .int .u32 (X : Int)) 1 rfl
              have G_2 := (G.below hSw).at_ (v := .slice C q f) 2 rfl
              have J_0 := (J.below hSw).at_ (v := .int .i64 x.1) 0 rfl
              have J_1 := (J.below hSw).at_ (v := .int .u32 x.2.1) 1 rfl
              have J_2 := (J.below hSw).at_ (v := .bool x.2.2.1) 2 rfl
              have J_3 := (J.below hSw).at_ (v := .slice P p1 p2) 3 rfl
              have J_4 := (J.below hSw).at_ (v := .slice Q q1 q2) 4 rfl
              have hze := (N1.below hSw).here (j := r) hlt
              rw [hz.out] at hze
              go_simp
              try with_reducible rfl
              try omega
            try simp only [Act.put, List.setIfInBounds_toArray, List.set_cons_zero, List.set_cons_succ]
            refine wpAnyH_take (i := 18) (oi := ⟨some 149, _, _, _, _, _⟩) (v := ?_) rfl (by kernel_rfl) (by kernel_rfl) (by kernel_rfl) (fun _ _ _ h => h) (Or.inl ⟨by rfl, ?_⟩) hHeld ?_
            rotate_left
            · intro ww hSw
              try dsimp only at hSw
              go_simp
              try with_reducible rfl
              try omega
            try simp only [Act.put, List.setIfInBounds_toArray, List.set_cons_zero, List.set_cons_succ]
            refine wpAnyH_take (i := 19) (oi := ⟨some 150, _, _, _, _, _⟩) (v := ?_) rfl (by kernel_rfl) (by kernel_rfl) (by kernel_rfl) (fun _ _ _ h => h) (Or.inl ⟨by rfl, ?_⟩) hHeld ?_
            rotate_left
            · intro ww hSw
              try dsimp only at hSw
              go_simp
              try with_reducible rfl
              try omega
            try simp only [Act.put, List.setIfInBounds_toArray, List.set_cons_zero, List.set_cons_succ]
            refine wpAnyH_take (i := 20) (oi := ⟨some 151, _, _, _, _, _⟩) (v := ?_) rfl (by kernel_rfl) (by kernel_rfl) (by kernel_rfl) (fun _ _ _ h => h) (Or.inl ⟨by rfl, ?_⟩) hHeld ?_
            rotate_left
            · intro ww hSw
              try dsimp only at hSw
              go_simp
              try with_reducible rfl
              try omega
            try simp only [Act.put, List.setIfInBounds_toArray, List.set_cons_zero, List.set_cons_succ]
            refine wpAnyH_take (i := 21) (oi := ⟨some 152, _, _, _, _, _⟩) (v := .bool false) rfl (by kernel_rfl) (by kernel_rfl) (by kernel_rfl) (fun _ _ _ h => h) (Or.inl ⟨by rfl, ?_⟩) hHeld ?_
            · intro ww hSw
              try dsimp only at hSw
              go_simp
              try with_reducible rfl
              try omega
            try simp only [Act.put, List.setIfInBounds_toArray, List.set_cons_zero, List.set_cons_succ]
            refine wpAnyH_done (by kernel_rfl) ?_ _
            replace H := H.below hHeld
            replace G := G.below hHeld
            replace J := J.below hHeld
            replace hL := hL.below hHeld
            replace h := h.below hHeld
            replace hs := hs.below hHeld
            replace hy := hy.below hHeld
            replace hA := hA.below hHeld
            replace hE := hE.below hHeld
            replace N1 := N1.below hHeld
            replace Kr := Below.then_ Kr hHeld
            replace K := Below.then_ K hHeld
            clear hHeld
            go_wp2
            go_roundw
            case rel => exact ⟨r + 1, by omega, by go_num, by first | rw [hsn.out, t4] | (rw [hsn.out]; go_num) | (rw [hsn.out]; rfl), Kr⟩
            case measure => simp [intOf]; omega
          · have g1n : (k != 1) = true := by simp [hk12]
            have g2n : (k != 2) = false := by simp [hk12]
            replace hk12 := Lib.hid hk12
            go_wp2
            refine wp_region_held_drew (S := fun w' => Below wr.heap.size wr w') (by kernel_rfl) (Below.refl _ _).drew (fun hHeld => ?_)
            generalize wr.drew = w30 at hHeld ⊢
            refine wpAnyH_take (i := 0) (oi := ⟨some 131, _, _, _, _, _⟩) (v := ?_) rfl (by kernel_rfl) (by kernel_rfl) (by kernel_rfl) (fun _ _ _ h => h) (Or.inl ⟨by rfl, ?_⟩) hHeld ?_
            rotate_left
            · intro ww hSw
              try dsimp only at hSw
              go_simp
              try with_reducible rfl
              try omega
            try simp only [Act.put, List.setIfInBounds_toArray, List.set_cons_zero, List.set_cons_succ]
            refine wpAnyH_take (i := 1) (oi := ⟨some 132, _, _, _, _, _⟩) (v := ?_) rfl (by kernel_rfl) (by kernel_rfl) (by kernel_rfl) (fun _ _ _ h => h) (Or.inl ⟨by rfl, ?_⟩) hHeld ?_
            rotate_left
            · intro ww hSw
              try dsimp only at hSw
              have H_0 := (H.below hSw).at_ (v := .int .u32 (a : Int)) 0 rfl
              have H_1 := (H.below hSw).at_ (v := .int .i64 p) 1 rfl
              have H_2 := (H.below hSw).at_ (v := .slice A n c) 2 rfl
              have H_3 := (H.below hSw).at_ (v := .int .i64 sh) 3 rfl
              have H_4 := (H.below hSw).at_ (v := .int .i64 wo) 4 rfl
              have H_5 := (H.below hSw).at_ (v := .int .i64 qu) 5 rfl
              have H_6 := (H.below hSw).at_ (v := .int .i64 tr) 6 rfl
              have G_0 := (G.below hSw).at_ (v := .int .i64 k) 0 rfl
              have G_1 := (G.below hSw).at_ (v := .int .u32 (X : Int)) 1 rfl
              have G_2 := (G.below hSw).at_ (v := .slice C q f) 2 rfl
              have J_0 := (J.below hSw).at_ (v := .int .i64 x.1) 0 rfl
              have J_1 := (J.below hSw).at_ (v := .int .u32 x.2.1) 1 rfl
              have J_2 := (J.below hSw).at_ (v := .bool x.2.2.1) 2 rfl
              have J_3 := (J.below hSw).at_ (v := .slice P p1 p2) 3 rfl
              have J_4 := (J.below hSw).at_ (v := .slice Q q1 q2) 4 rfl
              have hze := (N1.below hSw).here (j := r) hlt
              rw [hz.out] at hze
              go_simp
              try with_reducible rfl
              try omega
            try simp only [Act.put, List.setIfInBounds_toArray, List.set_cons_zero, List.set_cons_succ]
            refine wpAnyH_take (i := 2) (oi := ⟨some 133, _, _, _, _, _⟩) (v := ?_) rfl (by kernel_rfl) (by kernel_rfl) (by kernel_rfl) (fun _ _ _ h => h) (Or.inl ⟨by rfl, ?_⟩) hHeld ?_
            rotate_left
            · intro ww hSw
              try dsimp only at hSw
              go_simp
              try with_reducible rfl
              try omega
            try simp only [Act.put, List.setIfInBounds_toArray, List.set_cons_zero, List.set_cons_succ]
            refine wpAnyH_take (i := 3) (oi := ⟨some 134, _, _, _, _, _⟩) (v := .bool true) rfl (by kernel_rfl) (by kernel_rfl) (by kernel_rfl) (fun _ _ _ h => h) (Or.inl ⟨by rfl, ?_⟩) hHeld ?_
            · intro ww hSw
              try dsimp only at hSw
              go_simp
              try with_reducible rfl
              try omega
            try simp only [Act.put, List.setIfInBounds_toArray, List.set_cons_zero, List.set_cons_succ]
            refine wpAnyH_take (i := 4) (oi := ⟨some 135, _, _, _, _, _⟩) (v := ?_) rfl (by kernel_rfl) (by kernel_rfl) (by kernel_rfl) (fun _ _ _ h => h) (Or.inl ⟨by rfl, ?_⟩) hHeld ?_
            rotate_left
            · intro ww hSw
              try dsimp only at hSw
              go_simp
              try with_reducible rfl
              try omega
            try simp only [Act.put, List.setIfInBounds_toArray, List.set_cons_zero, List.set_cons_succ]
            refine wpAnyH_take (i := 5) (oi := ⟨some 136, _, _, _, _, _⟩) (v := ?_) rfl (by kernel_rfl) (by kernel_rfl) (by kernel_rfl) (fun _ _ _ h => h) (Or.inl ⟨by rfl, ?_⟩) hHeld ?_
            rotate_left
            · intro ww hSw
              try dsimp only at hSw
              have H_0 := (H.below hSw).at_ (v := .int .u32 (a : Int)) 0 rfl
              have H_1 := (H.below hSw).at_ (v := .int .i64 p) 1 rfl
              have H_2 := (H.below hSw).at_ (v := .slice A n c) 2 rfl
              have H_3 := (H.below hSw).at_ (v := .int .i64 sh) 3 rfl
              have H_4 := (H.below hSw).at_ (v := .int .i64 wo) 4 rfl
              have H_5 := (H.below hSw).at_ (v := .int .i64 qu) 5 rfl
              have H_6 := (H.below hSw).at_ (v := .int .i64 tr) 6 rfl
              have G_0 := (G.below hSw).at_ (v := .int .i64 k) 0 rfl
              have G_1 := (G.below hSw).at_ (v := .int .u32 (X : Int)) 1 rfl
              have G_2 := (G.below hSw).at_ (v := .slice C q f) 2 rfl
              have J_0 := (J.below hSw).at_ (v := .int .i64 x.1) 0 rfl
              have J_1 := (J.below hSw).at_ (v := .int .u32 x.2.1) 1 rfl
              have J_2 := (J.below hSw).at_ (v := .bool x.2.2.1) 2 rfl
              have J_3 := (J.below hSw).at_ (v := .slice P p1 p2) 3 rfl
              have J_4 := (J.below hSw).at_ (v := .slice Q q1 q2) 4 rfl
              have hze := (N1.below hSw).here (j := r) hlt
              rw [hz.out] at hze
              go_simp
              try with_reducible rfl
              try omega
            try simp only [Act.put, List.setIfInBounds_toArray, List.set_cons_zero, List.set_cons_succ]
            refine wpAnyH_take (i := 6) (oi := ⟨some 137, _, _, _, _, _⟩) (v := ?_) rfl (by kernel_rfl) (by kernel_rfl) (by kernel_rfl) (fun _ _ _ h => h) (Or.inl ⟨by rfl, ?_⟩) hHeld ?_
            rotate_left
            · intro ww hSw
              try dsimp only at hSw
              go_simp
              try with_reducible rfl
              try omega
            try simp only [Act.put, List.setIfInBounds_toArray, List.set_cons_zero, List.set_cons_succ]
            refine wpAnyH_take (i := 7) (oi := ⟨some 138, _, _, _, _, _⟩) (v := ?_) rfl (by kernel_rfl) (by kernel_rfl) (by kernel_rfl) (fun _ _ _ h => h) (Or.inl ⟨by rfl, ?_⟩) hHeld ?_
            rotate_left
            · intro ww hSw
              try dsimp only at hSw
              go_simp
              try with_reducible rfl
              try omega
            try simp only [Act.put, List.setIfInBounds_toArray, List.set_cons_zero, List.set_cons_succ]
            refine wpAnyH_take (i := 8) (oi := ⟨some 139, _, _, _, _, _⟩) (v := .bool false) rfl (by kernel_rfl) (by kernel_rfl) (by kernel_rfl) (fun _ _ _ h => h) (Or.inl ⟨by rfl, ?_⟩) hHeld ?_
            · intro ww hSw
              try dsimp only at hSw
              go_simp
              try with_reducible rfl
              try omega
            try simp only [Act.put, List.setIfInBounds_toArray, List.set_cons_zero, List.set_cons_succ]
            refine wpAnyH_take (i := 9) (oi := ⟨some 140, _, _, _, _, _⟩) (v := ?_) rfl (by kernel_rfl) (by kernel_rfl) (by kernel_rfl) (fun _ _ _ h => h) (Or.inl ⟨by rfl, ?_⟩) hHeld ?_
            rotate_left
            · intro ww hSw
              try dsimp only at hSw
              go_simp
              try with_reducible rfl
              try omega
            try simp only [Act.put, List.setIfInBounds_toArray, List.set_cons_zero, List.set_cons_succ]
            refine wpAnyH_take (i := 10) (oi := ⟨some 141, _, _, _, _, _⟩) (v := ?_) rfl (by kernel_rfl) (by kernel_rfl) (by kernel_rfl) (fun _ _ _ h => h) (Or.inl ⟨by rfl, ?_⟩) hHeld ?_
            rotate_left
            · intro ww hSw
              try dsimp only at hSw
              have H_0 := (H.below hSw).at_ (v := .int .u32 (a : Int)) 0 rfl
              have H_1 := (H.below hSw).at_ (v := .int .i64 p) 1 rfl
              have H_2 := (H.below hSw).at_ (v := .slice A n c) 2 rfl
              have H_3 := (H.below hSw).at_ (v := .int .i64 sh) 3 rfl
              have H_4 := (H.below hSw).at_ (v := .int .i64 wo) 4 rfl
              have H_5 := (H.below hSw).at_ (v := .int .i64 qu) 5 rfl
              have H_6 := (H.below hSw).at_ (v := .int .i64 tr) 6 rfl
              have G_0 := (G.below hSw).at_ (v := .int .i64 k) 0 rfl
              have G_1 := (G.below hSw).at_ (v := .int .u32 (X : Int)) 1 rfl
              have G_2 := (G.below hSw).at_ (v := .slice C q f) 2 rfl
              have J_0 := (J.below hSw).at_ (v := .int .i64 x.1) 0 rfl
              have J_1 := (J.below hSw).at_ (v := .int .u32 x.2.1) 1 rfl
              have J_2 := (J.below hSw).at_ (v := .bool x.2.2.1) 2 rfl
              have J_3 := (J.below hSw).at_ (v := .slice P p1 p2) 3 rfl
              have J_4 := (J.below hSw).at_ (v := .slice Q q1 q2) 4 rfl
              have hze := (N1.below hSw).here (j := r) hlt
              rw [hz.out] at hze
              go_simp
              try with_reducible rfl
              try omega
            try simp only [Act.put, List.setIfInBounds_toArray, List.set_cons_zero, List.set_cons_succ]
            refine wpAnyH_take (i := 11) (oi := ⟨some 142, _, _, _, _, _⟩) (v := ?_) rfl (by kernel_rfl) (by kernel_rfl) (by kernel_rfl) (fun _ _ _ h => h) (Or.inl ⟨by rfl, ?_⟩) hHeld ?_
            rotate_left
            · intro ww hSw
              try dsimp only at hSw
              go_simp
              try with_reducible rfl
              try omega
            try simp only [Act.put, List.setIfInBounds_toArray, List.set_cons_zero, List.set_cons_succ]
            refine wpAnyH_take (i := 12) (oi := ⟨some 143, _, _, _, _, _⟩) (v := ?_) rfl (by kernel_rfl) (by kernel_rfl) (by kernel_rfl) (fun _ _ _ h => h) (Or.inl ⟨by rfl, ?_⟩) hHeld ?_
            rotate_left
            · intro ww hSw
              try dsimp only at hSw
              go_simp
              try with_reducible rfl
              try omega
            try simp only [Act.put, List.setIfInBounds_toArray, List.set_cons_zero, List.set_cons_succ]
            refine wpAnyH_take (i := 13) (oi := ⟨some 144, _, _, _, _, _⟩) (v := ?_) rfl (by kernel_rfl) (by kernel_rfl) (by kernel_rfl) (fun _ _ _ h => h) (Or.inl ⟨by rfl, ?_⟩) hHeld ?_
            rotate_left
            · intro ww hSw
              try dsimp only at hSw
              have H_0 := (H.below hSw).at_ (v := .int .u32 (a : Int)) 0 rfl
              have H_1 := (H.below hSw).at_ (v := .int .i64 p) 1 rfl
              have H_2 := (H.below hSw).at_ (v := .slice A n c) 2 rfl
              have H_3 := (H.below hSw).at_ (v := .int .i64 sh) 3 rfl
              have H_4 := (H.below hSw).at_ (v := .int .i64 wo) 4 rfl
              have H_5 := (H.below hSw).at_ (v := .int .i64 qu) 5 rfl
              have H_6 := (H.below hSw).at_ (v := .int .i64 tr) 6 rfl
              have G_0 := (G.below hSw).at_ (v := .int .i64 k) 0 rfl
              have G_1 := (G.below hSw).at_ (v := .int .u32 (X : Int)) 1 rfl
              have G_2 := (G.below hSw).at_ (v := .slice C q f) 2 rfl
              have J_0 := (J.below hSw).at_ (v := .int .i64 x.1) 0 rfl
              have J_1 := (J.below hSw).at_ (v := .int .u32 x.2.1) 1 rfl
              have J_2 := (J.below hSw).at_ (v := .bool x.2.2.1) 2 rfl
              have J_3 := (J.below hSw).at_ (v := .slice P p1 p2) 3 rfl
              have J_4 := (J.below hSw).at_ (v := .slice Q q1 q2) 4 rfl
              have hze := (N1.below hSw).here (j := r) hlt
              rw [hz.out] at hze
              go_simp
              try with_reducible rfl
              try omega
            try simp only [Act.put, List.setIfInBounds_toArray, List.set_cons_zero, List.set_cons_succ]
            refine wpAnyH_take (i := 14) (oi := ⟨some 145, _, _, _, _, _⟩) (v := ?_) rfl (by kernel_rfl) (by kernel_rfl) (by kernel_rfl) (fun _ _ _ h => h) (Or.inl ⟨by rfl, ?_⟩) hHeld ?_
            rotate_left
            · intro ww hSw
              try dsimp only at hSw
              go_simp
              try with_reducible rfl
              try omega
            try simp only [Act.put, List.setIfInBounds_toArray, List.set_cons_zero, List.set_cons_succ]
            refine wpAnyH_take (i := 15) (oi := ⟨some 146, _, _, _, _, _⟩) (v := ?_) rfl (by kernel_rfl) (by kernel_rfl) (by kernel_rfl) (fun _ _ _ h => h) (Or.inl ⟨by rfl, ?_⟩) hHeld ?_
            rotate_left
            · intro ww hSw
              try dsimp only at hSw
              go_simp
              try with_reducible rfl
              try omega
            try simp only [Act.put, List.setIfInBounds_toArray, List.set_cons_zero, List.set_cons_succ]
            refine wpAnyH_take (i := 16) (oi := ⟨some 147, _, _, _, _, _⟩) (v := ?_) rfl (by kernel_rfl) (by kernel_rfl) (by kernel_rfl) (fun _ _ _ h => h) (Or.inl ⟨by rfl, ?_⟩) hHeld ?_
            rotate_left
            · intro ww hSw
              try dsimp only at hSw
              go_simp
              try with_reducible rfl
              try omega
            try simp only [Act.put, List.setIfInBounds_toArray, List.set_cons_zero, List.set_cons_succ]
            refine wpAnyH_take (i := 17) (oi := ⟨some 148, _, _, _, _, _⟩) (v := ?_) rfl (by kernel_rfl) (by kernel_rfl) (by kernel_rfl) (fun _ _ _ h => h) (Or.inl ⟨by rfl, ?_⟩) hHeld ?_
            rotate_left
            · intro ww hSw
              try dsimp only at hSw
              have H_0 := (H.below hSw).at_ (v := .int .u32 (a : Int)) 0 rfl
              have H_1 := (H.below hSw).at_ (v := .int .i64 p) 1 rfl
              have H_2 := (H.below hSw).at_ (v := .slice A n c) 2 rfl
              have H_3 := (H.below hSw).at_ (v := .int .i64 sh) 3 rfl
              have H_4 := (H.below hSw).at_ (v := .int .i64 wo) 4 rfl
              have H_5 := (H.below hSw).at_ (v := .int .i64 qu) 5 rfl
              have H_6 := (H.below hSw).at_ (v := .int .i64 tr) 6 rfl
              have G_0 := (G.below hSw).at_ (v := .int .i64 k) 0 rfl
              have G_1 := (G.below hSw).at_ (v := .int .u32 (X : Int)) 1 rfl
              have G_2 := (G.below hSw).at_ (v := .slice C q f) 2 rfl
              have J_0 := (J.below hSw).at_ (v := .int .i64 x.1) 0 rfl
              have J_1 := (J.below hSw).at_ (v := .int .u32 x.2.1) 1 rfl
              have J_2 := (J.below hSw).at_ (v := .bool x.2.2.1) 2 rfl
              have J_3 := (J.below hSw).at_ (v := .slice P p1 p2) 3 rfl
              have J_4 := (J.below hSw).at_ (v := .slice Q q1 q2) 4 rfl
              have hze := (N1.below hSw).here (j := r) hlt
              rw [hz.out] at hze
              go_simp
              try with_reducible rfl
              try omega
            try simp only [Act.put, List.setIfInBounds_toArray, List.set_cons_zero, List.set_cons_succ]
            refine wpAnyH_take (i := 18) (oi := ⟨some 149, _, _, _, _, _⟩) (v := ?_) rfl (by kernel_rfl) (by kernel_rfl) (by kernel_rfl) (fun _ _ _ h => h) (Or.inl ⟨by rfl, ?_⟩) hHeld ?_
            rotate_left
            · intro ww hSw
              try dsimp only at hSw
              go_simp
              try with_reducible rfl
              try omega
            try simp only [Act.put, List.setIfInBounds_toArray, List.set_cons_zero, List.set_cons_succ]
            refine wpAnyH_take (i := 19) (oi := ⟨some 150, _, _, _, _, _⟩) (v := ?_) rfl (by kernel_rfl) (by kernel_rfl) (by kernel_rfl) (fun _ _ _ h => h) (Or.inl ⟨by rfl, ?_⟩) hHeld ?_
            rotate_left
            · intro ww hSw
              try dsimp only at hSw
              go_simp
              try with_reducible rfl
              try omega
            try simp only [Act.put, List.setIfInBounds_toArray, List.set_cons_zero, List.set_cons_succ]
            refine wpAnyH_take (i := 20) (oi := ⟨some 151, _, _, _, _, _⟩) (v := ?_) rfl (by kernel_rfl) (by kernel_rfl) (by kernel_rfl) (fun _ _ _ h => h) (Or.inl ⟨by rfl, ?_⟩) hHeld ?_
            rotate_left
            · intro ww hSw
              try dsimp only at hSw
              go_simp
              try with_reducible rfl
              try omega
            try simp only [Act.put, List.setIfInBounds_toArray, List.set_cons_zero, List.set_cons_succ]
            refine wpAnyH_take (i := 21) (oi := ⟨some 152, _, _, _, _, _⟩) (v := .bool false) rfl (by kernel_rfl) (by kernel_rfl) (by kernel_rfl) (fun _ _ _ h => h) (Or.inl ⟨by rfl, ?_⟩) hHeld ?_
            · intro ww hSw
              try dsimp only at hSw
              go_simp
              try with_reducible rfl
              try omega
            try simp only [Act.put, List.setIfInBounds_toArray, List.set_cons_zero, List.set_cons_succ]
            refine wpAnyH_done (by kernel_rfl) ?_ _
            replace H := H.below hHeld
            replace G := G.below hHeld
            replace J := J.below hHeld
            replace hL := hL.below hHeld
            replace h := h.below hHeld
            replace hs := hs.below hHeld
            replace hy := hy.below hHeld
            replace hA := hA.below hHeld
            replace hE := hE.below hHeld
            replace N1 := N1.below hHeld
            replace Kr := Below.then_ Kr hHeld
            replace K := Below.then_ K hHeld
            clear hHeld
            go_wp2
            go_roundw
            case rel => exact ⟨r + 1, by omega, by go_num, by first | rw [hsn.out, t4] | (rw [hsn.out]; go_num) | (rw [hsn.out]; rfl), Kr⟩
            case measure => simp [intOf]; omega
      · obtain rfl : Nn = r := by omega
        rw [List.take_of_length_le (by omega)]
        clear Kr
        obtain ⟨mo, hmo⟩ : ∃ mo, nw_ xs rs = mo := ⟨_, rfl⟩
        rw [hmo] at hn3 ⊢
        clear hmo
        by_cases hk1 : k = 1
        · have g1 : (k == 1) = true := by simp [hk1]
          have g6 : ((mo : Int) != 1) = false := by have := hn3.out hk1 hx0.out; simp; omega
          replace hk1 := Lib.hid hk1
          have G_0 := G.at_ (v := .int .i64 k) 0 rfl
          have G_1 := G.at_ (v := .int .u32 (X : Int)) 1 rfl
          have G_2 := G.at_ (v := .slice C q f) 2 rfl
          have G_z := G.lt
          have J_0 := J.at_ (v := .int .i64 x.1) 0 rfl
          have J_1 := J.at_ (v := .int .u32 x.2.1) 1 rfl
          have J_2 := J.at_ (v := .bool x.2.2.1) 2 rfl
          have J_3 := J.at_ (v := .slice P p1 p2) 3 rfl
          have J_4 := J.at_ (v := .slice Q q1 q2) 4 rfl
          have J_z := J.lt
          go_wp2
          clear G_0 G_1 G_2 G_z
          clear J_0 J_1 J_2 J_3 J_4 J_z
          refine wp_region_held_drew (S := fun w' => Below w.heap.size w w' ∧ Bk w' gH 27 #[.int .u32 (a : Int), .int .i64 p, .slice A n c, .int .i64 sh, .int .i64 wo, .int .i64 qu, .int .i64 tr] ∧ Bk w' gG 30 #[.int .i64 k, .int .u32 (X : Int), .slice C q f] ∧ Bk w' gJ 34 #[.int .i64 x.1, .int .u32 x.2.1, .bool x.2.2.1, .slice P p1 p2, .slice Q q1 q2] ∧ True) (by kernel_rfl) ⟨K.drew, H.below ((Below.refl _ _).drew), G.below ((Below.refl _ _).drew), J.below ((Below.refl _ _).drew), trivial⟩ (fun hHeld => ?_)
          replace N1 := N1.below ((Below.refl _ _).drew)
          generalize wr.drew = v13 at hHeld N1 ⊢
          refine wpAnyH_take (i := 0) (oi := ⟨some 165, _, _, _, _, _⟩) (v := ?_) rfl (by kernel_rfl) (by kernel_rfl) (by kernel_rfl) (fun _ _ _ h => h) (Or.inl ⟨by rfl, ?_⟩) hHeld ?_
          rotate_left
          · intro ww hSw
            try dsimp only at hSw
            go_simp
            try with_reducible rfl
            try omega
          try simp only [Act.put, List.setIfInBounds_toArray, List.set_cons_zero, List.set_cons_succ]
          refine wpAnyH_take (i := 1) (oi := ⟨some 166, _, _, _, _, _⟩) (v := ?_) rfl (by kernel_rfl) (by kernel_rfl) (by kernel_rfl) (fun _ _ _ h => h) (Or.inl ⟨by rfl, ?_⟩) hHeld ?_
          rotate_left
          · intro ww hSw
            try dsimp only at hSw
            have G_0 := (hSw.2.2.1).at_ (v := .int .i64 k) 0 rfl
            have G_1 := (hSw.2.2.1).at_ (v := .int .u32 (X : Int)) 1 rfl
            have G_2 := (hSw.2.2.1).at_ (v := .slice C q f) 2 rfl
            have G_z := (hSw.2.2.1).lt
            have J_0 := (hSw.2.2.2.1).at_ (v := .int .i64 x.1) 0 rfl
            have J_1 := (hSw.2.2.2.1).at_ (v := .int .u32 x.2.1) 1 rfl
            have J_2 := (hSw.2.2.2.1).at_ (v := .bool x.2.2.1) 2 rfl
            have J_3 := (hSw.2.2.2.1).at_ (v := .slice P p1 p2) 3 rfl
            have J_4 := (hSw.2.2.2.1).at_ (v := .slice Q q1 q2) 4 rfl
            have J_z := (hSw.2.2.2.1).lt
            go_simp
            try with_reducible rfl
            try omega
          try simp only [Act.put, List.setIfInBounds_toArray, List.set_cons_zero, List.set_cons_succ]
          refine wpAnyH_take (i := 2) (oi := ⟨some 167, _, _, _, _, _⟩) (v := ?_) rfl (by kernel_rfl) (by kernel_rfl) (by kernel_rfl) (fun _ _ _ h => h) (Or.inl ⟨by rfl, ?_⟩) hHeld ?_
          rotate_left
          · intro ww hSw
            try dsimp only at hSw
            go_simp
            try with_reducible rfl
            try omega
          try simp only [Act.put, List.setIfInBounds_toArray, List.set_cons_zero, List.set_cons_succ]
          refine wpAnyH_take (i := 3) (oi := ⟨some 168, _, _, _, _, _⟩) (v := .bool true) rfl (by kernel_rfl) (by kernel_rfl) (by kernel_rfl) (fun _ _ _ h => h) (Or.inl ⟨by rfl, ?_⟩) hHeld ?_
          · intro ww hSw
            try dsimp only at hSw
            go_simp
            try with_reducible rfl
            try omega
          try simp only [Act.put, List.setIfInBounds_toArray, List.set_cons_zero, List.set_cons_succ]
          refine wpAnyH_take (i := 4) (oi := ⟨some 169, _, _, _, _, _⟩) (v := undef) rfl (by kernel_rfl) (by kernel_rfl) (by kernel_rfl) (fun _ _ _ h => h) (Or.inr ⟨by rfl, rfl⟩) hHeld ?_
          try simp only [Act.put, List.setIfInBounds_toArray, List.set_cons_zero, List.set_cons_succ]
          refine wpAnyH_take (i := 5) (oi := ⟨some 170, _, _, _, _, _⟩) (v := undef) rfl (by kernel_rfl) (by kernel_rfl) (by kernel_rfl) (fun _ _ _ h => h) (Or.inr ⟨by rfl, rfl⟩) hHeld ?_
          try simp only [Act.put, List.setIfInBounds_toArray, List.set_cons_zero, List.set_cons_succ]
          refine wpAnyH_take (i := 6) (oi := ⟨some 171, _, _, _, _, _⟩) (v := undef) rfl (by kernel_rfl) (by kernel_rfl) (by kernel_rfl) (fun _ _ _ h => h) (Or.inr ⟨by rfl, rfl⟩) hHeld ?_
          try simp only [Act.put, List.setIfInBounds_toArray, List.set_cons_zero, List.set_cons_succ]
          refine wpAnyH_take (i := 7) (oi := ⟨some 172, _, _, _, _, _⟩) (v := ?_) rfl (by kernel_rfl) (by kernel_rfl) (by kernel_rfl) (fun _ _ _ h => h) (Or.inl ⟨by rfl, ?_⟩) hHeld ?_
          rotate_left
          · intro ww hSw
            try dsimp only at hSw
            go_simp
            try with_reducible rfl
            try omega
          try simp only [Act.put, List.setIfInBounds_toArray, List.set_cons_zero, List.set_cons_succ]
          refine wpAnyH_take (i := 8) (oi := ⟨some 173, _, _, _, _, _⟩) (v := .bool true) rfl (by kernel_rfl) (by kernel_rfl) (by kernel_rfl) (fun _ _ _ h => h) (Or.inl ⟨by rfl, ?_⟩) hHeld ?_
          · intro ww hSw
            try dsimp only at hSw
            go_simp
            try with_reducible rfl
            try omega
          try simp only [Act.put, List.setIfInBounds_toArray, List.set_cons_zero, List.set_cons_succ]
          refine wpAnyH_take (i := 9) (oi := ⟨some 174, _, _, _, _, _⟩) (v := undef) rfl (by kernel_rfl) (by kernel_rfl) (by kernel_rfl) (fun _ _ _ h => h) (Or.inr ⟨by rfl, rfl⟩) hHeld ?_
          try simp only [Act.put, List.setIfInBounds_toArray, List.set_cons_zero, List.set_cons_succ]
          refine wpAnyH_take (i := 10) (oi := ⟨some 175, _, _, _, _, _⟩) (v := undef) rfl (by kernel_rfl) (by kernel_rfl) (by kernel_rfl) (fun _ _ _ h => h) (Or.inr ⟨by rfl, rfl⟩) hHeld ?_
          try simp only [Act.put, List.setIfInBounds_toArray, List.set_cons_zero, List.set_cons_succ]
          refine wpAnyH_take (i := 11) (oi := ⟨some 176, _, _, _, _, _⟩) (v := ?_) rfl (by kernel_rfl) (by kernel_rfl) (by kernel_rfl) (fun _ _ _ h => h) (Or.inl ⟨by rfl, ?_⟩) hHeld ?_
          rotate_left
          · intro ww hSw
            try dsimp only at hSw
            go_simp
            try with_reducible rfl
            try omega
          try simp only [Act.put, List.setIfInBounds_toArray, List.set_cons_zero, List.set_cons_succ]
          refine wpAnyH_take (i := 12) (oi := ⟨some 177, _, _, _, _, _⟩) (v := .bool true) rfl (by kernel_rfl) (by kernel_rfl) (by kernel_rfl) (fun _ _ _ h => h) (Or.inl ⟨by rfl, ?_⟩) hHeld ?_
          · intro ww hSw
            try dsimp only at hSw
            go_simp
            try with_reducible rfl
            try omega
          try simp only [Act.put, List.setIfInBounds_toArray, List.set_cons_zero, List.set_cons_succ]
          refine wpAnyH_take (i := 13) (oi := ⟨some 178, _, _, _, _, _⟩) (v := undef) rfl (by kernel_rfl) (by kernel_rfl) (by kernel_rfl) (fun _ _ _ h => h) (Or.inr ⟨by rfl, rfl⟩) hHeld ?_
          try simp only [Act.put, List.setIfInBounds_toArray, List.set_cons_zero, List.set_cons_succ]
          refine wpAnyH_take (i := 14) (oi := ⟨some 179, _, _, _, _, _⟩) (v := undef) rfl (by kernel_rfl) (by kernel_rfl) (by kernel_rfl) (fun _ _ _ h => h) (Or.inr ⟨by rfl, rfl⟩) hHeld ?_
          try simp only [Act.put, List.setIfInBounds_toArray, List.set_cons_zero, List.set_cons_succ]
          refine wpAnyH_take (i := 15) (oi := ⟨some 180, _, _, _, _, _⟩) (v := undef) rfl (by kernel_rfl) (by kernel_rfl) (by kernel_rfl) (fun _ _ _ h => h) (Or.inr ⟨by rfl, rfl⟩) hHeld ?_
          try simp only [Act.put, List.setIfInBounds_toArray, List.set_cons_zero, List.set_cons_succ]
          refine wpAnyH_take (i := 16) (oi := ⟨some 181, _, _, _, _, _⟩) (v := undef) rfl (by kernel_rfl) (by kernel_rfl) (by kernel_rfl) (fun _ _ _ h => h) (Or.inr ⟨by rfl, rfl⟩) hHeld ?_
          try simp only [Act.put, List.setIfInBounds_toArray, List.set_cons_zero, List.set_cons_succ]
          refine wpAnyH_take (i := 17) (oi := ⟨some 182, _, _, _, _, _⟩) (v := undef) rfl (by kernel_rfl) (by kernel_rfl) (by kernel_rfl) (fun _ _ _ h => h) (Or.inr ⟨by rfl, rfl⟩) hHeld ?_
          try simp only [Act.put, List.setIfInBounds_toArray, List.set_cons_zero, List.set_cons_succ]
          refine wpAnyH_take (i := 18) (oi := ⟨some 183, _, _, _, _, _⟩) (v := undef) rfl (by kernel_rfl) (by kernel_rfl) (by kernel_rfl) (fun _ _ _ h => h) (Or.inr ⟨by rfl, rfl⟩) hHeld ?_
          try simp only [Act.put, List.setIfInBounds_toArray, List.set_cons_zero, List.set_cons_succ]
          refine wpAnyH_take (i := 19) (oi := ⟨some 184, _, _, _, _, _⟩) (v := undef) rfl (by kernel_rfl) (by kernel_rfl) (by kernel_rfl) (fun _ _ _ h => h) (Or.inr ⟨by rfl, rfl⟩) hHeld ?_
          try simp only [Act.put, List.setIfInBounds_toArray, List.set_cons_zero, List.set_cons_succ]
          refine wpAnyH_take (i := 20) (oi := ⟨some 185, _, _, _, _, _⟩) (v := undef) rfl (by kernel_rfl) (by kernel_rfl) (by kernel_rfl) (fun _ _ _ h => h) (Or.inr ⟨by rfl, rfl⟩) hHeld ?_
          try simp only [Act.put, List.setIfInBounds_toArray, List.set_cons_zero, List.set_cons_succ]
          refine wpAnyH_take (i := 21) (oi := ⟨some 186, _, _, _, _, _⟩) (v := undef) rfl (by kernel_rfl) (by kernel_rfl) (by kernel_rfl) (fun _ _ _ h => h) (Or.inr ⟨by rfl, rfl⟩) hHeld ?_
          try simp only [Act.put, List.setIfInBounds_toArray, List.set_cons_zero, List.set_cons_succ]
          refine wpAnyH_take (i := 22) (oi := ⟨some 187, _, _, _, _, _⟩) (v := undef) rfl (by kernel_rfl) (by kernel_rfl) (by kernel_rfl) (fun _ _ _ h => h) (Or.inr ⟨by rfl, rfl⟩) hHeld ?_
          try simp only [Act.put, List.setIfInBounds_toArray, List.set_cons_zero, List.set_cons_succ]
          refine wpAnyH_take (i := 25) (oi := ⟨some 190, _, _, _, _, _⟩) (v := undef) rfl (by kernel_rfl) (by kernel_rfl) (by kernel_rfl) (fun _ _ _ h => h) (Or.inr ⟨by rfl, rfl⟩) hHeld ?_
          try simp only [Act.put, List.setIfInBounds_toArray, List.set_cons_zero, List.set_cons_succ]
          refine wpAnyH_take (i := 26) (oi := ⟨some 191, _, _, _, _, _⟩) (v := undef) rfl (by kernel_rfl) (by kernel_rfl) (by kernel_rfl) (fun _ _ _ h => h) (Or.inr ⟨by rfl, rfl⟩) hHeld ?_
          try simp only [Act.put, List.setIfInBounds_toArray, List.set_cons_zero, List.set_cons_succ]
          refine wpAnyH_take (i := 23) (oi := ⟨some 188, _, _, _, _, _⟩) (v := undef) rfl (by kernel_rfl) (by kernel_rfl) (by kernel_rfl) (fun _ _ _ h => h) (Or.inr ⟨by rfl, rfl⟩) hHeld ?_
          try simp only [Act.put, List.setIfInBounds_toArray, List.set_cons_zero, List.set_cons_succ]
          refine wpAnyH_take (i := 24) (oi := ⟨some 189, _, _, _, _, _⟩) (v := undef) rfl (by kernel_rfl) (by kernel_rfl) (by kernel_rfl) (fun _ _ _ h => h) (Or.inr ⟨by rfl, rfl⟩) hHeld ?_
          try simp only [Act.put, List.setIfInBounds_toArray, List.set_cons_zero, List.set_cons_succ]
          refine wpAnyH_take (i := 27) (oi := ⟨some 192, _, _, _, _, _⟩) (v := undef) rfl (by kernel_rfl) (by kernel_rfl) (by kernel_rfl) (fun _ _ _ h => h) (Or.inr ⟨by rfl, rfl⟩) hHeld ?_
          try simp only [Act.put, List.setIfInBounds_toArray, List.set_cons_zero, List.set_cons_succ]
          refine wpAnyH_take (i := 28) (oi := ⟨some 193, _, _, _, _, _⟩) (v := undef) rfl (by kernel_rfl) (by kernel_rfl) (by kernel_rfl) (fun _ _ _ h => h) (Or.inr ⟨by rfl, rfl⟩) hHeld ?_
          try simp only [Act.put, List.setIfInBounds_toArray, List.set_cons_zero, List.set_cons_succ]
          refine wpAnyH_take (i := 29) (oi := ⟨some 194, _, _, _, _, _⟩) (v := ?_) rfl (by kernel_rfl) (by kernel_rfl) (by kernel_rfl) (fun _ _ _ h => h) (Or.inl ⟨by rfl, ?_⟩) hHeld ?_
          rotate_left
          · intro ww hSw
            try dsimp only at hSw
            go_simp
            try with_reducible rfl
            try omega
          try simp only [Act.put, List.setIfInBounds_toArray, List.set_cons_zero, List.set_cons_succ]
          refine wpAnyH_take (i := 30) (oi := ⟨some 8, _, _, _, _, _⟩) (v := ?_) rfl (by kernel_rfl) (by kernel_rfl) (by kernel_rfl) (fun _ _ _ h => h) (Or.inl ⟨by rfl, ?_⟩) hHeld ?_
          rotate_left
          · intro ww hSw
            try dsimp only at hSw
            go_simp
            try with_reducible rfl
            try omega
          try simp only [Act.put, List.setIfInBounds_toArray, List.set_cons_zero, List.set_cons_succ]
          refine wpAnyH_done (by kernel_rfl) ?_ _
          replace K := hHeld.1
          replace H := hHeld.2.1
          replace G := hHeld.2.2.1
          replace J := hHeld.2.2.2.1
          clear hHeld
          replace hL := hL0.below K
          replace h := h0.below K
          replace hs := hs0.below K
          replace hy := hy0.below K
          replace hA := hA0.below K
          replace hE := hE0.below K
          go_wp2
          go_ret
          exact ⟨rfl, K⟩
        · have g1 : (k == 1) = false := by simp [hk1]
          replace hk1 := Lib.hid hk1
          have G_0 := G.at_ (v := .int .i64 k) 0 rfl
          have G_1 := G.at_ (v := .int .u32 (X : Int)) 1 rfl
          have G_2 := G.at_ (v := .slice C q f) 2 rfl
          have G_z := G.lt
          have J_0 := J.at_ (v := .int .i64 x.1) 0 rfl
          have J_1 := J.at_ (v := .int .u32 x.2.1) 1 rfl
          have J_2 := J.at_ (v := .bool x.2.2.1) 2 rfl
          have J_3 := J.at_ (v := .slice P p1 p2) 3 rfl
          have J_4 := J.at_ (v := .slice Q q1 q2) 4 rfl
          have J_z := J.lt
          go_wp2
          clear G_0 G_1 G_2 G_z
          clear J_0 J_1 J_2 J_3 J_4 J_z
          refine wp_region_held_drew (S := fun w' => Below w.heap.size w w' ∧ Bk w' gH 27 #[.int .u32 (a : Int), .int .i64 p, .slice A n c, .int .i64 sh, .int .i64 wo, .int .i64 qu, .int .i64 tr] ∧ Bk w' gG 30 #[.int .i64 k, .int .u32 (X : Int), .slice C q f] ∧ Bk w' gJ 34 #[.int .i64 x.1, .int .u32 x.2.1, .bool x.2.2.1, .slice P p1 p2, .slice Q q1 q2] ∧ True) (by kernel_rfl) ⟨K.drew, H.below ((Below.refl _ _).drew), G.below ((Below.refl _ _).drew), J.below ((Below.refl _ _).drew), trivial⟩ (fun hHeld => ?_)
          replace N1 := N1.below ((Below.refl _ _).drew)
          generalize wr.drew = v13 at hHeld N1 ⊢
          refine wpAnyH_take (i := 0) (oi := ⟨some 165, _, _, _, _, _⟩) (v := ?_) rfl (by kernel_rfl) (by kernel_rfl) (by kernel_rfl) (fun _ _ _ h => h) (Or.inl ⟨by rfl, ?_⟩) hHeld ?_
          rotate_left
          · intro ww hSw
            try dsimp only at hSw
            go_simp
            try with_reducible rfl
            try omega
          try simp only [Act.put, List.setIfInBounds_toArray, List.set_cons_zero, List.set_cons_succ]
          refine wpAnyH_take (i := 1) (oi := ⟨some 166, _, _, _, _, _⟩) (v := ?_) rfl (by kernel_rfl) (by kernel_rfl) (by kernel_rfl) (fun _ _ _ h => h) (Or.inl ⟨by rfl, ?_⟩) hHeld ?_
          rotate_left
          · intro ww hSw
            try dsimp only at hSw
            have G_0 := (hSw.2.2.1).at_ (v := .int .i64 k) 0 rfl
            have G_1 := (hSw.2.2.1).at_ (v := .int .u32 (X : Int)) 1 rfl
            have G_2 := (hSw.2.2.1).at_ (v := .slice C q f) 2 rfl
            have G_z := (hSw.2.2.1).lt
            have J_0 := (hSw.2.2.2.1).at_ (v := .int .i64 x.1) 0 rfl
            have J_1 := (hSw.2.2.2.1).at_ (v := .int .u32 x.2.1) 1 rfl
            have J_2 := (hSw.2.2.2.1).at_ (v := .bool x.2.2.1) 2 rfl
            have J_3 := (hSw.2.2.2.1).at_ (v := .slice P p1 p2) 3 rfl
            have J_4 := (hSw.2.2.2.1).at_ (v := .slice Q q1 q2) 4 rfl
            have J_z := (hSw.2.2.2.1).lt
            go_simp
            try with_reducible rfl
            try omega
          try simp only [Act.put, List.setIfInBounds_toArray, List.set_cons_zero, List.set_cons_succ]
          refine wpAnyH_take (i := 2) (oi := ⟨some 167, _, _, _, _, _⟩) (v := ?_) rfl (by kernel_rfl) (by kernel_rfl) (by kernel_rfl) (fun _ _ _ h => h) (Or.inl ⟨by rfl, ?_⟩) hHeld ?_
          rotate_left
          · intro ww hSw
            try dsimp only at hSw
            go_simp
            try with_reducible rfl
            try omega
          try simp only [Act.put, List.setIfInBounds_toArray, List.set_cons_zero, List.set_cons_succ]
          refine wpAnyH_take (i := 3) (oi := ⟨some 168, _, _, _, _, _⟩) (v := .bool true) rfl (by kernel_rfl) (by kernel_rfl) (by kernel_rfl) (fun _ _ _ h => h) (Or.inl ⟨by rfl, ?_⟩) hHeld ?_
          · intro ww hSw
            try dsimp only at hSw
            go_simp
            try with_reducible rfl
            try omega
          try simp only [Act.put, List.setIfInBounds_toArray, List.set_cons_zero, List.set_cons_succ]
          refine wpAnyH_take (i := 4) (oi := ⟨some 169, _, _, _, _, _⟩) (v := undef) rfl (by kernel_rfl) (by kernel_rfl) (by kernel_rfl) (fun _ _ _ h => h) (Or.inr ⟨by rfl, rfl⟩) hHeld ?_
          try simp only [Act.put, List.setIfInBounds_toArray, List.set_cons_zero, List.set_cons_succ]
          refine wpAnyH_take (i := 5) (oi := ⟨some 170, _, _, _, _, _⟩) (v := undef) rfl (by kernel_rfl) (by kernel_rfl) (by kernel_rfl) (fun _ _ _ h => h) (Or.inr ⟨by rfl, rfl⟩) hHeld ?_
          try simp only [Act.put, List.setIfInBounds_toArray, List.set_cons_zero, List.set_cons_succ]
          refine wpAnyH_take (i := 6) (oi := ⟨some 171, _, _, _, _, _⟩) (v := undef) rfl (by kernel_rfl) (by kernel_rfl) (by kernel_rfl) (fun _ _ _ h => h) (Or.inr ⟨by rfl, rfl⟩) hHeld ?_
          try simp only [Act.put, List.setIfInBounds_toArray, List.set_cons_zero, List.set_cons_succ]
          refine wpAnyH_take (i := 7) (oi := ⟨some 172, _, _, _, _, _⟩) (v := ?_) rfl (by kernel_rfl) (by kernel_rfl) (by kernel_rfl) (fun _ _ _ h => h) (Or.inl ⟨by rfl, ?_⟩) hHeld ?_
          rotate_left
          · intro ww hSw
            try dsimp only at hSw
            go_simp
            try with_reducible rfl
            try omega
          try simp only [Act.put, List.setIfInBounds_toArray, List.set_cons_zero, List.set_cons_succ]
          refine wpAnyH_take (i := 8) (oi := ⟨some 173, _, _, _, _, _⟩) (v := .bool true) rfl (by kernel_rfl) (by kernel_rfl) (by kernel_rfl) (fun _ _ _ h => h) (Or.inl ⟨by rfl, ?_⟩) hHeld ?_
          · intro ww hSw
            try dsimp only at hSw
            go_simp
            try with_reducible rfl
            try omega
          try simp only [Act.put, List.setIfInBounds_toArray, List.set_cons_zero, List.set_cons_succ]
          refine wpAnyH_take (i := 9) (oi := ⟨some 174, _, _, _, _, _⟩) (v := undef) rfl (by kernel_rfl) (by kernel_rfl) (by kernel_rfl) (fun _ _ _ h => h) (Or.inr ⟨by rfl, rfl⟩) hHeld ?_
          try simp only [Act.put, List.setIfInBounds_toArray, List.set_cons_zero, List.set_cons_succ]
          refine wpAnyH_take (i := 10) (oi := ⟨some 175, _, _, _, _, _⟩) (v := undef) rfl (by kernel_rfl) (by kernel_rfl) (by kernel_rfl) (fun _ _ _ h => h) (Or.inr ⟨by rfl, rfl⟩) hHeld ?_
          try simp only [Act.put, List.setIfInBounds_toArray, List.set_cons_zero, List.set_cons_succ]
          refine wpAnyH_take (i := 11) (oi := ⟨some 176, _, _, _, _, _⟩) (v := ?_) rfl (by kernel_rfl) (by kernel_rfl) (by kernel_rfl) (fun _ _ _ h => h) (Or.inl ⟨by rfl, ?_⟩) hHeld ?_
          rotate_left
          · intro ww hSw
            try dsimp only at hSw
            go_simp
            try with_reducible rfl
            try omega
          try simp only [Act.put, List.setIfInBounds_toArray, List.set_cons_zero, List.set_cons_succ]
          refine wpAnyH_take (i := 12) (oi := ⟨some 177, _, _, _, _, _⟩) (v := .bool true) rfl (by kernel_rfl) (by kernel_rfl) (by kernel_rfl) (fun _ _ _ h => h) (Or.inl ⟨by rfl, ?_⟩) hHeld ?_
          · intro ww hSw
            try dsimp only at hSw
            go_simp
            try with_reducible rfl
            try omega
          try simp only [Act.put, List.setIfInBounds_toArray, List.set_cons_zero, List.set_cons_succ]
          refine wpAnyH_take (i := 13) (oi := ⟨some 178, _, _, _, _, _⟩) (v := undef) rfl (by kernel_rfl) (by kernel_rfl) (by kernel_rfl) (fun _ _ _ h => h) (Or.inr ⟨by rfl, rfl⟩) hHeld ?_
          try simp only [Act.put, List.setIfInBounds_toArray, List.set_cons_zero, List.set_cons_succ]
          refine wpAnyH_take (i := 14) (oi := ⟨some 179, _, _, _, _, _⟩) (v := undef) rfl (by kernel_rfl) (by kernel_rfl) (by kernel_rfl) (fun _ _ _ h => h) (Or.inr ⟨by rfl, rfl⟩) hHeld ?_
          try simp only [Act.put, List.setIfInBounds_toArray, List.set_cons_zero, List.set_cons_succ]
          refine wpAnyH_take (i := 15) (oi := ⟨some 180, _, _, _, _, _⟩) (v := undef) rfl (by kernel_rfl) (by kernel_rfl) (by kernel_rfl) (fun _ _ _ h => h) (Or.inr ⟨by rfl, rfl⟩) hHeld ?_
          try simp only [Act.put, List.setIfInBounds_toArray, List.set_cons_zero, List.set_cons_succ]
          refine wpAnyH_take (i := 16) (oi := ⟨some 181, _, _, _, _, _⟩) (v := undef) rfl (by kernel_rfl) (by kernel_rfl) (by kernel_rfl) (fun _ _ _ h => h) (Or.inr ⟨by rfl, rfl⟩) hHeld ?_
          try simp only [Act.put, List.setIfInBounds_toArray, List.set_cons_zero, List.set_cons_succ]
          refine wpAnyH_take (i := 17) (oi := ⟨some 182, _, _, _, _, _⟩) (v := undef) rfl (by kernel_rfl) (by kernel_rfl) (by kernel_rfl) (fun _ _ _ h => h) (Or.inr ⟨by rfl, rfl⟩) hHeld ?_
          try simp only [Act.put, List.setIfInBounds_toArray, List.set_cons_zero, List.set_cons_succ]
          refine wpAnyH_take (i := 18) (oi := ⟨some 183, _, _, _, _, _⟩) (v := undef) rfl (by kernel_rfl) (by kernel_rfl) (by kernel_rfl) (fun _ _ _ h => h) (Or.inr ⟨by rfl, rfl⟩) hHeld ?_
          try simp only [Act.put, List.setIfInBounds_toArray, List.set_cons_zero, List.set_cons_succ]
          refine wpAnyH_take (i := 19) (oi := ⟨some 184, _, _, _, _, _⟩) (v := undef) rfl (by kernel_rfl) (by kernel_rfl) (by kernel_rfl) (fun _ _ _ h => h) (Or.inr ⟨by rfl, rfl⟩) hHeld ?_
          try simp only [Act.put, List.setIfInBounds_toArray, List.set_cons_zero, List.set_cons_succ]
          refine wpAnyH_take (i := 20) (oi := ⟨some 185, _, _, _, _, _⟩) (v := undef) rfl (by kernel_rfl) (by kernel_rfl) (by kernel_rfl) (fun _ _ _ h => h) (Or.inr ⟨by rfl, rfl⟩) hHeld ?_
          try simp only [Act.put, List.setIfInBounds_toArray, List.set_cons_zero, List.set_cons_succ]
          refine wpAnyH_take (i := 21) (oi := ⟨some 186, _, _, _, _, _⟩) (v := undef) rfl (by kernel_rfl) (by kernel_rfl) (by kernel_rfl) (fun _ _ _ h => h) (Or.inr ⟨by rfl, rfl⟩) hHeld ?_
          try simp only [Act.put, List.setIfInBounds_toArray, List.set_cons_zero, List.set_cons_succ]
          refine wpAnyH_take (i := 22) (oi := ⟨some 187, _, _, _, _, _⟩) (v := undef) rfl (by kernel_rfl) (by kernel_rfl) (by kernel_rfl) (fun _ _ _ h => h) (Or.inr ⟨by rfl, rfl⟩) hHeld ?_
          try simp only [Act.put, List.setIfInBounds_toArray, List.set_cons_zero, List.set_cons_succ]
          refine wpAnyH_take (i := 25) (oi := ⟨some 190, _, _, _, _, _⟩) (v := undef) rfl (by kernel_rfl) (by kernel_rfl) (by kernel_rfl) (fun _ _ _ h => h) (Or.inr ⟨by rfl, rfl⟩) hHeld ?_
          try simp only [Act.put, List.setIfInBounds_toArray, List.set_cons_zero, List.set_cons_succ]
          refine wpAnyH_take (i := 26) (oi := ⟨some 191, _, _, _, _, _⟩) (v := undef) rfl (by kernel_rfl) (by kernel_rfl) (by kernel_rfl) (fun _ _ _ h => h) (Or.inr ⟨by rfl, rfl⟩) hHeld ?_
          try simp only [Act.put, List.setIfInBounds_toArray, List.set_cons_zero, List.set_cons_succ]
          refine wpAnyH_take (i := 23) (oi := ⟨some 188, _, _, _, _, _⟩) (v := undef) rfl (by kernel_rfl) (by kernel_rfl) (by kernel_rfl) (fun _ _ _ h => h) (Or.inr ⟨by rfl, rfl⟩) hHeld ?_
          try simp only [Act.put, List.setIfInBounds_toArray, List.set_cons_zero, List.set_cons_succ]
          refine wpAnyH_take (i := 24) (oi := ⟨some 189, _, _, _, _, _⟩) (v := undef) rfl (by kernel_rfl) (by kernel_rfl) (by kernel_rfl) (fun _ _ _ h => h) (Or.inr ⟨by rfl, rfl⟩) hHeld ?_
          try simp only [Act.put, List.setIfInBounds_toArray, List.set_cons_zero, List.set_cons_succ]
          refine wpAnyH_take (i := 27) (oi := ⟨some 192, _, _, _, _, _⟩) (v := undef) rfl (by kernel_rfl) (by kernel_rfl) (by kernel_rfl) (fun _ _ _ h => h) (Or.inr ⟨by rfl, rfl⟩) hHeld ?_
          try simp only [Act.put, List.setIfInBounds_toArray, List.set_cons_zero, List.set_cons_succ]
          refine wpAnyH_take (i := 28) (oi := ⟨some 193, _, _, _, _, _⟩) (v := undef) rfl (by kernel_rfl) (by kernel_rfl) (by kernel_rfl) (fun _ _ _ h => h) (Or.inr ⟨by rfl, rfl⟩) hHeld ?_
          try simp only [Act.put, List.setIfInBounds_toArray, List.set_cons_zero, List.set_cons_succ]
          refine wpAnyH_take (i := 29) (oi := ⟨some 194, _, _, _, _, _⟩) (v := ?_) rfl (by kernel_rfl) (by kernel_rfl) (by kernel_rfl) (fun _ _ _ h => h) (Or.inl ⟨by rfl, ?_⟩) hHeld ?_
          rotate_left
          · intro ww hSw
            try dsimp only at hSw
            go_simp
            try with_reducible rfl
            try omega
          try simp only [Act.put, List.setIfInBounds_toArray, List.set_cons_zero, List.set_cons_succ]
          refine wpAnyH_take (i := 30) (oi := ⟨some 8, _, _, _, _, _⟩) (v := ?_) rfl (by kernel_rfl) (by kernel_rfl) (by kernel_rfl) (fun _ _ _ h => h) (Or.inl ⟨by rfl, ?_⟩) hHeld ?_
          rotate_left
          · intro ww hSw
            try dsimp only at hSw
            go_simp
            try with_reducible rfl
            try omega
          try simp only [Act.put, List.setIfInBounds_toArray, List.set_cons_zero, List.set_cons_succ]
          refine wpAnyH_done (by kernel_rfl) ?_ _
          replace K := hHeld.1
          replace H := hHeld.2.1
          replace G := hHeld.2.2.1
          replace J := hHeld.2.2.2.1
          clear hHeld
          replace hL := hL0.below K
          replace h := h0.below K
          replace hs := hs0.below K
          replace hy := hy0.below K
          replace hA := hA0.below K
          replace hE := hE0.below K
          go_wp2
          go_ret
          exact ⟨rfl, K⟩
end
end Go.Proofs.YtmakbmmnjbnfiaaDoor.specLegal
