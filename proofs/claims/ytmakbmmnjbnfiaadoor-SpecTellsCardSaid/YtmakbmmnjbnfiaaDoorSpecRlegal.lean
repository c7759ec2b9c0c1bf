/-
  The document's Legal: the set then, and whether the request is answered rightly at once; it comes to what the program's comes to. Conditions: a configuration and a set that may be; at most 60000 addresses in the request, and in the answer's lists.
-/
import Derived.Test.YtmakbmmnjbnfiaaDoorSpecLegal
import Derived.Test.YtmakbmmnjbnfiaaDoorSpecRow
namespace Go.Proofs.YtmakbmmnjbnfiaaDoor
open Go.RowKit
set_option linter.unusedVariables false
section
variable {w : World} {lo lo2 lo3 a M m d q f X : Nat} {p sh wo qu tr k : Int} {A B C : Option Addr} {n c : Nat} {zs xs ys : List Int} {lo4 lo5 p1 p2 q1 q2 : Nat} {P Q : Option Addr} {x : An}
set_option maxRecDepth 100000 in
set_option maxHeartbeats 4000000 in
theorem rlegal_early10 (ha : a < 4294967296) (hM : Much a p M) (h0 : IS .i64 lo w A n c zs) (hn : n ≤ 65536) (hs0 : IS .i64 lo2 w B m d xs) (hm : m ≤ 60000) (hx : mayR M zs 0 xs = true) (hX : X < 4294967296) (hy0 : IS .u32 lo3 w C q f ys) (hq : q ≤ 60000) (hw : W32 ys) (hA0 : IS .u32 lo4 w P p1 p2 x.2.2.2.1) (hE0 : IS .i64 lo5 w Q q1 q2 x.2.2.2.2) (b1 : p1 ≤ 60000) (b2 : q1 ≤ 60000) (hA1 : 0 ≤ x.2.1 ∧ x.2.1 < 4294967296) (h10 : x = an0 10) :
    Calls Tryd.prog 14 #[.agg #[.int .u32 (a : Int), .int .i64 p, .slice A n c, .int .i64 sh, .int .i64 wo, .int .i64 qu, .int .i64 tr], .slice B m d, .agg #[.int .i64 k, .int .u32 (X : Int), .slice C q f], .agg #[.int .i64 x.1, .int .u32 x.2.1, .bool x.2.2.1, .slice P p1 p2, .slice Q q1 q2]] w (RetLB B m (xs, true) w) := by
  replace h10 := Lib.hid h10
  have h := h0
  have hs := hs0
  have hy := hy0
  have hA := hA0
  have hE := hE0
  have K := Below.refl w.heap.size w
  go_enter Tryd.func14, Tryd.ntmps14
  go_upto_region 1 with (fail)
  have KS := K.size
  replace h := h.below (below_alloc _ (.cells #[.int .u32 (a : Int), .int .i64 p, .slice A n c, .int .i64 sh, .int .i64 wo, .int .i64 qu, .int .i64 tr] 27))
  replace hs := hs.below (below_alloc _ (.cells #[.int .u32 (a : Int), .int .i64 p, .slice A n c, .int .i64 sh, .int .i64 wo, .int .i64 qu, .int .i64 tr] 27))
  replace hy := hy.below (below_alloc _ (.cells #[.int .u32 (a : Int), .int .i64 p, .slice A n c, .int .i64 sh, .int .i64 wo, .int .i64 qu, .int .i64 tr] 27))
  replace hA := hA.below (below_alloc _ (.cells #[.int .u32 (a : Int), .int .i64 p, .slice A n c, .int .i64 sh, .int .i64 wo, .int .i64 qu, .int .i64 tr] 27))
  replace hE := hE.below (below_alloc _ (.cells #[.int .u32 (a : Int), .int .i64 p, .slice A n c, .int .i64 sh, .int .i64 wo, .int .i64 qu, .int .i64 tr] 27))
  replace K := Below.then_ K (below_alloc _ (.cells #[.int .u32 (a : Int), .int .i64 p, .slice A n c, .int .i64 sh, .int .i64 wo, .int .i64 qu, .int .i64 tr] 27))
  have H := Bk.new (w) #[.int .u32 (a : Int), .int .i64 p, .slice A n c, .int .i64 sh, .int .i64 wo, .int .i64 qu, .int .i64 tr] 27
  replace H := H.alloc (.cells #[.int .i64 k, .int .u32 (X : Int), .slice C q f] 30)
  replace h := h.below (below_alloc _ (.cells #[.int .i64 k, .int .u32 (X : Int), .slice C q f] 30))
  replace hs := hs.below (below_alloc _ (.cells #[.int .i64 k, .int .u32 (X : Int), .slice C q f] 30))
  replace hy := hy.below (below_alloc _ (.cells #[.int .i64 k, .int .u32 (X : Int), .slice C q f] 30))
  replace hA := hA.below (below_alloc _ (.cells #[.int .i64 k, .int .u32 (X : Int), .slice C q f] 30))
  replace hE := hE.below (below_alloc _ (.cells #[.int .i64 k, .int .u32 (X : Int), .slice C q f] 30))
  replace K := Below.then_ K (below_alloc _ (.cells #[.int .i64 k, .int .u32 (X : Int), .slice C q f] 30))
  have G := Bk.new ((w).alloc (.cells #[.int .u32 (a : Int), .int .i64 p, .slice A n c, .int .i64 sh, .int .i64 wo, .int .i64 qu, .int .i64 tr] 27)) #[.int .i64 k, .int .u32 (X : Int), .slice C q f] 30
  replace H := H.alloc (.cells #[.int .i64 x.1, .int .u32 x.2.1, .bool x.2.2.1, .slice P p1 p2, .slice Q q1 q2] 34)
  replace G := G.alloc (.cells #[.int .i64 x.1, .int .u32 x.2.1, .bool x.2.2.1, .slice P p1 p2, .slice Q q1 q2] 34)
  replace h := h.below (below_alloc _ (.cells #[.int .i64 x.1, .int .u32 x.2.1, .bool x.2.2.1, .slice P p1 p2, .slice Q q1 q2] 34))
  replace hs := hs.below (below_alloc _ (.cells #[.int .i64 x.1, .int .u32 x.2.1, .bool x.2.2.1, .slice P p1 p2, .slice Q q1 q2] 34))
  replace hy := hy.below (below_alloc _ (.cells #[.int .i64 x.1, .int .u32 x.2.1, .bool x.2.2.1, .slice P p1 p2, .slice Q q1 q2] 34))
  replace hA := hA.below (below_alloc _ (.cells #[.int .i64 x.1, .int .u32 x.2.1, .bool x.2.2.1, .slice P p1 p2, .slice Q q1 q2] 34))
  replace hE := hE.below (below_alloc _ (.cells #[.int .i64 x.1, .int .u32 x.2.1, .bool x.2.2.1, .slice P p1 p2, .slice Q q1 q2] 34))
  replace K := Below.then_ K (below_alloc _ (.cells #[.int .i64 x.1, .int .u32 x.2.1, .bool x.2.2.1, .slice P p1 p2, .slice Q q1 q2] 34))
  have J := Bk.new (((w).alloc (.cells #[.int .u32 (a : Int), .int .i64 p, .slice A n c, .int .i64 sh, .int .i64 wo, .int .i64 qu, .int .i64 tr] 27)).alloc (.cells #[.int .i64 k, .int .u32 (X : Int), .slice C q f] 30)) #[.int .i64 x.1, .int .u32 x.2.1, .bool x.2.2.1, .slice P p1 p2, .slice Q q1 q2] 34
  try simp only [World.size_alloc] at H G J
  generalize (((w).alloc (.cells #[.int .u32 (a : Int), .int .i64 p, .slice A n c, .int .i64 sh, .int .i64 wo, .int .i64 qu, .int .i64 tr] 27)).alloc (.cells #[.int .i64 k, .int .u32 (X : Int), .slice C q f] 30)).alloc (.cells #[.int .i64 x.1, .int .u32 x.2.1, .bool x.2.2.1, .slice P p1 p2, .slice Q q1 q2] 34) = w1 at H G J h hs hy hA hE K ⊢
  generalize hgJ : w.heap.size + 1 + 1 = gJ at H G J ⊢
  generalize hgG : w.heap.size + 1 = gG at H G J ⊢
  generalize hgH : w.heap.size = gH at H G J ⊢
  have H_b : w.heap.size ≤ gH := by omega
  have G_b : w.heap.size ≤ gG := by omega
  have J_b : w.heap.size ≤ gJ := by omega
  have ne_H_G : gH ≠ gG := by omega
  have ne_H_J : gH ≠ gJ := by omega
  have ne_G_J : gG ≠ gJ := by omega
  clear KS hgH hgG hgJ 
  have J_0 := J.at_ (v := .int .i64 x.1) 0 rfl
  have J_1 := J.at_ (v := .int .u32 x.2.1) 1 rfl
  have J_2 := J.at_ (v := .bool x.2.2.1) 2 rfl
  have J_3 := J.at_ (v := .slice P p1 p2) 3 rfl
  have J_4 := J.at_ (v := .slice Q q1 q2) 4 rfl
  have J_z := J.lt
  go_wp2_with fail
  refine (only_is (v := 10) hA hE (by omega) (by omega) (decide_eq_true h10.out)).mono ?_
  rintro e w2 ⟨rfl, K'⟩
  clear J_0 J_1 J_2 J_3 J_4 J_z
  replace H := H.below K'
  replace G := G.below K'
  replace J := J.below K'
  replace h := h.below K'
  replace hs := hs.below K'
  replace hy := hy.below K'
  replace hA := hA.below K'
  replace hE := hE.below K'
  replace K := Below.then_ K K'
  clear K'
  go_wp2
  go_ret2
  exact ⟨_, _, _, rfl, hs.lower (Nat.zero_le _), (fun _ _ h => h), K⟩
set_option maxRecDepth 100000 in
set_option maxHeartbeats 4000000 in
theorem rlegal_early12 (ha : a < 4294967296) (hM : Much a p M) (h0 : IS .i64 lo w A n c zs) (hn : n ≤ 65536) (hs0 : IS .i64 lo2 w B m d xs) (hm : m ≤ 60000) (hx : mayR M zs 0 xs = true) (hX : X < 4294967296) (hy0 : IS .u32 lo3 w C q f ys) (hq : q ≤ 60000) (hw : W32 ys) (hA0 : IS .u32 lo4 w P p1 p2 x.2.2.2.1) (hE0 : IS .i64 lo5 w Q q1 q2 x.2.2.2.2) (b1 : p1 ≤ 60000) (b2 : q1 ≤ 60000) (hA1 : 0 ≤ x.2.1 ∧ x.2.1 < 4294967296) (h10 : x ≠ an0 10) (h12 : x = an0 12) :
    Calls Tryd.prog 14 #[.agg #[.int .u32 (a : Int), .int .i64 p, .slice A n c, .int .i64 sh, .int .i64 wo, .int .i64 qu, .int .i64 tr], .slice B m d, .agg #[.int .i64 k, .int .u32 (X : Int), .slice C q f], .agg #[.int .i64 x.1, .int .u32 x.2.1, .bool x.2.2.1, .slice P p1 p2, .slice Q q1 q2]] w (RetLB B m (xs, true) w) := by
  replace h10 := Lib.hid h10
  replace h12 := Lib.hid h12
  have h := h0
  have hs := hs0
  have hy := hy0
  have hA := hA0
  have hE := hE0
  have K := Below.refl w.heap.size w
  go_enter Tryd.func14, Tryd.ntmps14
  go_upto_region 1 with (fail)
  have KS := K.size
  replace h := h.below (below_alloc _ (.cells #[.int .u32 (a : Int), .int .i64 p, .slice A n c, .int .i64 sh, .int .i64 wo, .int .i64 qu, .int .i64 tr] 27))
  replace hs := hs.below (below_alloc _ (.cells #[.int .u32 (a : Int), .int .i64 p, .slice A n c, .int .i64 sh, .int .i64 wo, .int .i64 qu, .int .i64 tr] 27))
  replace hy := hy.below (below_alloc _ (.cells #[.int .u32 (a : Int), .int .i64 p, .slice A n c, .int .i64 sh, .int .i64 wo, .int .i64 qu, .int .i64 tr] 27))
  replace hA := hA.below (below_alloc _ (.cells #[.int .u32 (a : Int), .int .i64 p, .slice A n c, .int .i64 sh, .int .i64 wo, .int .i64 qu, .int .i64 tr] 27))
  replace hE := hE.below (below_alloc _ (.cells #[.int .u32 (a : Int), .int .i64 p, .slice A n c, .int .i64 sh, .int .i64 wo, .int .i64 qu, .int .i64 tr] 27))
  replace K := Below.then_ K (below_alloc _ (.cells #[.int .u32 (a : Int), .int .i64 p, .slice A n c, .int .i64 sh, .int .i64 wo, .int .i64 qu, .int .i64 tr] 27))
  have H := Bk.new (w) #[.int .u32 (a : Int), .int .i64 p, .slice A n c, .int .i64 sh, .int .i64 wo, .int .i64 qu, .int .i64 tr] 27
  replace H := H.alloc (.cells #[.int .i64 k, .int .u32 (X : Int), .slice C q f] 30)
  replace h := h.below (below_alloc _ (.cells #[.int .i64 k, .int .u32 (X : Int), .slice C q f] 30))
  replace hs := hs.below (below_alloc _ (.cells #[.int .i64 k, .int .u32 (X : Int), .slice C q f] 30))
  replace hy := hy.below (below_alloc _ (.cells #[.int .i64 k, .int .u32 (X : Int), .slice C q f] 30))
  replace hA := hA.below (below_alloc _ (.cells #[.int .i64 k, .int .u32 (X : Int), .slice C q f] 30))
  replace hE := hE.below (below_alloc _ (.cells #[.int .i64 k, .int .u32 (X : Int), .slice C q f] 30))
  replace K := Below.then_ K (below_alloc _ (.cells #[.int .i64 k, .int .u32 (X : Int), .slice C q f] 30))
  have G := Bk.new ((w).alloc (.cells #[.int .u32 (a : Int), .int .i64 p, .slice A n c, .int .i64 sh, .int .i64 wo, .int .i64 qu, .int .i64 tr] 27)) #[.int .i64 k, .int .u32 (X : Int), .slice C q f] 30
  replace H := H.alloc (.cells #[.int .i64 x.1, .int .u32 x.2.1, .bool x.2.2.1, .slice P p1 p2, .slice Q q1 q2] 34)
  replace G := G.alloc (.cells #[.int .i64 x.1, .int .u32 x.2.1, .bool x.2.2.1, .slice P p1 p2, .slice Q q1 q2] 34)
  replace h := h.below (below_alloc _ (.cells #[.int .i64 x.1, .int .u32 x.2.1, .bool x.2.2.1, .slice P p1 p2, .slice Q q1 q2] 34))
  replace hs := hs.below (below_alloc _ (.cells #[.int .i64 x.1, .int .u32 x.2.1, .bool x.2.2.1, .slice P p1 p2, .slice Q q1 q2] 34))
  replace hy := hy.below (below_alloc _ (.cells #[.int .i64 x.1, .int .u32 x.2.1, .bool x.2.2.1, .slice P p1 p2, .slice Q q1 q2] 34))
  replace hA := hA.below (below_alloc _ (.cells #[.int .i64 x.1, .int .u32 x.2.1, .bool x.2.2.1, .slice P p1 p2, .slice Q q1 q2] 34))
  replace hE := hE.below (below_alloc _ (.cells #[.int .i64 x.1, .int .u32 x.2.1, .bool x.2.2.1, .slice P p1 p2, .slice Q q1 q2] 34))
  replace K := Below.then_ K (below_alloc _ (.cells #[.int .i64 x.1, .int .u32 x.2.1, .bool x.2.2.1, .slice P p1 p2, .slice Q q1 q2] 34))
  have J := Bk.new (((w).alloc (.cells #[.int .u32 (a : Int), .int .i64 p, .slice A n c, .int .i64 sh, .int .i64 wo, .int .i64 qu, .int .i64 tr] 27)).alloc (.cells #[.int .i64 k, .int .u32 (X : Int), .slice C q f] 30)) #[.int .i64 x.1, .int .u32 x.2.1, .bool x.2.2.1, .slice P p1 p2, .slice Q q1 q2] 34
  try simp only [World.size_alloc] at H G J
  generalize (((w).alloc (.cells #[.int .u32 (a : Int), .int .i64 p, .slice A n c, .int .i64 sh, .int .i64 wo, .int .i64 qu, .int .i64 tr] 27)).alloc (.cells #[.int .i64 k, .int .u32 (X : Int), .slice C q f] 30)).alloc (.cells #[.int .i64 x.1, .int .u32 x.2.1, .bool x.2.2.1, .slice P p1 p2, .slice Q q1 q2] 34) = w1 at H G J h hs hy hA hE K ⊢
  generalize hgJ : w.heap.size + 1 + 1 = gJ at H G J ⊢
  generalize hgG : w.heap.size + 1 = gG at H G J ⊢
  generalize hgH : w.heap.size = gH at H G J ⊢
  have H_b : w.heap.size ≤ gH := by omega
  have G_b : w.heap.size ≤ gG := by omega
  have J_b : w.heap.size ≤ gJ := by omega
  have ne_H_G : gH ≠ gG := by omega
  have ne_H_J : gH ≠ gJ := by omega
  have ne_G_J : gG ≠ gJ := by omega
  clear KS hgH hgG hgJ 
  have J_0 := J.at_ (v := .int .i64 x.1) 0 rfl
  have J_1 := J.at_ (v := .int .u32 x.2.1) 1 rfl
  have J_2 := J.at_ (v := .bool x.2.2.1) 2 rfl
  have J_3 := J.at_ (v := .slice P p1 p2) 3 rfl
  have J_4 := J.at_ (v := .slice Q q1 q2) 4 rfl
  have J_z := J.lt
  go_wp2_with fail
  refine (only_is (v := 10) hA hE (by omega) (by omega) (decide_eq_false h10.out)).mono ?_
  rintro e w2 ⟨rfl, K'⟩
  clear J_0 J_1 J_2 J_3 J_4 J_z
  replace H := H.below K'
  replace G := G.below K'
  replace J := J.below K'
  replace h := h.below K'
  replace hs := hs.below K'
  replace hy := hy.below K'
  replace hA := hA.below K'
  replace hE := hE.below K'
  replace K := Below.then_ K K'
  clear K'
  have J_0 := J.at_ (v := .int .i64 x.1) 0 rfl
  have J_1 := J.at_ (v := .int .u32 x.2.1) 1 rfl
  have J_2 := J.at_ (v := .bool x.2.2.1) 2 rfl
  have J_3 := J.at_ (v := .slice P p1 p2) 3 rfl
  have J_4 := J.at_ (v := .slice Q q1 q2) 4 rfl
  have J_z := J.lt
  go_wp2_with fail
  refine (only_is (v := 12) hA hE (by omega) (by omega) (decide_eq_true h12.out)).mono ?_
  rintro e w3 ⟨rfl, K'⟩
  clear J_0 J_1 J_2 J_3 J_4 J_z
  replace H := H.below K'
  replace G := G.below K'
  replace J := J.below K'
  replace h := h.below K'
  replace hs := hs.below K'
  replace hy := hy.below K'
  replace hA := hA.below K'
  replace hE := hE.below K'
  replace K := Below.then_ K K'
  clear K'
  go_wp2
  go_ret2
  exact ⟨_, _, _, rfl, hs.lower (Nat.zero_le _), (fun _ _ h => h), K⟩
set_option maxRecDepth 100000 in
set_option maxHeartbeats 4000000 in
theorem rlegal_wrong (ha : a < 4294967296) (hM : Much a p M) (h0 : IS .i64 lo w A n c zs) (hn : n ≤ 65536) (hs0 : IS .i64 lo2 w B m d xs) (hm : m ≤ 60000) (hx : mayR M zs 0 xs = true) (hX : X < 4294967296) (hy0 : IS .u32 lo3 w C q f ys) (hq : q ≤ 60000) (hw : W32 ys) (hA0 : IS .u32 lo4 w P p1 p2 x.2.2.2.1) (hE0 : IS .i64 lo5 w Q q1 q2 x.2.2.2.2) (b1 : p1 ≤ 60000) (b2 : q1 ≤ 60000) (hA1 : 0 ≤ x.2.1 ∧ x.2.1 < 4294967296) (h10 : x ≠ an0 10) (h12 : x ≠ an0 12) {E : Int} (he : askE a M zs k X ys = E) (hE2 : E ≠ 0) :
    Calls Tryd.prog 14 #[.agg #[.int .u32 (a : Int), .int .i64 p, .slice A n c, .int .i64 sh, .int .i64 wo, .int .i64 qu, .int .i64 tr], .slice B m d, .agg #[.int .i64 k, .int .u32 (X : Int), .slice C q f], .agg #[.int .i64 x.1, .int .u32 x.2.1, .bool x.2.2.1, .slice P p1 p2, .slice Q q1 q2]] w (RetLB B m (xs, decide (x = an0 E)) w) := by
  obtain ⟨hr_, hb_⟩ := mayR_iff.1 hx
  have hr := Lib.hid hr_
  have hMm := hM.most
  have hb2 : Hid (∀ x ∈ xs, 0 ≤ x ∧ x ≤ 65536) := Lib.hid (fun x hx => ⟨(hb_ x hx).1, by have := (hb_ x hx).2.1; omega⟩)
  clear hr_ hb_ hx
  replace h10 := Lib.hid h10
  replace h12 := Lib.hid h12
  have e1 : (E != 0) = true := by simp [hE2]
  replace he := Lib.hid he
  clear hE2
  have h := h0
  have hs := hs0
  have hy := hy0
  have hA := hA0
  have hE := hE0
  have K := Below.refl w.heap.size w
  go_enter Tryd.func14, Tryd.ntmps14
  go_upto_region 1 with (fail)
  have KS := K.size
  replace h := h.below (below_alloc _ (.cells #[.int .u32 (a : Int), .int .i64 p, .slice A n c, .int .i64 sh, .int .i64 wo, .int .i64 qu, .int .i64 tr] 27))
  replace hs := hs.below (below_alloc _ (.cells #[.int .u32 (a : Int), .int .i64 p, .slice A n c, .int .i64 sh, .int .i64 wo, .int .i64 qu, .int .i64 tr] 27))
  replace hy := hy.below (below_alloc _ (.cells #[.int .u32 (a : Int), .int .i64 p, .slice A n c, .int .i64 sh, .int .i64 wo, .int .i64 qu, .int .i64 tr] 27))
  replace hA := hA.below (below_alloc _ (.cells #[.int .u32 (a : Int), .int .i64 p, .slice A n c, .int .i64 sh, .int .i64 wo, .int .i64 qu, .int .i64 tr] 27))
  replace hE := hE.below (below_alloc _ (.cells #[.int .u32 (a : Int), .int .i64 p, .slice A n c, .int .i64 sh, .int .i64 wo, .int .i64 qu, .int .i64 tr] 27))
  replace K := Below.then_ K (below_alloc _ (.cells #[.int .u32 (a : Int), .int .i64 p, .slice A n c, .int .i64 sh, .int .i64 wo, .int .i64 qu, .int .i64 tr] 27))
  have H := Bk.new (w) #[.int .u32 (a : Int), .int .i64 p, .slice A n c, .int .i64 sh, .int .i64 wo, .int .i64 qu, .int .i64 tr] 27
  replace H := H.alloc (.cells #[.int .i64 k, .int .u32 (X : Int), .slice C q f] 30)
  replace h := h.below (below_alloc _ (.cells #[.int .i64 k, .int .u32 (X : Int), .slice C q f] 30))
  replace hs := hs.below (below_alloc _ (.cells #[.int .i64 k, .int .u32 (X : Int), .slice C q f] 30))
  replace hy := hy.below (below_alloc _ (.cells #[.int .i64 k, .int .u32 (X : Int), .slice C q f] 30))
  replace hA := hA.below (below_alloc _ (.cells #[.int .i64 k, .int .u32 (X : Int), .slice C q f] 30))
  replace hE := hE.below (below_alloc _ (.cells #[.int .i64 k, .int .u32 (X : Int), .slice C q f] 30))
  replace K := Below.then_ K (below_alloc _ (.cells #[.int .i64 k, .int .u32 (X : Int), .slice C q f] 30))
  have G := Bk.new ((w).alloc (.cells #[.int .u32 (a : Int), .int .i64 p, .slice A n c, .int .i64 sh, .int .i64 wo, .int .i64 qu, .int .i64 tr] 27)) #[.int .i64 k, .int .u32 (X : Int), .slice C q f] 30
  replace H := H.alloc (.cells #[.int .i64 x.1, .int .u32 x.2.1, .bool x.2.2.1, .slice P p1 p2, .slice Q q1 q2] 34)
  replace G := G.alloc (.cells #[.int .i64 x.1, .int .u32 x.2.1, .bool x.2.2.1, .slice P p1 p2, .slice Q q1 q2] 34)
  replace h := h.below (below_alloc _ (.cells #[.int .i64 x.1, .int .u32 x.2.1, .bool x.2.2.1, .slice P p1 p2, .slice Q q1 q2] 34))
  replace hs := hs.below (below_alloc _ (.cells #[.int .i64 x.1, .int .u32 x.2.1, .bool x.2.2.1, .slice P p1 p2, .slice Q q1 q2] 34))
  replace hy := hy.below (below_alloc _ (.cells #[.int .i64 x.1, .int .u32 x.2.1, .bool x.2.2.1, .slice P p1 p2, .slice Q q1 q2] 34))
  replace hA := hA.below (below_alloc _ (.cells #[.int .i64 x.1, .int .u32 x.2.1, .bool x.2.2.1, .slice P p1 p2, .slice Q q1 q2] 34))
  replace hE := hE.below (below_alloc _ (.cells #[.int .i64 x.1, .int .u32 x.2.1, .bool x.2.2.1, .slice P p1 p2, .slice Q q1 q2] 34))
  replace K := Below.then_ K (below_alloc _ (.cells #[.int .i64 x.1, .int .u32 x.2.1, .bool x.2.2.1, .slice P p1 p2, .slice Q q1 q2] 34))
  have J := Bk.new (((w).alloc (.cells #[.int .u32 (a : Int), .int .i64 p, .slice A n c, .int .i64 sh, .int .i64 wo, .int .i64 qu, .int .i64 tr] 27)).alloc (.cells #[.int .i64 k, .int .u32 (X : Int), .slice C q f] 30)) #[.int .i64 x.1, .int .u32 x.2.1, .bool x.2.2.1, .slice P p1 p2, .slice Q q1 q2] 34
  try simp only [World.size_alloc] at H G J
  generalize (((w).alloc (.cells #[.int .u32 (a : Int), .int .i64 p, .slice A n c, .int .i64 sh, .int .i64 wo, .int .i64 qu, .int .i64 tr] 27)).alloc (.cells #[.int .i64 k, .int .u32 (X : Int), .slice C q f] 30)).alloc (.cells #[.int .i64 x.1, .int .u32 x.2.1, .bool x.2.2.1, .slice P p1 p2, .slice Q q1 q2] 34) = w1 at H G J h hs hy hA hE K ⊢
  generalize hgJ : w.heap.size + 1 + 1 = gJ at H G J ⊢
  generalize hgG : w.heap.size + 1 = gG at H G J ⊢
  generalize hgH : w.heap.size = gH at H G J ⊢
  have H_b : w.heap.size ≤ gH := by omega
  have G_b : w.heap.size ≤ gG := by omega
  have J_b : w.heap.size ≤ gJ := by omega
  have ne_H_G : gH ≠ gG := by omega
  have ne_H_J : gH ≠ gJ := by omega
  have ne_G_J : gG ≠ gJ := by omega
  clear KS hgH hgG hgJ 
  have J_0 := J.at_ (v := .int .i64 x.1) 0 rfl
  have J_1 := J.at_ (v := .int .u32 x.2.1) 1 rfl
  have J_2 := J.at_ (v := .bool x.2.2.1) 2 rfl
  have J_3 := J.at_ (v := .slice P p1 p2) 3 rfl
  have J_4 := J.at_ (v := .slice Q q1 q2) 4 rfl
  have J_z := J.lt
  go_wp2_with fail
  refine (only_is (v := 10) hA hE (by omega) (by omega) (decide_eq_false h10.out)).mono ?_
  rintro e w2 ⟨rfl, K'⟩
  clear J_0 J_1 J_2 J_3 J_4 J_z
  replace H := H.below K'
  replace G := G.below K'
  replace J := J.below K'
  replace h := h.below K'
  replace hs := hs.below K'
  replace hy := hy.below K'
  replace hA := hA.below K'
  replace hE := hE.below K'
  replace K := Below.then_ K K'
  clear K'
  have J_0 := J.at_ (v := .int .i64 x.1) 0 rfl
  have J_1 := J.at_ (v := .int .u32 x.2.1) 1 rfl
  have J_2 := J.at_ (v := .bool x.2.2.1) 2 rfl
  have J_3 := J.at_ (v := .slice P p1 p2) 3 rfl
  have J_4 := J.at_ (v := .slice Q q1 q2) 4 rfl
  have J_z := J.lt
  go_wp2_with fail
  refine (only_is (v := 12) hA hE (by omega) (by omega) (decide_eq_false h12.out)).mono ?_
  rintro e w3 ⟨rfl, K'⟩
  clear J_0 J_1 J_2 J_3 J_4 J_z
  replace H := H.below K'
  replace G := G.below K'
  replace J := J.below K'
  replace h := h.below K'
  replace hs := hs.below K'
  replace hy := hy.below K'
  replace hA := hA.below K'
  replace hE := hE.below K'
  replace K := Below.then_ K K'
  clear K'
  have H_0 := H.at_ (v := .int .u32 (a : Int)) 0 rfl
  have H_1 := H.at_ (v := .int .i64 p) 1 rfl
  have H_2 := H.at_ (v := .slice A n c) 2 rfl
  have H_3 := H.at_ (v := .int .i64 sh) 3 rfl
  have H_4 := H.at_ (v := .int .i64 wo) 4 rfl
  have H_5 := H.at_ (v := .int .i64 qu) 5 rfl
  have H_6 := H.at_ (v := .int .i64 tr) 6 rfl
  have H_z := H.lt
  have G_0 := G.at_ (v := .int .i64 k) 0 rfl
  have G_1 := G.at_ (v := .int .u32 (X : Int)) 1 rfl
  have G_2 := G.at_ (v := .slice C q f) 2 rfl
  have G_z := G.lt
  go_wp2_with fail
  refine (rcheck_is hM h hn hy hq hX hw he.out).mono ?_
  rintro e w4 ⟨rfl, K'⟩
  clear H_0 H_1 H_2 H_3 H_4 H_5 H_6 H_z
  clear G_0 G_1 G_2 G_z
  replace H := H.below K'
  replace G := G.below K'
  replace J := J.below K'
  replace h := h.below K'
  replace hs := hs.below K'
  replace hy := hy.below K'
  replace hA := hA.below K'
  replace hE := hE.below K'
  replace K := Below.then_ K K'
  clear K'
  have J_0 := J.at_ (v := .int .i64 x.1) 0 rfl
  have J_1 := J.at_ (v := .int .u32 x.2.1) 1 rfl
  have J_2 := J.at_ (v := .bool x.2.2.1) 2 rfl
  have J_3 := J.at_ (v := .slice P p1 p2) 3 rfl
  have J_4 := J.at_ (v := .slice Q q1 q2) 4 rfl
  have J_z := J.lt
  go_wp2_with fail
  refine (only_any hA hE (by omega) (by omega) E).mono ?_
  rintro e w5 ⟨rfl, K'⟩
  clear J_0 J_1 J_2 J_3 J_4 J_z
  replace H := H.below K'
  replace G := G.below K'
  replace J := J.below K'
  replace h := h.below K'
  replace hs := hs.below K'
  replace hy := hy.below K'
  replace hA := hA.below K'
  replace hE := hE.below K'
  replace K := Below.then_ K K'
  clear K'
  go_wp2
  go_ret2
  exact ⟨_, _, _, rfl, hs.lower (Nat.zero_le _), (fun _ _ h => h), K⟩
set_option maxRecDepth 100000 in
set_option maxHeartbeats 4000000 in
theorem rlegal_1 (ha : a < 4294967296) (hM : Much a p M) (h0 : IS .i64 lo w A n c zs) (hn : n ≤ 65536) (hs0 : IS .i64 lo2 w B m d xs) (hm : m ≤ 60000) (hx : mayR M zs 0 xs = true) (hX : X < 4294967296) (hy0 : IS .u32 lo3 w C q f ys) (hq : q ≤ 60000) (hw : W32 ys) (hA0 : IS .u32 lo4 w P p1 p2 x.2.2.2.1) (hE0 : IS .i64 lo5 w Q q1 q2 x.2.2.2.2) (b1 : p1 ≤ 60000) (b2 : q1 ≤ 60000) (hA1 : 0 ≤ x.2.1 ∧ x.2.1 < 4294967296) (h10 : x ≠ an0 10) (h12 : x ≠ an0 12) (he : askE a M zs 1 X ys = 0) :
    Calls Tryd.prog 14 #[.agg #[.int .u32 (a : Int), .int .i64 p, .slice A n c, .int .i64 sh, .int .i64 wo, .int .i64 qu, .int .i64 tr], .slice B m d, .agg #[.int .i64 1, .int .u32 (X : Int), .slice C q f], .agg #[.int .i64 x.1, .int .u32 x.2.1, .bool x.2.2.1, .slice P p1 p2, .slice Q q1 q2]] w (RetLB B m (doR a M zs xs 1 X ys x) w) := by
  obtain ⟨hr_, hb_⟩ := mayR_iff.1 hx
  have hr := Lib.hid hr_
  have hMm := hM.most
  have hb2 : Hid (∀ x ∈ xs, 0 ≤ x ∧ x ≤ 65536) := Lib.hid (fun x hx => ⟨(hb_ x hx).1, by have := (hb_ x hx).2.1; omega⟩)
  clear hr_ hb_ hx
  replace h10 := Lib.hid h10
  replace h12 := Lib.hid h12
  replace he := Lib.hid he
  obtain ⟨v, hv⟩ : ∃ v, ofO a M X = v := ⟨_, rfl⟩
  obtain ⟨u, hu⟩ : ∃ u, hasB xs v = u := ⟨_, rfl⟩
  have TO := fun w => Lib.hid (show Calls _ _ _ _ _ from by have T := roffset_any (w := w) X hX hM; rw [hv] at T; exact T)
  have TH := fun w (hs : IS .i64 lo2 w B m d xs) => Lib.hid (show Calls _ _ _ _ _ from by have T := rhas9_any hs (by omega) v; rw [hu] at T; exact T)
  generalize hR : doR a M zs xs 1 X ys x = r
  rw [doR_1] at hR
  try rw [hv] at hR
  try rw [hu] at hR
  replace hR := Lib.hid hR
  replace hv := Lib.hid hv
  replace hu := Lib.hid hu
  have h := h0
  have hs := hs0
  have hy := hy0
  have hA := hA0
  have hE := hE0
  have K := Below.refl w.heap.size w
  go_enter Tryd.func14, Tryd.ntmps14
  go_upto_region 1 with (fail)
  have KS := K.size
  replace h := h.below (below_alloc _ (.cells #[.int .u32 (a : Int), .int .i64 p, .slice A n c, .int .i64 sh, .int .i64 wo, .int .i64 qu, .int .i64 tr] 27))
  replace hs := hs.below (below_alloc _ (.cells #[.int .u32 (a : Int), .int .i64 p, .slice A n c, .int .i64 sh, .int .i64 wo, .int .i64 qu, .int .i64 tr] 27))
  replace hy := hy.below (below_alloc _ (.cells #[.int .u32 (a : Int), .int .i64 p, .slice A n c, .int .i64 sh, .int .i64 wo, .int .i64 qu, .int .i64 tr] 27))
  replace hA := hA.below (below_alloc _ (.cells #[.int .u32 (a : Int), .int .i64 p, .slice A n c, .int .i64 sh, .int .i64 wo, .int .i64 qu, .int .i64 tr] 27))
  replace hE := hE.below (below_alloc _ (.cells #[.int .u32 (a : Int), .int .i64 p, .slice A n c, .int .i64 sh, .int .i64 wo, .int .i64 qu, .int .i64 tr] 27))
  replace K := Below.then_ K (below_alloc _ (.cells #[.int .u32 (a : Int), .int .i64 p, .slice A n c, .int .i64 sh, .int .i64 wo, .int .i64 qu, .int .i64 tr] 27))
  have H := Bk.new (w) #[.int .u32 (a : Int), .int .i64 p, .slice A n c, .int .i64 sh, .int .i64 wo, .int .i64 qu, .int .i64 tr] 27
  replace H := H.alloc (.cells #[.int .i64 1, .int .u32 (X : Int), .slice C q f] 30)
  replace h := h.below (below_alloc _ (.cells #[.int .i64 1, .int .u32 (X : Int), .slice C q f] 30))
  replace hs := hs.below (below_alloc _ (.cells #[.int .i64 1, .int .u32 (X : Int), .slice C q f] 30))
  replace hy := hy.below (below_alloc _ (.cells #[.int .i64 1, .int .u32 (X : Int), .slice C q f] 30))
  replace hA := hA.below (below_alloc _ (.cells #[.int .i64 1, .int .u32 (X : Int), .slice C q f] 30))
  replace hE := hE.below (below_alloc _ (.cells #[.int .i64 1, .int .u32 (X : Int), .slice C q f] 30))
  replace K := Below.then_ K (below_alloc _ (.cells #[.int .i64 1, .int .u32 (X : Int), .slice C q f] 30))
  have G := Bk.new ((w).alloc (.cells #[.int .u32 (a : Int), .int .i64 p, .slice A n c, .int .i64 sh, .int .i64 wo, .int .i64 qu, .int .i64 tr] 27)) #[.int .i64 1, .int .u32 (X : Int), .slice C q f] 30
  replace H := H.alloc (.cells #[.int .i64 x.1, .int .u32 x.2.1, .bool x.2.2.1, .slice P p1 p2, .slice Q q1 q2] 34)
  replace G := G.alloc (.cells #[.int .i64 x.1, .int .u32 x.2.1, .bool x.2.2.1, .slice P p1 p2, .slice Q q1 q2] 34)
  replace h := h.below (below_alloc _ (.cells #[.int .i64 x.1, .int .u32 x.2.1, .bool x.2.2.1, .slice P p1 p2, .slice Q q1 q2] 34))
  replace hs := hs.below (below_alloc _ (.cells #[.int .i64 x.1, .int .u32 x.2.1, .bool x.2.2.1, .slice P p1 p2, .slice Q q1 q2] 34))
  replace hy := hy.below (below_alloc _ (.cells #[.int .i64 x.1, .int .u32 x.2.1, .bool x.2.2.1, .slice P p1 p2, .slice Q q1 q2] 34))
  replace hA := hA.below (below_alloc _ (.cells #[.int .i64 x.1, .int .u32 x.2.1, .bool x.2.2.1, .slice P p1 p2, .slice Q q1 q2] 34))
  replace hE := hE.below (below_alloc _ (.cells #[.int .i64 x.1, .int .u32 x.2.1, .bool x.2.2.1, .slice P p1 p2, .slice Q q1 q2] 34))
  replace K := Below.then_ K (below_alloc _ (.cells #[.int .i64 x.1, .int .u32 x.2.1, .bool x.2.2.1, .slice P p1 p2, .slice Q q1 q2] 34))
  have J := Bk.new (((w).alloc (.cells #[.int .u32 (a : Int), .int .i64 p, .slice A n c, .int .i64 sh, .int .i64 wo, .int .i64 qu, .int .i64 tr] 27)).alloc (.cells #[.int .i64 1, .int .u32 (X : Int), .slice C q f] 30)) #[.int .i64 x.1, .int .u32 x.2.1, .bool x.2.2.1, .slice P p1 p2, .slice Q q1 q2] 34
  try simp only [World.size_alloc] at H G J
  generalize (((w).alloc (.cells #[.int .u32 (a : Int), .int .i64 p, .slice A n c, .int .i64 sh, .int .i64 wo, .int .i64 qu, .int .i64 tr] 27)).alloc (.cells #[.int .i64 1, .int .u32 (X : Int), .slice C q f] 30)).alloc (.cells #[.int .i64 x.1, .int .u32 x.2.1, .bool x.2.2.1, .slice P p1 p2, .slice Q q1 q2] 34) = w1 at H G J h hs hy hA hE K ⊢
  generalize hgJ : w.heap.size + 1 + 1 = gJ at H G J ⊢
  generalize hgG : w.heap.size + 1 = gG at H G J ⊢
  generalize hgH : w.heap.size = gH at H G J ⊢
  have H_b : w.heap.size ≤ gH := by omega
  have G_b : w.heap.size ≤ gG := by omega
  have J_b : w.heap.size ≤ gJ := by omega
  have ne_H_G : gH ≠ gG := by omega
  have ne_H_J : gH ≠ gJ := by omega
  have ne_G_J : gG ≠ gJ := by omega
  clear KS hgH hgG hgJ 
  have J_0 := J.at_ (v := .int .i64 x.1) 0 rfl
  have J_1 := J.at_ (v := .int .u32 x.2.1) 1 rfl
  have J_2 := J.at_ (v := .bool x.2.2.1) 2 rfl
  have J_3 := J.at_ (v := .slice P p1 p2) 3 rfl
  have J_4 := J.at_ (v := .slice Q q1 q2) 4 rfl
  have J_z := J.lt
  go_wp2_with fail
  refine (only_is (v := 10) hA hE (by omega) (by omega) (decide_eq_false h10.out)).mono ?_
  rintro e w2 ⟨rfl, K'⟩
  clear J_0 J_1 J_2 J_3 J_4 J_z
  replace H := H.below K'
  replace G := G.below K'
  replace J := J.below K'
  replace h := h.below K'
  replace hs := hs.below K'
  replace hy := hy.below K'
  replace hA := hA.below K'
  replace hE := hE.below K'
  replace K := Below.then_ K K'
  clear K'
  have J_0 := J.at_ (v := .int .i64 x.1) 0 rfl
  have J_1 := J.at_ (v := .int .u32 x.2.1) 1 rfl
  have J_2 := J.at_ (v := .bool x.2.2.1) 2 rfl
  have J_3 := J.at_ (v := .slice P p1 p2) 3 rfl
  have J_4 := J.at_ (v := .slice Q q1 q2) 4 rfl
  have J_z := J.lt
  go_wp2_with fail
  refine (only_is (v := 12) hA hE (by omega) (by omega) (decide_eq_false h12.out)).mono ?_
  rintro e w3 ⟨rfl, K'⟩
  clear J_0 J_1 J_2 J_3 J_4 J_z
  replace H := H.below K'
  replace G := G.below K'
  replace J := J.below K'
  replace h := h.below K'
  replace hs := hs.below K'
  replace hy := hy.below K'
  replace hA := hA.below K'
  replace hE := hE.below K'
  replace K := Below.then_ K K'
  clear K'
  have H_0 := H.at_ (v := .int .u32 (a : Int)) 0 rfl
  have H_1 := H.at_ (v := .int .i64 p) 1 rfl
  have H_2 := H.at_ (v := .slice A n c) 2 rfl
  have H_3 := H.at_ (v := .int .i64 sh) 3 rfl
  have H_4 := H.at_ (v := .int .i64 wo) 4 rfl
  have H_5 := H.at_ (v := .int .i64 qu) 5 rfl
  have H_6 := H.at_ (v := .int .i64 tr) 6 rfl
  have H_z := H.lt
  have G_0 := G.at_ (v := .int .i64 1) 0 rfl
  have G_1 := G.at_ (v := .int .u32 (X : Int)) 1 rfl
  have G_2 := G.at_ (v := .slice C q f) 2 rfl
  have G_z := G.lt
  go_wp2_with fail
  refine (rcheck_is (k := 1) hM h hn hy hq hX hw he.out).mono ?_
  rintro e w4 ⟨rfl, K'⟩
  clear H_0 H_1 H_2 H_3 H_4 H_5 H_6 H_z
  clear G_0 G_1 G_2 G_z
  replace H := H.below K'
  replace G := G.below K'
  replace J := J.below K'
  replace h := h.below K'
  replace hs := hs.below K'
  replace hy := hy.below K'
  replace hA := hA.below K'
  replace hE := hE.below K'
  replace K := Below.then_ K K'
  clear K'
  have H_0 := H.at_ (v := .int .u32 (a : Int)) 0 rfl
  have H_1 := H.at_ (v := .int .i64 p) 1 rfl
  have H_2 := H.at_ (v := .slice A n c) 2 rfl
  have H_3 := H.at_ (v := .int .i64 sh) 3 rfl
  have H_4 := H.at_ (v := .int .i64 wo) 4 rfl
  have H_5 := H.at_ (v := .int .i64 qu) 5 rfl
  have H_6 := H.at_ (v := .int .i64 tr) 6 rfl
  have H_z := H.lt
  have G_0 := G.at_ (v := .int .i64 1) 0 rfl
  have G_1 := G.at_ (v := .int .u32 (X : Int)) 1 rfl
  have G_2 := G.at_ (v := .slice C q f) 2 rfl
  have G_z := G.lt
  go_wp2_with fail
  refine ((TO _).out).mono ?_
  rintro e w5 ⟨rfl, K'⟩
  clear H_0 H_1 H_2 H_3 H_4 H_5 H_6 H_z
  clear G_0 G_1 G_2 G_z
  replace H := H.below K'
  replace G := G.below K'
  replace J := J.below K'
  replace h := h.below K'
  replace hs := hs.below K'
  replace hy := hy.below K'
  replace hA := hA.below K'
  replace hE := hE.below K'
  replace K := Below.then_ K K'
  clear K'
  go_wp2_with fail
  refine (TH _ hs).out.mono ?_
  rintro e _ ⟨rfl, rfl⟩
  clear TO TH he
  have TF := fun w (h : IS .i64 lo w A n c zs) => Lib.hid (show Calls _ _ #[.agg #[.int .u32 (a : Int), .int .i64 p, .slice A n c, .int .i64 sh, .int .i64 wo, .int .i64 qu, .int .i64 tr], .int .u32 x.2.1] _ _ from by have T := rfind_any (w := w) (p := p) (sh := sh) (wo := wo) (qu := qu) (tr := tr) x.2.1.toNat (by omega) hM h hn; rw [Int.toNat_of_nonneg hA1.1] at T; exact T)
  generalize fiO a M x.2.1.toNat zs = F at TF hR
  generalize fiE a M x.2.1.toNat zs = G_ at TF hR
  replace hA1 := Lib.hid hA1
  have G_0 := G.at_ (v := .int .i64 1) 0 rfl
  have G_1 := G.at_ (v := .int .u32 (X : Int)) 1 rfl
  have G_2 := G.at_ (v := .slice C q f) 2 rfl
  have G_z := G.lt
  by_cases h9 : x = an0 9
  · replace h9 := Lib.hid h9
    have J_0 := J.at_ (v := .int .i64 x.1) 0 rfl
    have J_1 := J.at_ (v := .int .u32 x.2.1) 1 rfl
    have J_2 := J.at_ (v := .bool x.2.2.1) 2 rfl
    have J_3 := J.at_ (v := .slice P p1 p2) 3 rfl
    have J_4 := J.at_ (v := .slice Q q1 q2) 4 rfl
    have J_z := J.lt
    go_wp2_with fail
    refine (only_is (v := 9) hA hE (by omega) (by omega) (decide_eq_true h9.out)).mono ?_
    rintro e w6 ⟨rfl, K'⟩
    clear J_0 J_1 J_2 J_3 J_4 J_z
    replace H := H.below K'
    replace G := G.below K'
    replace J := J.below K'
    replace h := h.below K'
    replace hs := hs.below K'
    replace hy := hy.below K'
    replace hA := hA.below K'
    replace hE := hE.below K'
    replace K := Below.then_ K K'
    clear K'
    have H_0 := H.at_ (v := .int .u32 (a : Int)) 0 rfl
    have H_1 := H.at_ (v := .int .i64 p) 1 rfl
    have H_2 := H.at_ (v := .slice A n c) 2 rfl
    have H_3 := H.at_ (v := .int .i64 sh) 3 rfl
    have H_4 := H.at_ (v := .int .i64 wo) 4 rfl
    have H_5 := H.at_ (v := .int .i64 qu) 5 rfl
    have H_6 := H.at_ (v := .int .i64 tr) 6 rfl
    have H_z := H.lt
    go_wp2_with fail
    refine (rfull_any hM h hn hs (by omega)).mono ?_
    rintro e w7 ⟨rfl, K'⟩
    clear H_0 H_1 H_2 H_3 H_4 H_5 H_6 H_z
    replace H := H.below K'
    replace G := G.below K'
    replace J := J.below K'
    replace h := h.below K'
    replace hs := hs.below K'
    replace hy := hy.below K'
    replace hA := hA.below K'
    replace hE := hE.below K'
    replace K := Below.then_ K K'
    clear K'
    obtain rfl : r = (xs, fullB M zs xs) := by rw [← hR.out]; rw [if_pos h9.out]
    go_wp2
    go_ret2
    exact ⟨_, _, _, rfl, hs.lower (Nat.zero_le _), (fun _ _ h => h), K⟩
  · replace h9 := Lib.hid h9
    have J_0 := J.at_ (v := .int .i64 x.1) 0 rfl
    have J_1 := J.at_ (v := .int .u32 x.2.1) 1 rfl
    have J_2 := J.at_ (v := .bool x.2.2.1) 2 rfl
    have J_3 := J.at_ (v := .slice P p1 p2) 3 rfl
    have J_4 := J.at_ (v := .slice Q q1 q2) 4 rfl
    have J_z := J.lt
    go_wp2_with fail
    refine (only_is (v := 9) hA hE (by omega) (by omega) (decide_eq_false h9.out)).mono ?_
    rintro e w6 ⟨rfl, K'⟩
    clear J_0 J_1 J_2 J_3 J_4 J_z
    replace H := H.below K'
    replace G := G.below K'
    replace J := J.below K'
    replace h := h.below K'
    replace hs := hs.below K'
    replace hy := hy.below K'
    replace hA := hA.below K'
    replace hE := hE.below K'
    replace K := Below.then_ K K'
    clear K'
    have H_0 := H.at_ (v := .int .u32 (a : Int)) 0 rfl
    have H_1 := H.at_ (v := .int .i64 p) 1 rfl
    have H_2 := H.at_ (v := .slice A n c) 2 rfl
    have H_3 := H.at_ (v := .int .i64 sh) 3 rfl
    have H_4 := H.at_ (v := .int .i64 wo) 4 rfl
    have H_5 := H.at_ (v := .int .i64 qu) 5 rfl
    have H_6 := H.at_ (v := .int .i64 tr) 6 rfl
    have H_z := H.lt
    have J_0 := J.at_ (v := .int .i64 x.1) 0 rfl
    have J_1 := J.at_ (v := .int .u32 x.2.1) 1 rfl
    have J_2 := J.at_ (v := .bool x.2.2.1) 2 rfl
    have J_3 := J.at_ (v := .slice P p1 p2) 3 rfl
    have J_4 := J.at_ (v := .slice Q q1 q2) 4 rfl
    have J_z := J.lt
    go_wp2_with fail
    refine ((TF _ h).out).mono ?_
    rintro e w7 ⟨rfl, K'⟩
    clear H_0 H_1 H_2 H_3 H_4 H_5 H_6 H_z
    clear J_0 J_1 J_2 J_3 J_4 J_z
    replace H := H.below K'
    replace G := G.below K'
    replace J := J.below K'
    replace h := h.below K'
    replace hs := hs.below K'
    replace hy := hy.below K'
    replace hA := hA.below K'
    replace hE := hE.below K'
    replace K := Below.then_ K K'
    clear K'
    clear TF
    by_cases hok : x = okA x.2.1
    · replace hok := Lib.hid hok
      have J_0 := J.at_ (v := .int .i64 x.1) 0 rfl
      have J_1 := J.at_ (v := .int .u32 x.2.1) 1 rfl
      have J_2 := J.at_ (v := .bool x.2.2.1) 2 rfl
      have J_3 := J.at_ (v := .slice P p1 p2) 3 rfl
      have J_4 := J.at_ (v := .slice Q q1 q2) 4 rfl
      have J_z := J.lt
      have G_0 := G.at_ (v := .int .i64 1) 0 rfl
      have G_1 := G.at_ (v := .int .u32 (X : Int)) 1 rfl
      have G_2 := G.at_ (v := .slice C q f) 2 rfl
      have G_z := G.lt
      go_wp2_with fail
      refine (answers_is (x := x) (y := okA x.2.1) hA hE (IS.none_ .u32 0 _) (IS.none_ .i64 0 _) (by omega) (by omega) (by omega) (by omega) (decide_eq_true hok.out)).mono ?_
      rintro e w8 ⟨rfl, K'⟩
      clear J_0 J_1 J_2 J_3 J_4 J_z
      clear G_0 G_1 G_2 G_z
      replace H := H.below K'
      replace G := G.below K'
      replace J := J.below K'
      replace h := h.below K'
      replace hs := hs.below K'
      replace hy := hy.below K'
      replace hA := hA.below K'
      replace hE := hE.below K'
      replace K := Below.then_ K K'
      clear K'
      by_cases hf : G_ = 0
      · have g1 : (G_ != 0) = false := by simp [hf]
        replace hf := Lib.hid hf
        cases hh : hasB xs F with
        | true =>
          have T := rhas9_any hs (by omega) F
          rw [hh] at T
          replace T := Lib.hid T
          replace hh := Lib.hid hh
          go_wp2_with fail
          refine T.out.mono ?_
          rintro e _ ⟨rfl, rfl⟩
          clear T
          obtain rfl : r = (xs, false) := by rw [← hR.out]; rw [if_neg h9.out, if_neg (by rintro ⟨-, -, g⟩; rw [hh.out] at g; cases g)]
          go_wp2
          go_ret2
          exact ⟨_, _, _, rfl, hs.lower (Nat.zero_le _), (fun _ _ h => h), K⟩
        | false =>
          have T := rhas9_any hs (by omega) F
          rw [hh] at T
          replace T := Lib.hid T
          replace hh := Lib.hid hh
          go_wp2_with fail
          refine T.out.mono ?_
          rintro e _ ⟨rfl, rfl⟩
          clear T
          have KS := K.size
          go_wp2_with fail
          refine (rwith_new hs (by omega) hr.out F).mono ?_
          have H_l := H.lt
          have G_l := G.lt
          have J_l := J.lt
          rintro e w9 ⟨IA, In, Ic, rfl, I, K'⟩
          clear H_l G_l J_l
          have I_old : ∀ g, g < w.heap.size → Av g IA In := fun g hg => I.av (by omega)
          replace I := I.lower (Nat.zero_le _)
          replace H := H.below K'
          replace G := G.below K'
          replace J := J.below K'
          replace h := h.below K'
          replace hs := hs.below K'
          replace hy := hy.below K'
          replace hA := hA.below K'
          replace hE := hE.below K'
          replace K := Below.then_ K K'
          clear K'
          obtain rfl : r = (ins xs F, true) := by rw [← hR.out]; rw [if_neg h9.out, if_pos ⟨hok.out, hf.out, hh.out⟩]
          go_wp2
          go_ret2
          exact ⟨_, _, _, rfl, I, (fun g hg _ => I_old g hg), K⟩
      · have g1 : (G_ != 0) = true := by simp [hf]
        replace hf := Lib.hid hf
        obtain rfl : r = (xs, false) := by rw [← hR.out]; rw [if_neg h9.out, if_neg (fun g => hf.out g.2.1)]
        go_wp2
        go_ret2
        exact ⟨_, _, _, rfl, hs.lower (Nat.zero_le _), (fun _ _ h => h), K⟩
    · replace hok := Lib.hid hok
      have J_0 := J.at_ (v := .int .i64 x.1) 0 rfl
      have J_1 := J.at_ (v := .int .u32 x.2.1) 1 rfl
      have J_2 := J.at_ (v := .bool x.2.2.1) 2 rfl
      have J_3 := J.at_ (v := .slice P p1 p2) 3 rfl
      have J_4 := J.at_ (v := .slice Q q1 q2) 4 rfl
      have J_z := J.lt
      have G_0 := G.at_ (v := .int .i64 1) 0 rfl
      have G_1 := G.at_ (v := .int .u32 (X : Int)) 1 rfl
      have G_2 := G.at_ (v := .slice C q f) 2 rfl
      have G_z := G.lt
      go_wp2_with fail
      refine (answers_is (x := x) (y := okA x.2.1) hA hE (IS.none_ .u32 0 _) (IS.none_ .i64 0 _) (by omega) (by omega) (by omega) (by omega) (decide_eq_false hok.out)).mono ?_
      rintro e w8 ⟨rfl, K'⟩
      clear J_0 J_1 J_2 J_3 J_4 J_z
      clear G_0 G_1 G_2 G_z
      replace H := H.below K'
      replace G := G.below K'
      replace J := J.below K'
      replace h := h.below K'
      replace hs := hs.below K'
      replace hy := hy.below K'
      replace hA := hA.below K'
      replace hE := hE.below K'
      replace K := Below.then_ K K'
      clear K'
      obtain rfl : r = (xs, false) := by rw [← hR.out]; rw [if_neg h9.out, if_neg (fun g => hok.out g.1)]
      go_wp2
      go_ret2
      exact ⟨_, _, _, rfl, hs.lower (Nat.zero_le _), (fun _ _ h => h), K⟩
set_option maxRecDepth 100000 in
set_option maxHeartbeats 4000000 in
theorem rlegal_2 (ha : a < 4294967296) (hM : Much a p M) (h0 : IS .i64 lo w A n c zs) (hn : n ≤ 65536) (hs0 : IS .i64 lo2 w B m d xs) (hm : m ≤ 60000) (hx : mayR M zs 0 xs = true) (hX : X < 4294967296) (hy0 : IS .u32 lo3 w C q f ys) (hq : q ≤ 60000) (hw : W32 ys) (hA0 : IS .u32 lo4 w P p1 p2 x.2.2.2.1) (hE0 : IS .i64 lo5 w Q q1 q2 x.2.2.2.2) (b1 : p1 ≤ 60000) (b2 : q1 ≤ 60000) (hA1 : 0 ≤ x.2.1 ∧ x.2.1 < 4294967296) (h10 : x ≠ an0 10) (h12 : x ≠ an0 12) (he : askE a M zs 2 X ys = 0) :
    Calls Tryd.prog 14 #[.agg #[.int .u32 (a : Int), .int .i64 p, .slice A n c, .int .i64 sh, .int .i64 wo, .int .i64 qu, .int .i64 tr], .slice B m d, .agg #[.int .i64 2, .int .u32 (X : Int), .slice C q f], .agg #[.int .i64 x.1, .int .u32 x.2.1, .bool x.2.2.1, .slice P p1 p2, .slice Q q1 q2]] w (RetLB B m (doR a M zs xs 2 X ys x) w) := by
  obtain ⟨hr_, hb_⟩ := mayR_iff.1 hx
  have hr := Lib.hid hr_
  have hMm := hM.most
  have hb2 : Hid (∀ x ∈ xs, 0 ≤ x ∧ x ≤ 65536) := Lib.hid (fun x hx => ⟨(hb_ x hx).1, by have := (hb_ x hx).2.1; omega⟩)
  clear hr_ hb_ hx
  replace h10 := Lib.hid h10
  replace h12 := Lib.hid h12
  replace he := Lib.hid he
  obtain ⟨v, hv⟩ : ∃ v, ofO a M X = v := ⟨_, rfl⟩
  obtain ⟨u, hu⟩ : ∃ u, hasB xs v = u := ⟨_, rfl⟩
  have TO := fun w => Lib.hid (show Calls _ _ _ _ _ from by have T := roffset_any (w := w) X hX hM; rw [hv] at T; exact T)
  have TH := fun w (hs : IS .i64 lo2 w B m d xs) => Lib.hid (show Calls _ _ _ _ _ from by have T := rhas9_any hs (by omega) v; rw [hu] at T; exact T)
  generalize hR : doR a M zs xs 2 X ys x = r
  rw [doR_2] at hR
  try rw [hv] at hR
  try rw [hu] at hR
  replace hR := Lib.hid hR
  replace hv := Lib.hid hv
  replace hu := Lib.hid hu
  have h := h0
  have hs := hs0
  have hy := hy0
  have hA := hA0
  have hE := hE0
  have K := Below.refl w.heap.size w
  go_enter Tryd.func14, Tryd.ntmps14
  go_upto_region 1 with (fail)
  have KS := K.size
  replace h := h.below (below_alloc _ (.cells #[.int .u32 (a : Int), .int .i64 p, .slice A n c, .int .i64 sh, .int .i64 wo, .int .i64 qu, .int .i64 tr] 27))
  replace hs := hs.below (below_alloc _ (.cells #[.int .u32 (a : Int), .int .i64 p, .slice A n c, .int .i64 sh, .int .i64 wo, .int .i64 qu, .int .i64 tr] 27))
  replace hy := hy.below (below_alloc _ (.cells #[.int .u32 (a : Int), .int .i64 p, .slice A n c, .int .i64 sh, .int .i64 wo, .int .i64 qu, .int .i64 tr] 27))
  replace hA := hA.below (below_alloc _ (.cells #[.int .u32 (a : Int), .int .i64 p, .slice A n c, .int .i64 sh, .int .i64 wo, .int .i64 qu, .int .i64 tr] 27))
  replace hE := hE.below (below_alloc _ (.cells #[.int .u32 (a : Int), .int .i64 p, .slice A n c, .int .i64 sh, .int .i64 wo, .int .i64 qu, .int .i64 tr] 27))
  replace K := Below.then_ K (below_alloc _ (.cells #[.int .u32 (a : Int), .int .i64 p, .slice A n c, .int .i64 sh, .int .i64 wo, .int .i64 qu, .int .i64 tr] 27))
  have H := Bk.new (w) #[.int .u32 (a : Int), .int .i64 p, .slice A n c, .int .i64 sh, .int .i64 wo, .int .i64 qu, .int .i64 tr] 27
  replace H := H.alloc (.cells #[.int .i64 2, .int .u32 (X : Int), .slice C q f] 30)
  replace h := h.below (below_alloc _ (.cells #[.int .i64 2, .int .u32 (X : Int), .slice C q f] 30))
  replace hs := hs.below (below_alloc _ (.cells #[.int .i64 2, .int .u32 (X : Int), .slice C q f] 30))
  replace hy := hy.below (below_alloc _ (.cells #[.int .i64 2, .int .u32 (X : Int), .slice C q f] 30))
  replace hA := hA.below (below_alloc _ (.cells #[.int .i64 2, .int .u32 (X : Int), .slice C q f] 30))
  replace hE := hE.below (below_alloc _ (.cells #[.int .i64 2, .int .u32 (X : Int), .slice C q f] 30))
  replace K := Below.then_ K (below_alloc _ (.cells #[.int .i64 2, .int .u32 (X : Int), .slice C q f] 30))
  have G := Bk.new ((w).alloc (.cells #[.int .u32 (a : Int), .int .i64 p, .slice A n c, .int .i64 sh, .int .i64 wo, .int .i64 qu, .int .i64 tr] 27)) #[.int .i64 2, .int .u32 (X : Int), .slice C q f] 30
  replace H := H.alloc (.cells #[.int .i64 x.1, .int .u32 x.2.1, .bool x.2.2.1, .slice P p1 p2, .slice Q q1 q2] 34)
  replace G := G.alloc (.cells #[.int .i64 x.1, .int .u32 x.2.1, .bool x.2.2.1, .slice P p1 p2, .slice Q q1 q2] 34)
  replace h := h.below (below_alloc _ (.cells #[.int .i64 x.1, .int .u32 x.2.1, .bool x.2.2.1, .slice P p1 p2, .slice Q q1 q2] 34))
  replace hs := hs.below (below_alloc _ (.cells #[.int .i64 x.1, .int .u32 x.2.1, .bool x.2.2.1, .slice P p1 p2, .slice Q q1 q2] 34))
  replace hy := hy.below (below_alloc _ (.cells #[.int .i64 x.1, .int .u32 x.2.1, .bool x.2.2.1, .slice P p1 p2, .slice Q q1 q2] 34))
  replace hA := hA.below (below_alloc _ (.cells #[.int .i64 x.1, .int .u32 x.2.1, .bool x.2.2.1, .slice P p1 p2, .slice Q q1 q2] 34))
  replace hE := hE.below (below_alloc _ (.cells #[.int .i64 x.1, .int .u32 x.2.1, .bool x.2.2.1, .slice P p1 p2, .slice Q q1 q2] 34))
  replace K := Below.then_ K (below_alloc _ (.cells #[.int .i64 x.1, .int .u32 x.2.1, .bool x.2.2.1, .slice P p1 p2, .slice Q q1 q2] 34))
  have J := Bk.new (((w).alloc (.cells #[.int .u32 (a : Int), .int .i64 p, .slice A n c, .int .i64 sh, .int .i64 wo, .int .i64 qu, .int .i64 tr] 27)).alloc (.cells #[.int .i64 2, .int .u32 (X : Int), .slice C q f] 30)) #[.int .i64 x.1, .int .u32 x.2.1, .bool x.2.2.1, .slice P p1 p2, .slice Q q1 q2] 34
  try simp only [World.size_alloc] at H G J
  generalize (((w).alloc (.cells #[.int .u32 (a : Int), .int .i64 p, .slice A n c, .int .i64 sh, .int .i64 wo, .int .i64 qu, .int .i64 tr] 27)).alloc (.cells #[.int .i64 2, .int .u32 (X : Int), .slice C q f] 30)).alloc (.cells #[.int .i64 x.1, .int .u32 x.2.1, .bool x.2.2.1, .slice P p1 p2, .slice Q q1 q2] 34) = w1 at H G J h hs hy hA hE K ⊢
  generalize hgJ : w.heap.size + 1 + 1 = gJ at H G J ⊢
  generalize hgG : w.heap.size + 1 = gG at H G J ⊢
  generalize hgH : w.heap.size = gH at H G J ⊢
  have H_b : w.heap.size ≤ gH := by omega
  have G_b : w.heap.size ≤ gG := by omega
  have J_b : w.heap.size ≤ gJ := by omega
  have ne_H_G : gH ≠ gG := by omega
  have ne_H_J : gH ≠ gJ := by omega
  have ne_G_J : gG ≠ gJ := by omega
  clear KS hgH hgG hgJ 
  have J_0 := J.at_ (v := .int .i64 x.1) 0 rfl
  have J_1 := J.at_ (v := .int .u32 x.2.1) 1 rfl
  have J_2 := J.at_ (v := .bool x.2.2.1) 2 rfl
  have J_3 := J.at_ (v := .slice P p1 p2) 3 rfl
  have J_4 := J.at_ (v := .slice Q q1 q2) 4 rfl
  have J_z := J.lt
  go_wp2_with fail
  refine (only_is (v := 10) hA hE (by omega) (by omega) (decide_eq_false h10.out)).mono ?_
  rintro e w2 ⟨rfl, K'⟩
  clear J_0 J_1 J_2 J_3 J_4 J_z
  replace H := H.below K'
  replace G := G.below K'
  replace J := J.below K'
  replace h := h.below K'
  replace hs := hs.below K'
  replace hy := hy.below K'
  replace hA := hA.below K'
  replace hE := hE.below K'
  replace K := Below.then_ K K'
  clear K'
  have J_0 := J.at_ (v := .int .i64 x.1) 0 rfl
  have J_1 := J.at_ (v := .int .u32 x.2.1) 1 rfl
  have J_2 := J.at_ (v := .bool x.2.2.1) 2 rfl
  have J_3 := J.at_ (v := .slice P p1 p2) 3 rfl
  have J_4 := J.at_ (v := .slice Q q1 q2) 4 rfl
  have J_z := J.lt
  go_wp2_with fail
  refine (only_is (v := 12) hA hE (by omega) (by omega) (decide_eq_false h12.out)).mono ?_
  rintro e w3 ⟨rfl, K'⟩
  clear J_0 J_1 J_2 J_3 J_4 J_z
  replace H := H.below K'
  replace G := G.below K'
  replace J := J.below K'
  replace h := h.below K'
  replace hs := hs.below K'
  replace hy := hy.below K'
  replace hA := hA.below K'
  replace hE := hE.below K'
  replace K := Below.then_ K K'
  clear K'
  have H_0 := H.at_ (v := .int .u32 (a : Int)) 0 rfl
  have H_1 := H.at_ (v := .int .i64 p) 1 rfl
  have H_2 := H.at_ (v := .slice A n c) 2 rfl
  have H_3 := H.at_ (v := .int .i64 sh) 3 rfl
  have H_4 := H.at_ (v := .int .i64 wo) 4 rfl
  have H_5 := H.at_ (v := .int .i64 qu) 5 rfl
  have H_6 := H.at_ (v := .int .i64 tr) 6 rfl
  have H_z := H.lt
  have G_0 := G.at_ (v := .int .i64 2) 0 rfl
  have G_1 := G.at_ (v := .int .u32 (X : Int)) 1 rfl
  have G_2 := G.at_ (v := .slice C q f) 2 rfl
  have G_z := G.lt
  go_wp2_with fail
  refine (rcheck_is (k := 2) hM h hn hy hq hX hw he.out).mono ?_
  rintro e w4 ⟨rfl, K'⟩
  clear H_0 H_1 H_2 H_3 H_4 H_5 H_6 H_z
  clear G_0 G_1 G_2 G_z
  replace H := H.below K'
  replace G := G.below K'
  replace J := J.below K'
  replace h := h.below K'
  replace hs := hs.below K'
  replace hy := hy.below K'
  replace hA := hA.below K'
  replace hE := hE.below K'
  replace K := Below.then_ K K'
  clear K'
  have H_0 := H.at_ (v := .int .u32 (a : Int)) 0 rfl
  have H_1 := H.at_ (v := .int .i64 p) 1 rfl
  have H_2 := H.at_ (v := .slice A n c) 2 rfl
  have H_3 := H.at_ (v := .int .i64 sh) 3 rfl
  have H_4 := H.at_ (v := .int .i64 wo) 4 rfl
  have H_5 := H.at_ (v := .int .i64 qu) 5 rfl
  have H_6 := H.at_ (v := .int .i64 tr) 6 rfl
  have H_z := H.lt
  have G_0 := G.at_ (v := .int .i64 2) 0 rfl
  have G_1 := G.at_ (v := .int .u32 (X : Int)) 1 rfl
  have G_2 := G.at_ (v := .slice C q f) 2 rfl
  have G_z := G.lt
  go_wp2_with fail
  refine ((TO _).out).mono ?_
  rintro e w5 ⟨rfl, K'⟩
  clear H_0 H_1 H_2 H_3 H_4 H_5 H_6 H_z
  clear G_0 G_1 G_2 G_z
  replace H := H.below K'
  replace G := G.below K'
  replace J := J.below K'
  replace h := h.below K'
  replace hs := hs.below K'
  replace hy := hy.below K'
  replace hA := hA.below K'
  replace hE := hE.below K'
  replace K := Below.then_ K K'
  clear K'
  go_wp2_with fail
  refine (TH _ hs).out.mono ?_
  rintro e _ ⟨rfl, rfl⟩
  clear TO TH he
  have G_0 := G.at_ (v := .int .i64 2) 0 rfl
  have G_1 := G.at_ (v := .int .u32 (X : Int)) 1 rfl
  have G_2 := G.at_ (v := .slice C q f) 2 rfl
  have G_z := G.lt
  cases u with
  | true =>
    have J_0 := J.at_ (v := .int .i64 x.1) 0 rfl
    have J_1 := J.at_ (v := .int .u32 x.2.1) 1 rfl
    have J_2 := J.at_ (v := .bool x.2.2.1) 2 rfl
    have J_3 := J.at_ (v := .slice P p1 p2) 3 rfl
    have J_4 := J.at_ (v := .slice Q q1 q2) 4 rfl
    have J_z := J.lt
    go_wp2_with fail
    refine (only_any hA hE (by omega) (by omega) 5).mono ?_
    rintro e w6 ⟨rfl, K'⟩
    clear J_0 J_1 J_2 J_3 J_4 J_z
    replace H := H.below K'
    replace G := G.below K'
    replace J := J.below K'
    replace h := h.below K'
    replace hs := hs.below K'
    replace hy := hy.below K'
    replace hA := hA.below K'
    replace hE := hE.below K'
    replace K := Below.then_ K K'
    clear K'
    obtain rfl : r = (xs, decide (x = an0 5)) := by rw [← hR.out]; first | rw [if_pos rfl] | simp only [if_true]
    go_wp2
    go_ret2
    exact ⟨_, _, _, rfl, hs.lower (Nat.zero_le _), (fun _ _ h => h), K⟩
  | false =>
    by_cases hok : x = okA (X : Int)
    · replace hok := Lib.hid hok
      have J_0 := J.at_ (v := .int .i64 x.1) 0 rfl
      have J_1 := J.at_ (v := .int .u32 x.2.1) 1 rfl
      have J_2 := J.at_ (v := .bool x.2.2.1) 2 rfl
      have J_3 := J.at_ (v := .slice P p1 p2) 3 rfl
      have J_4 := J.at_ (v := .slice Q q1 q2) 4 rfl
      have J_z := J.lt
      have G_0 := G.at_ (v := .int .i64 2) 0 rfl
      have G_1 := G.at_ (v := .int .u32 (X : Int)) 1 rfl
      have G_2 := G.at_ (v := .slice C q f) 2 rfl
      have G_z := G.lt
      go_wp2_with fail
      refine (answers_is (x := x) (y := okA (X : Int)) hA hE (IS.none_ .u32 0 _) (IS.none_ .i64 0 _) (by omega) (by omega) (by omega) (by omega) (decide_eq_true hok.out)).mono ?_
      rintro e w6 ⟨rfl, K'⟩
      clear J_0 J_1 J_2 J_3 J_4 J_z
      clear G_0 G_1 G_2 G_z
      replace H := H.below K'
      replace G := G.below K'
      replace J := J.below K'
      replace h := h.below K'
      replace hs := hs.below K'
      replace hy := hy.below K'
      replace hA := hA.below K'
      replace hE := hE.below K'
      replace K := Below.then_ K K'
      clear K'
      have KS := K.size
      go_wp2_with fail
      refine (rwith_new hs (by omega) hr.out v).mono ?_
      have H_l := H.lt
      have G_l := G.lt
      have J_l := J.lt
      rintro e w7 ⟨IA, In, Ic, rfl, I, K'⟩
      clear H_l G_l J_l
      have I_old : ∀ g, g < w.heap.size → Av g IA In := fun g hg => I.av (by omega)
      replace I := I.lower (Nat.zero_le _)
      replace H := H.below K'
      replace G := G.below K'
      replace J := J.below K'
      replace h := h.below K'
      replace hs := hs.below K'
      replace hy := hy.below K'
      replace hA := hA.below K'
      replace hE := hE.below K'
      replace K := Below.then_ K K'
      clear K'
      obtain rfl : r = (ins xs v, true) := by rw [← hR.out]; rw [if_neg (by simp), if_pos hok.out]
      go_wp2
      go_ret2
      exact ⟨_, _, _, rfl, I, (fun g hg _ => I_old g hg), K⟩
    · replace hok := Lib.hid hok
      have J_0 := J.at_ (v := .int .i64 x.1) 0 rfl
      have J_1 := J.at_ (v := .int .u32 x.2.1) 1 rfl
      have J_2 := J.at_ (v := .bool x.2.2.1) 2 rfl
      have J_3 := J.at_ (v := .slice P p1 p2) 3 rfl
      have J_4 := J.at_ (v := .slice Q q1 q2) 4 rfl
      have J_z := J.lt
      have G_0 := G.at_ (v := .int .i64 2) 0 rfl
      have G_1 := G.at_ (v := .int .u32 (X : Int)) 1 rfl
      have G_2 := G.at_ (v := .slice C q f) 2 rfl
      have G_z := G.lt
      go_wp2_with fail
      refine (answers_is (x := x) (y := okA (X : Int)) hA hE (IS.none_ .u32 0 _) (IS.none_ .i64 0 _) (by omega) (by omega) (by omega) (by omega) (decide_eq_false hok.out)).mono ?_
      rintro e w6 ⟨rfl, K'⟩
      clear J_0 J_1 J_2 J_3 J_4 J_z
      clear G_0 G_1 G_2 G_z
      replace H := H.below K'
      replace G := G.below K'
      replace J := J.below K'
      replace h := h.below K'
      replace hs := hs.below K'
      replace hy := hy.below K'
      replace hA := hA.below K'
      replace hE := hE.below K'
      replace K := Below.then_ K K'
      clear K'
      obtain rfl : r = (xs, false) := by rw [← hR.out]; rw [if_neg (by simp), if_neg hok.out]
      go_wp2
      go_ret2
      exact ⟨_, _, _, rfl, hs.lower (Nat.zero_le _), (fun _ _ h => h), K⟩
set_option maxRecDepth 100000 in
set_option maxHeartbeats 4000000 in
theorem rlegal_3 (ha : a < 4294967296) (hM : Much a p M) (h0 : IS .i64 lo w A n c zs) (hn : n ≤ 65536) (hs0 : IS .i64 lo2 w B m d xs) (hm : m ≤ 60000) (hx : mayR M zs 0 xs = true) (hX : X < 4294967296) (hy0 : IS .u32 lo3 w C q f ys) (hq : q ≤ 60000) (hw : W32 ys) (hA0 : IS .u32 lo4 w P p1 p2 x.2.2.2.1) (hE0 : IS .i64 lo5 w Q q1 q2 x.2.2.2.2) (b1 : p1 ≤ 60000) (b2 : q1 ≤ 60000) (hA1 : 0 ≤ x.2.1 ∧ x.2.1 < 4294967296) (h10 : x ≠ an0 10) (h12 : x ≠ an0 12) (he : askE a M zs 3 X ys = 0) :
    Calls Tryd.prog 14 #[.agg #[.int .u32 (a : Int), .int .i64 p, .slice A n c, .int .i64 sh, .int .i64 wo, .int .i64 qu, .int .i64 tr], .slice B m d, .agg #[.int .i64 3, .int .u32 (X : Int), .slice C q f], .agg #[.int .i64 x.1, .int .u32 x.2.1, .bool x.2.2.1, .slice P p1 p2, .slice Q q1 q2]] w (RetLB B m (doR a M zs xs 3 X ys x) w) := by
  obtain ⟨hr_, hb_⟩ := mayR_iff.1 hx
  have hr := Lib.hid hr_
  have hMm := hM.most
  have hb2 : Hid (∀ x ∈ xs, 0 ≤ x ∧ x ≤ 65536) := Lib.hid (fun x hx => ⟨(hb_ x hx).1, by have := (hb_ x hx).2.1; omega⟩)
  clear hr_ hb_ hx
  replace h10 := Lib.hid h10
  replace h12 := Lib.hid h12
  replace he := Lib.hid he
  obtain ⟨v, hv⟩ : ∃ v, ofO a M X = v := ⟨_, rfl⟩
  obtain ⟨u, hu⟩ : ∃ u, hasB xs v = u := ⟨_, rfl⟩
  have TO := fun w => Lib.hid (show Calls _ _ _ _ _ from by have T := roffset_any (w := w) X hX hM; rw [hv] at T; exact T)
  have TH := fun w (hs : IS .i64 lo2 w B m d xs) => Lib.hid (show Calls _ _ _ _ _ from by have T := rhas9_any hs (by omega) v; rw [hu] at T; exact T)
  generalize hR : doR a M zs xs 3 X ys x = r
  rw [doR_3] at hR
  try rw [hv] at hR
  try rw [hu] at hR
  replace hR := Lib.hid hR
  replace hv := Lib.hid hv
  replace hu := Lib.hid hu
  have h := h0
  have hs := hs0
  have hy := hy0
  have hA := hA0
  have hE := hE0
  have K := Below.refl w.heap.size w
  go_enter Tryd.func14, Tryd.ntmps14
  go_upto_region 1 with (fail)
  have KS := K.size
  replace h := h.below (below_alloc _ (.cells #[.int .u32 (a : Int), .int .i64 p, .slice A n c, .int .i64 sh, .int .i64 wo, .int .i64 qu, .int .i64 tr] 27))
  replace hs := hs.below (below_alloc _ (.cells #[.int .u32 (a : Int), .int .i64 p, .slice A n c, .int .i64 sh, .int .i64 wo, .int .i64 qu, .int .i64 tr] 27))
  replace hy := hy.below (below_alloc _ (.cells #[.int .u32 (a : Int), .int .i64 p, .slice A n c, .int .i64 sh, .int .i64 wo, .int .i64 qu, .int .i64 tr] 27))
  replace hA := hA.below (below_alloc _ (.cells #[.int .u32 (a : Int), .int .i64 p, .slice A n c, .int .i64 sh, .int .i64 wo, .int .i64 qu, .int .i64 tr] 27))
  replace hE := hE.below (below_alloc _ (.cells #[.int .u32 (a : Int), .int .i64 p, .slice A n c, .int .i64 sh, .int .i64 wo, .int .i64 qu, .int .i64 tr] 27))
  replace K := Below.then_ K (below_alloc _ (.cells #[.int .u32 (a : Int), .int .i64 p, .slice A n c, .int .i64 sh, .int .i64 wo, .int .i64 qu, .int .i64 tr] 27))
  have H := Bk.new (w) #[.int .u32 (a : Int), .int .i64 p, .slice A n c, .int .i64 sh, .int .i64 wo, .int .i64 qu, .int .i64 tr] 27
  replace H := H.alloc (.cells #[.int .i64 3, .int .u32 (X : Int), .slice C q f] 30)
  replace h := h.below (below_alloc _ (.cells #[.int .i64 3, .int .u32 (X : Int), .slice C q f] 30))
  replace hs := hs.below (below_alloc _ (.cells #[.int .i64 3, .int .u32 (X : Int), .slice C q f] 30))
  replace hy := hy.below (below_alloc _ (.cells #[.int .i64 3, .int .u32 (X : Int), .slice C q f] 30))
  replace hA := hA.below (below_alloc _ (.cells #[.int .i64 3, .int .u32 (X : Int), .slice C q f] 30))
  replace hE := hE.below (below_alloc _ (.cells #[.int .i64 3, .int .u32 (X : Int), .slice C q f] 30))
  replace K := Below.then_ K (below_alloc _ (.cells #[.int .i64 3, .int .u32 (X : Int), .slice C q f] 30))
  have G := Bk.new ((w).alloc (.cells #[.int .u32 (a : Int), .int .i64 p, .slice A n c, .int .i64 sh, .int .i64 wo, .int .i64 qu, .int .i64 tr] 27)) #[.int .i64 3, .int .u32 (X : Int), .slice C q f] 30
  replace H := H.alloc (.cells #[.int .i64 x.1, .int .u32 x.2.1, .bool x.2.2.1, .slice P p1 p2, .slice Q q1 q2] 34)
  replace G := G.alloc (.cells #[.int .i64 x.1, .int .u32 x.2.1, .bool x.2.2.1, .slice P p1 p2, .slice Q q1 q2] 34)
  replace h := h.below (below_alloc _ (.cells #[.int .i64 x.1, .int .u32 x.2.1, .bool x.2.2.1, .slice P p1 p2, .slice Q q1 q2] 34))
  replace hs := hs.below (below_alloc _ (.cells #[.int .i64 x.1, .int .u32 x.2.1, .bool x.2.2.1, .slice P p1 p2, .slice Q q1 q2] 34))
  replace hy := hy.below (below_alloc _ (.cells #[.int .i64 x.1, .int .u32 x.2.1, .bool x.2.2.1, .slice P p1 p2, .slice Q q1 q2] 34))
  replace hA := hA.below (below_alloc _ (.cells #[.int .i64 x.1, .int .u32 x.2.1, .bool x.2.2.1, .slice P p1 p2, .slice Q q1 q2] 34))
  replace hE := hE.below (below_alloc _ (.cells #[.int .i64 x.1, .int .u32 x.2.1, .bool x.2.2.1, .slice P p1 p2, .slice Q q1 q2] 34))
  replace K := Below.then_ K (below_alloc _ (.cells #[.int .i64 x.1, .int .u32 x.2.1, .bool x.2.2.1, .slice P p1 p2, .slice Q q1 q2] 34))
  have J := Bk.new (((w).alloc (.cells #[.int .u32 (a : Int), .int .i64 p, .slice A n c, .int .i64 sh, .int .i64 wo, .int .i64 qu, .int .i64 tr] 27)).alloc (.cells #[.int .i64 3, .int .u32 (X : Int), .slice C q f] 30)) #[.int .i64 x.1, .int .u32 x.2.1, .bool x.2.2.1, .slice P p1 p2, .slice Q q1 q2] 34
  try simp only [World.size_alloc] at H G J
  generalize (((w).alloc (.cells #[.int .u32 (a : Int), .int .i64 p, .slice A n c, .int .i64 sh, .int .i64 wo, .int .i64 qu, .int .i64 tr] 27)).alloc (.cells #[.int .i64 3, .int .u32 (X : Int), .slice C q f] 30)).alloc (.cells #[.int .i64 x.1, .int .u32 x.2.1, .bool x.2.2.1, .slice P p1 p2, .slice Q q1 q2] 34) = w1 at H G J h hs hy hA hE K ⊢
  generalize hgJ : w.heap.size + 1 + 1 = gJ at H G J ⊢
  generalize hgG : w.heap.size + 1 = gG at H G J ⊢
  generalize hgH : w.heap.size = gH at H G J ⊢
  have H_b : w.heap.size ≤ gH := by omega
  have G_b : w.heap.size ≤ gG := by omega
  have J_b : w.heap.size ≤ gJ := by omega
  have ne_H_G : gH ≠ gG := by omega
  have ne_H_J : gH ≠ gJ := by omega
  have ne_G_J : gG ≠ gJ := by omega
  clear KS hgH hgG hgJ 
  have J_0 := J.at_ (v := .int .i64 x.1) 0 rfl
  have J_1 := J.at_ (v := .int .u32 x.2.1) 1 rfl
  have J_2 := J.at_ (v := .bool x.2.2.1) 2 rfl
  have J_3 := J.at_ (v := .slice P p1 p2) 3 rfl
  have J_4 := J.at_ (v := .slice Q q1 q2) 4 rfl
  have J_z := J.lt
  go_wp2_with fail
  refine (only_is (v := 10) hA hE (by omega) (by omega) (decide_eq_false h10.out)).mono ?_
  rintro e w2 ⟨rfl, K'⟩
  clear J_0 J_1 J_2 J_3 J_4 J_z
  replace H := H.below K'
  replace G := G.below K'
  replace J := J.below K'
  replace h := h.below K'
  replace hs := hs.below K'
  replace hy := hy.below K'
  replace hA := hA.below K'
  replace hE := hE.below K'
  replace K := Below.then_ K K'
  clear K'
  have J_0 := J.at_ (v := .int .i64 x.1) 0 rfl
  have J_1 := J.at_ (v := .int .u32 x.2.1) 1 rfl
  have J_2 := J.at_ (v := .bool x.2.2.1) 2 rfl
  have J_3 := J.at_ (v := .slice P p1 p2) 3 rfl
  have J_4 := J.at_ (v := .slice Q q1 q2) 4 rfl
  have J_z := J.lt
  go_wp2_with fail
  refine (only_is (v := 12) hA hE (by omega) (by omega) (decide_eq_false h12.out)).mono ?_
  rintro e w3 ⟨rfl, K'⟩
  clear J_0 J_1 J_2 J_3 J_4 J_z
  replace H := H.below K'
  replace G := G.below K'
  replace J := J.below K'
  replace h := h.below K'
  replace hs := hs.below K'
  replace hy := hy.below K'
  replace hA := hA.below K'
  replace hE := hE.below K'
  replace K := Below.then_ K K'
  clear K'
  have H_0 := H.at_ (v := .int .u32 (a : Int)) 0 rfl
  have H_1 := H.at_ (v := .int .i64 p) 1 rfl
  have H_2 := H.at_ (v := .slice A n c) 2 rfl
  have H_3 := H.at_ (v := .int .i64 sh) 3 rfl
  have H_4 := H.at_ (v := .int .i64 wo) 4 rfl
  have H_5 := H.at_ (v := .int .i64 qu) 5 rfl
  have H_6 := H.at_ (v := .int .i64 tr) 6 rfl
  have H_z := H.lt
  have G_0 := G.at_ (v := .int .i64 3) 0 rfl
  have G_1 := G.at_ (v := .int .u32 (X : Int)) 1 rfl
  have G_2 := G.at_ (v := .slice C q f) 2 rfl
  have G_z := G.lt
  go_wp2_with fail
  refine (rcheck_is (k := 3) hM h hn hy hq hX hw he.out).mono ?_
  rintro e w4 ⟨rfl, K'⟩
  clear H_0 H_1 H_2 H_3 H_4 H_5 H_6 H_z
  clear G_0 G_1 G_2 G_z
  replace H := H.below K'
  replace G := G.below K'
  replace J := J.below K'
  replace h := h.below K'
  replace hs := hs.below K'
  replace hy := hy.below K'
  replace hA := hA.below K'
  replace hE := hE.below K'
  replace K := Below.then_ K K'
  clear K'
  have H_0 := H.at_ (v := .int .u32 (a : Int)) 0 rfl
  have H_1 := H.at_ (v := .int .i64 p) 1 rfl
  have H_2 := H.at_ (v := .slice A n c) 2 rfl
  have H_3 := H.at_ (v := .int .i64 sh) 3 rfl
  have H_4 := H.at_ (v := .int .i64 wo) 4 rfl
  have H_5 := H.at_ (v := .int .i64 qu) 5 rfl
  have H_6 := H.at_ (v := .int .i64 tr) 6 rfl
  have H_z := H.lt
  have G_0 := G.at_ (v := .int .i64 3) 0 rfl
  have G_1 := G.at_ (v := .int .u32 (X : Int)) 1 rfl
  have G_2 := G.at_ (v := .slice C q f) 2 rfl
  have G_z := G.lt
  go_wp2_with fail
  refine ((TO _).out).mono ?_
  rintro e w5 ⟨rfl, K'⟩
  clear H_0 H_1 H_2 H_3 H_4 H_5 H_6 H_z
  clear G_0 G_1 G_2 G_z
  replace H := H.below K'
  replace G := G.below K'
  replace J := J.below K'
  replace h := h.below K'
  replace hs := hs.below K'
  replace hy := hy.below K'
  replace hA := hA.below K'
  replace hE := hE.below K'
  replace K := Below.then_ K K'
  clear K'
  go_wp2_with fail
  refine (TH _ hs).out.mono ?_
  rintro e _ ⟨rfl, rfl⟩
  clear TO TH he
  have G_0 := G.at_ (v := .int .i64 3) 0 rfl
  have G_1 := G.at_ (v := .int .u32 (X : Int)) 1 rfl
  have G_2 := G.at_ (v := .slice C q f) 2 rfl
  have G_z := G.lt
  cases u with
  | true =>
    by_cases hok : x = an0 0
    · replace hok := Lib.hid hok
      have J_0 := J.at_ (v := .int .i64 x.1) 0 rfl
      have J_1 := J.at_ (v := .int .u32 x.2.1) 1 rfl
      have J_2 := J.at_ (v := .bool x.2.2.1) 2 rfl
      have J_3 := J.at_ (v := .slice P p1 p2) 3 rfl
      have J_4 := J.at_ (v := .slice Q q1 q2) 4 rfl
      have J_z := J.lt
      go_wp2_with fail
      refine (only_is (v := 0) hA hE (by omega) (by omega) (decide_eq_true hok.out)).mono ?_
      rintro e w6 ⟨rfl, K'⟩
      clear J_0 J_1 J_2 J_3 J_4 J_z
      replace H := H.below K'
      replace G := G.below K'
      replace J := J.below K'
      replace h := h.below K'
      replace hs := hs.below K'
      replace hy := hy.below K'
      replace hA := hA.below K'
      replace hE := hE.below K'
      replace K := Below.then_ K K'
      clear K'
      have KS := K.size
      go_wp2_with fail
      refine (rwithout_new hs (by omega) v).mono ?_
      have H_l := H.lt
      have G_l := G.lt
      have J_l := J.lt
      rintro e w7 ⟨IA, In, Ic, rfl, I, K'⟩
      clear H_l G_l J_l
      have I_old : ∀ g, g < w.heap.size → Av g IA In := fun g hg => I.av (by omega)
      replace I := I.lower (Nat.zero_le _)
      replace H := H.below K'
      replace G := G.below K'
      replace J := J.below K'
      replace h := h.below K'
      replace hs := hs.below K'
      replace hy := hy.below K'
      replace hA := hA.below K'
      replace hE := hE.below K'
      replace K := Below.then_ K K'
      clear K'
      obtain rfl : r = (del xs v, true) := by rw [← hR.out]; rw [if_neg (by simp), if_pos hok.out]
      go_wp2
      go_ret2
      exact ⟨_, _, _, rfl, I, (fun g hg _ => I_old g hg), K⟩
    · replace hok := Lib.hid hok
      have J_0 := J.at_ (v := .int .i64 x.1) 0 rfl
      have J_1 := J.at_ (v := .int .u32 x.2.1) 1 rfl
      have J_2 := J.at_ (v := .bool x.2.2.1) 2 rfl
      have J_3 := J.at_ (v := .slice P p1 p2) 3 rfl
      have J_4 := J.at_ (v := .slice Q q1 q2) 4 rfl
      have J_z := J.lt
      go_wp2_with fail
      refine (only_is (v := 0) hA hE (by omega) (by omega) (decide_eq_false hok.out)).mono ?_
      rintro e w6 ⟨rfl, K'⟩
      clear J_0 J_1 J_2 J_3 J_4 J_z
      replace H := H.below K'
      replace G := G.below K'
      replace J := J.below K'
      replace h := h.below K'
      replace hs := hs.below K'
      replace hy := hy.below K'
      replace hA := hA.below K'
      replace hE := hE.below K'
      replace K := Below.then_ K K'
      clear K'
      obtain rfl : r = (xs, false) := by rw [← hR.out]; rw [if_neg (by simp), if_neg hok.out]
      go_wp2
      go_ret2
      exact ⟨_, _, _, rfl, hs.lower (Nat.zero_le _), (fun _ _ h => h), K⟩
  | false =>
    have J_0 := J.at_ (v := .int .i64 x.1) 0 rfl
    have J_1 := J.at_ (v := .int .u32 x.2.1) 1 rfl
    have J_2 := J.at_ (v := .bool x.2.2.1) 2 rfl
    have J_3 := J.at_ (v := .slice P p1 p2) 3 rfl
    have J_4 := J.at_ (v := .slice Q q1 q2) 4 rfl
    have J_z := J.lt
    go_wp2_with fail
    refine (only_any hA hE (by omega) (by omega) 6).mono ?_
    rintro e w6 ⟨rfl, K'⟩
    clear J_0 J_1 J_2 J_3 J_4 J_z
    replace H := H.below K'
    replace G := G.below K'
    replace J := J.below K'
    replace h := h.below K'
    replace hs := hs.below K'
    replace hy := hy.below K'
    replace hA := hA.below K'
    replace hE := hE.below K'
    replace K := Below.then_ K K'
    clear K'
    obtain rfl : r = (xs, decide (x = an0 6)) := by rw [← hR.out]; first | rw [if_pos rfl] | simp only [if_true]
    go_wp2
    go_ret2
    exact ⟨_, _, _, rfl, hs.lower (Nat.zero_le _), (fun _ _ h => h), K⟩
set_option maxRecDepth 100000 in
set_option maxHeartbeats 4000000 in
theorem rlegal_5 (ha : a < 4294967296) (hM : Much a p M) (h0 : IS .i64 lo w A n c zs) (hn : n ≤ 65536) (hs0 : IS .i64 lo2 w B m d xs) (hm : m ≤ 60000) (hx : mayR M zs 0 xs = true) (hX : X < 4294967296) (hy0 : IS .u32 lo3 w C q f ys) (hq : q ≤ 60000) (hw : W32 ys) (hA0 : IS .u32 lo4 w P p1 p2 x.2.2.2.1) (hE0 : IS .i64 lo5 w Q q1 q2 x.2.2.2.2) (b1 : p1 ≤ 60000) (b2 : q1 ≤ 60000) (hA1 : 0 ≤ x.2.1 ∧ x.2.1 < 4294967296) (h10 : x ≠ an0 10) (h12 : x ≠ an0 12) (he : askE a M zs 5 X ys = 0) :
    Calls Tryd.prog 14 #[.agg #[.int .u32 (a : Int), .int .i64 p, .slice A n c, .int .i64 sh, .int .i64 wo, .int .i64 qu, .int .i64 tr], .slice B m d, .agg #[.int .i64 5, .int .u32 (X : Int), .slice C q f], .agg #[.int .i64 x.1, .int .u32 x.2.1, .bool x.2.2.1, .slice P p1 p2, .slice Q q1 q2]] w (RetLB B m (doR a M zs xs 5 X ys x) w) := by
  obtain ⟨hr_, hb_⟩ := mayR_iff.1 hx
  have hr := Lib.hid hr_
  have hMm := hM.most
  have hb2 : Hid (∀ x ∈ xs, 0 ≤ x ∧ x ≤ 65536) := Lib.hid (fun x hx => ⟨(hb_ x hx).1, by have := (hb_ x hx).2.1; omega⟩)
  clear hr_ hb_ hx
  replace h10 := Lib.hid h10
  replace h12 := Lib.hid h12
  replace he := Lib.hid he
  obtain ⟨v, hv⟩ : ∃ v, ofO a M X = v := ⟨_, rfl⟩
  obtain ⟨u, hu⟩ : ∃ u, hasB xs v = u := ⟨_, rfl⟩
  have TO := fun w => Lib.hid (show Calls _ _ _ _ _ from by have T := roffset_any (w := w) X hX hM; rw [hv] at T; exact T)
  have TH := fun w (hs : IS .i64 lo2 w B m d xs) => Lib.hid (show Calls _ _ _ _ _ from by have T := rhas9_any hs (by omega) v; rw [hu] at T; exact T)
  generalize hR : doR a M zs xs 5 X ys x = r
  rw [doR_5] at hR
  try rw [hv] at hR
  try rw [hu] at hR
  replace hR := Lib.hid hR
  replace hv := Lib.hid hv
  replace hu := Lib.hid hu
  have h := h0
  have hs := hs0
  have hy := hy0
  have hA := hA0
  have hE := hE0
  have K := Below.refl w.heap.size w
  go_enter Tryd.func14, Tryd.ntmps14
  go_upto_region 1 with (fail)
  have KS := K.size
  replace h := h.below (below_alloc _ (.cells #[.int .u32 (a : Int), .int .i64 p, .slice A n c, .int .i64 sh, .int .i64 wo, .int .i64 qu, .int .i64 tr] 27))
  replace hs := hs.below (below_alloc _ (.cells #[.int .u32 (a : Int), .int .i64 p, .slice A n c, .int .i64 sh, .int .i64 wo, .int .i64 qu, .int .i64 tr] 27))
  replace hy := hy.below (below_alloc _ (.cells #[.int .u32 (a : Int), .int .i64 p, .slice A n c, .int .i64 sh, .int .i64 wo, .int .i64 qu, .int .i64 tr] 27))
  replace hA := hA.below (below_alloc _ (.cells #[.int .u32 (a : Int), .int .i64 p, .slice A n c, .int .i64 sh, .int .i64 wo, .int .i64 qu, .int .i64 tr] 27))
  replace hE := hE.below (below_alloc _ (.cells #[.int .u32 (a : Int), .int .i64 p, .slice A n c, .int .i64 sh, .int .i64 wo, .int .i64 qu, .int .i64 tr] 27))
  replace K := Below.then_ K (below_alloc _ (.cells #[.int .u32 (a : Int), .int .i64 p, .slice A n c, .int .i64 sh, .int .i64 wo, .int .i64 qu, .int .i64 tr] 27))
  have H := Bk.new (w) #[.int .u32 (a : Int), .int .i64 p, .slice A n c, .int .i64 sh, .int .i64 wo, .int .i64 qu, .int .i64 tr] 27
  replace H := H.alloc (.cells #[.int .i64 5, .int .u32 (X : Int), .slice C q f] 30)
  replace h := h.below (below_alloc _ (.cells #[.int .i64 5, .int .u32 (X : Int), .slice C q f] 30))
  replace hs := hs.below (below_alloc _ (.cells #[.int .i64 5, .int .u32 (X : Int), .slice C q f] 30))
  replace hy := hy.below (below_alloc _ (.cells #[.int .i64 5, .int .u32 (X : Int), .slice C q f] 30))
  replace hA := hA.below (below_alloc _ (.cells #[.int .i64 5, .int .u32 (X : Int), .slice C q f] 30))
  replace hE := hE.below (below_alloc _ (.cells #[.int .i64 5, .int .u32 (X : Int), .slice C q f] 30))
  replace K := Below.then_ K (below_alloc _ (.cells #[.int .i64 5, .int .u32 (X : Int), .slice C q f] 30))
  have G := Bk.new ((w).alloc (.cells #[.int .u32 (a : Int), .int .i64 p, .slice A n c, .int .i64 sh, .int .i64 wo, .int .i64 qu, .int .i64 tr] 27)) #[.int .i64 5, .int .u32 (X : Int), .slice C q f] 30
  replace H := H.alloc (.cells #[.int .i64 x.1, .int .u32 x.2.1, .bool x.2.2.1, .slice P p1 p2, .slice Q q1 q2] 34)
  replace G := G.alloc (.cells #[.int .i64 x.1, .int .u32 x.2.1, .bool x.2.2.1, .slice P p1 p2, .slice Q q1 q2] 34)
  replace h := h.below (below_alloc _ (.cells #[.int .i64 x.1, .int .u32 x.2.1, .bool x.2.2.1, .slice P p1 p2, .slice Q q1 q2] 34))
  replace hs := hs.below (below_alloc _ (.cells #[.int .i64 x.1, .int .u32 x.2.1, .bool x.2.2.1, .slice P p1 p2, .slice Q q1 q2] 34))
  replace hy := hy.below (below_alloc _ (.cells #[.int .i64 x.1, .int .u32 x.2.1, .bool x.2.2.1, .slice P p1 p2, .slice Q q1 q2] 34))
  replace hA := hA.below (below_alloc _ (.cells #[.int .i64 x.1, .int .u32 x.2.1, .bool x.2.2.1, .slice P p1 p2, .slice Q q1 q2] 34))
  replace hE := hE.below (below_alloc _ (.cells #[.int .i64 x.1, .int .u32 x.2.1, .bool x.2.2.1, .slice P p1 p2, .slice Q q1 q2] 34))
  replace K := Below.then_ K (below_alloc _ (.cells #[.int .i64 x.1, .int .u32 x.2.1, .bool x.2.2.1, .slice P p1 p2, .slice Q q1 q2] 34))
  have J := Bk.new (((w).alloc (.cells #[.int .u32 (a : Int), .int .i64 p, .slice A n c, .int .i64 sh, .int .i64 wo, .int .i64 qu, .int .i64 tr] 27)).alloc (.cells #[.int .i64 5, .int .u32 (X : Int), .slice C q f] 30)) #[.int .i64 x.1, .int .u32 x.2.1, .bool x.2.2.1, .slice P p1 p2, .slice Q q1 q2] 34
  try simp only [World.size_alloc] at H G J
  generalize (((w).alloc (.cells #[.int .u32 (a : Int), .int .i64 p, .slice A n c, .int .i64 sh, .int .i64 wo, .int .i64 qu, .int .i64 tr] 27)).alloc (.cells #[.int .i64 5, .int .u32 (X : Int), .slice C q f] 30)).alloc (.cells #[.int .i64 x.1, .int .u32 x.2.1, .bool x.2.2.1, .slice P p1 p2, .slice Q q1 q2] 34) = w1 at H G J h hs hy hA hE K ⊢
  generalize hgJ : w.heap.size + 1 + 1 = gJ at H G J ⊢
  generalize hgG : w.heap.size + 1 = gG at H G J ⊢
  generalize hgH : w.heap.size = gH at H G J ⊢
  have H_b : w.heap.size ≤ gH := by omega
  have G_b : w.heap.size ≤ gG := by omega
  have J_b : w.heap.size ≤ gJ := by omega
  have ne_H_G : gH ≠ gG := by omega
  have ne_H_J : gH ≠ gJ := by omega
  have ne_G_J : gG ≠ gJ := by omega
  clear KS hgH hgG hgJ 
  have J_0 := J.at_ (v := .int .i64 x.1) 0 rfl
  have J_1 := J.at_ (v := .int .u32 x.2.1) 1 rfl
  have J_2 := J.at_ (v := .bool x.2.2.1) 2 rfl
  have J_3 := J.at_ (v := .slice P p1 p2) 3 rfl
  have J_4 := J.at_ (v := .slice Q q1 q2) 4 rfl
  have J_z := J.lt
  go_wp2_with fail
  refine (only_is (v := 10) hA hE (by omega) (by omega) (decide_eq_false h10.out)).mono ?_
  rintro e w2 ⟨rfl, K'⟩
  clear J_0 J_1 J_2 J_3 J_4 J_z
  replace H := H.below K'
  replace G := G.below K'
  replace J := J.below K'
  replace h := h.below K'
  replace hs := hs.below K'
  replace hy := hy.below K'
  replace hA := hA.below K'
  replace hE := hE.below K'
  replace K := Below.then_ K K'
  clear K'
  have J_0 := J.at_ (v := .int .i64 x.1) 0 rfl
  have J_1 := J.at_ (v := .int .u32 x.2.1) 1 rfl
  have J_2 := J.at_ (v := .bool x.2.2.1) 2 rfl
  have J_3 := J.at_ (v := .slice P p1 p2) 3 rfl
  have J_4 := J.at_ (v := .slice Q q1 q2) 4 rfl
  have J_z := J.lt
  go_wp2_with fail
  refine (only_is (v := 12) hA hE (by omega) (by omega) (decide_eq_false h12.out)).mono ?_
  rintro e w3 ⟨rfl, K'⟩
  clear J_0 J_1 J_2 J_3 J_4 J_z
  replace H := H.below K'
  replace G := G.below K'
  replace J := J.below K'
  replace h := h.below K'
  replace hs := hs.below K'
  replace hy := hy.below K'
  replace hA := hA.below K'
  replace hE := hE.below K'
  replace K := Below.then_ K K'
  clear K'
  have H_0 := H.at_ (v := .int .u32 (a : Int)) 0 rfl
  have H_1 := H.at_ (v := .int .i64 p) 1 rfl
  have H_2 := H.at_ (v := .slice A n c) 2 rfl
  have H_3 := H.at_ (v := .int .i64 sh) 3 rfl
  have H_4 := H.at_ (v := .int .i64 wo) 4 rfl
  have H_5 := H.at_ (v := .int .i64 qu) 5 rfl
  have H_6 := H.at_ (v := .int .i64 tr) 6 rfl
  have H_z := H.lt
  have G_0 := G.at_ (v := .int .i64 5) 0 rfl
  have G_1 := G.at_ (v := .int .u32 (X : Int)) 1 rfl
  have G_2 := G.at_ (v := .slice C q f) 2 rfl
  have G_z := G.lt
  go_wp2_with fail
  refine (rcheck_is (k := 5) hM h hn hy hq hX hw he.out).mono ?_
  rintro e w4 ⟨rfl, K'⟩
  clear H_0 H_1 H_2 H_3 H_4 H_5 H_6 H_z
  clear G_0 G_1 G_2 G_z
  replace H := H.below K'
  replace G := G.below K'
  replace J := J.below K'
  replace h := h.below K'
  replace hs := hs.below K'
  replace hy := hy.below K'
  replace hA := hA.below K'
  replace hE := hE.below K'
  replace K := Below.then_ K K'
  clear K'
  have H_0 := H.at_ (v := .int .u32 (a : Int)) 0 rfl
  have H_1 := H.at_ (v := .int .i64 p) 1 rfl
  have H_2 := H.at_ (v := .slice A n c) 2 rfl
  have H_3 := H.at_ (v := .int .i64 sh) 3 rfl
  have H_4 := H.at_ (v := .int .i64 wo) 4 rfl
  have H_5 := H.at_ (v := .int .i64 qu) 5 rfl
  have H_6 := H.at_ (v := .int .i64 tr) 6 rfl
  have H_z := H.lt
  have G_0 := G.at_ (v := .int .i64 5) 0 rfl
  have G_1 := G.at_ (v := .int .u32 (X : Int)) 1 rfl
  have G_2 := G.at_ (v := .slice C q f) 2 rfl
  have G_z := G.lt
  go_wp2_with fail
  refine ((TO _).out).mono ?_
  rintro e w5 ⟨rfl, K'⟩
  clear H_0 H_1 H_2 H_3 H_4 H_5 H_6 H_z
  clear G_0 G_1 G_2 G_z
  replace H := H.below K'
  replace G := G.below K'
  replace J := J.below K'
  replace h := h.below K'
  replace hs := hs.below K'
  replace hy := hy.below K'
  replace hA := hA.below K'
  replace hE := hE.below K'
  replace K := Below.then_ K K'
  clear K'
  go_wp2_with fail
  refine (TH _ hs).out.mono ?_
  rintro e _ ⟨rfl, rfl⟩
  clear TO TH he
  have G_0 := G.at_ (v := .int .i64 5) 0 rfl
  have G_1 := G.at_ (v := .int .u32 (X : Int)) 1 rfl
  have G_2 := G.at_ (v := .slice C q f) 2 rfl
  have G_z := G.lt
  have J_0 := J.at_ (v := .int .i64 x.1) 0 rfl
  have J_1 := J.at_ (v := .int .u32 x.2.1) 1 rfl
  have J_2 := J.at_ (v := .bool x.2.2.1) 2 rfl
  have J_3 := J.at_ (v := .slice P p1 p2) 3 rfl
  have J_4 := J.at_ (v := .slice Q q1 q2) 4 rfl
  have J_z := J.lt
  go_wp2_with fail
  refine (answers_any (x := x) (y := (0, 0, u, [], [])) hA hE (IS.none_ .u32 0 _) (IS.none_ .i64 0 _) (by omega) (by omega) (by omega) (by omega)).mono ?_
  rintro e w6 ⟨rfl, K'⟩
  clear J_0 J_1 J_2 J_3 J_4 J_z
  replace H := H.below K'
  replace G := G.below K'
  replace J := J.below K'
  replace h := h.below K'
  replace hs := hs.below K'
  replace hy := hy.below K'
  replace hA := hA.below K'
  replace hE := hE.below K'
  replace K := Below.then_ K K'
  clear K'
  obtain rfl : r = (xs, decide (x = (0, 0, u, [], []))) := by rw [← hR.out]
  go_wp2
  go_ret2
  exact ⟨_, _, _, rfl, hs.lower (Nat.zero_le _), (fun _ _ h => h), K⟩
set_option maxRecDepth 100000 in
set_option maxHeartbeats 4000000 in
theorem rlegal_7 (ha : a < 4294967296) (hM : Much a p M) (h0 : IS .i64 lo w A n c zs) (hn : n ≤ 65536) (hs0 : IS .i64 lo2 w B m d xs) (hm : m ≤ 60000) (hx : mayR M zs 0 xs = true) (hX : X < 4294967296) (hy0 : IS .u32 lo3 w C q f ys) (hq : q ≤ 60000) (hw : W32 ys) (hA0 : IS .u32 lo4 w P p1 p2 x.2.2.2.1) (hE0 : IS .i64 lo5 w Q q1 q2 x.2.2.2.2) (b1 : p1 ≤ 60000) (b2 : q1 ≤ 60000) (hA1 : 0 ≤ x.2.1 ∧ x.2.1 < 4294967296) (h10 : x ≠ an0 10) (h12 : x ≠ an0 12) (he : askE a M zs 7 X ys = 0) :
    Calls Tryd.prog 14 #[.agg #[.int .u32 (a : Int), .int .i64 p, .slice A n c, .int .i64 sh, .int .i64 wo, .int .i64 qu, .int .i64 tr], .slice B m d, .agg #[.int .i64 7, .int .u32 (X : Int), .slice C q f], .agg #[.int .i64 x.1, .int .u32 x.2.1, .bool x.2.2.1, .slice P p1 p2, .slice Q q1 q2]] w (RetLB B m (doR a M zs xs 7 X ys x) w) := by
  obtain ⟨hr_, hb_⟩ := mayR_iff.1 hx
  have hr := Lib.hid hr_
  have hMm := hM.most
  have hb2 : Hid (∀ x ∈ xs, 0 ≤ x ∧ x ≤ 65536) := Lib.hid (fun x hx => ⟨(hb_ x hx).1, by have := (hb_ x hx).2.1; omega⟩)
  clear hr_ hb_ hx
  replace h10 := Lib.hid h10
  replace h12 := Lib.hid h12
  replace he := Lib.hid he
  obtain ⟨v, hv⟩ : ∃ v, ofO a M X = v := ⟨_, rfl⟩
  obtain ⟨u, hu⟩ : ∃ u, hasB xs v = u := ⟨_, rfl⟩
  have TO := fun w => Lib.hid (show Calls _ _ _ _ _ from by have T := roffset_any (w := w) X hX hM; rw [hv] at T; exact T)
  have TH := fun w (hs : IS .i64 lo2 w B m d xs) => Lib.hid (show Calls _ _ _ _ _ from by have T := rhas9_any hs (by omega) v; rw [hu] at T; exact T)
  generalize hR : doR a M zs xs 7 X ys x = r
  rw [doR_7] at hR
  try rw [hv] at hR
  try rw [hu] at hR
  replace hR := Lib.hid hR
  replace hv := Lib.hid hv
  replace hu := Lib.hid hu
  have h := h0
  have hs := hs0
  have hy := hy0
  have hA := hA0
  have hE := hE0
  have K := Below.refl w.heap.size w
  go_enter Tryd.func14, Tryd.ntmps14
  go_upto_region 1 with (fail)
  have KS := K.size
  replace h := h.below (below_alloc _ (.cells #[.int .u32 (a : Int), .int .i64 p, .slice A n c, .int .i64 sh, .int .i64 wo, .int .i64 qu, .int .i64 tr] 27))
  replace hs := hs.below (below_alloc _ (.cells #[.int .u32 (a : Int), .int .i64 p, .slice A n c, .int .i64 sh, .int .i64 wo, .int .i64 qu, .int .i64 tr] 27))
  replace hy := hy.below (below_alloc _ (.cells #[.int .u32 (a : Int), .int .i64 p, .slice A n c, .int .i64 sh, .int .i64 wo, .int .i64 qu, .int .i64 tr] 27))
  replace hA := hA.below (below_alloc _ (.cells #[.int .u32 (a : Int), .int .i64 p, .slice A n c, .int .i64 sh, .int .i64 wo, .int .i64 qu, .int .i64 tr] 27))
  replace hE := hE.below (below_alloc _ (.cells #[.int .u32 (a : Int), .int .i64 p, .slice A n c, .int .i64 sh, .int .i64 wo, .int .i64 qu, .int .i64 tr] 27))
  replace K := Below.then_ K (below_alloc _ (.cells #[.int .u32 (a : Int), .int .i64 p, .slice A n c, .int .i64 sh, .int .i64 wo, .int .i64 qu, .int .i64 tr] 27))
  have H := Bk.new (w) #[.int .u32 (a : Int), .int .i64 p, .slice A n c, .int .i64 sh, .int .i64 wo, .int .i64 qu, .int .i64 tr] 27
  replace H := H.alloc (.cells #[.int .i64 7, .int .u32 (X : Int), .slice C q f] 30)
  replace h := h.below (below_alloc _ (.cells #[.int .i64 7, .int .u32 (X : Int), .slice C q f] 30))
  replace hs := hs.below (below_alloc _ (.cells #[.int .i64 7, .int .u32 (X : Int), .slice C q f] 30))
  replace hy := hy.below (below_alloc _ (.cells #[.int .i64 7, .int .u32 (X : Int), .slice C q f] 30))
  replace hA := hA.below (below_alloc _ (.cells #[.int .i64 7, .int .u32 (X : Int), .slice C q f] 30))
  replace hE := hE.below (below_alloc _ (.cells #[.int .i64 7, .int .u32 (X : Int), .slice C q f] 30))
  replace K := Below.then_ K (below_alloc _ (.cells #[.int .i64 7, .int .u32 (X : Int), .slice C q f] 30))
  have G := Bk.new ((w).alloc (.cells #[.int .u32 (a : Int), .int .i64 p, .slice A n c, .int .i64 sh, .int .i64 wo, .int .i64 qu, .int .i64 tr] 27)) #[.int .i64 7, .int .u32 (X : Int), .slice C q f] 30
  replace H := H.alloc (.cells #[.int .i64 x.1, .int .u32 x.2.1, .bool x.2.2.1, .slice P p1 p2, .slice Q q1 q2] 34)
  replace G := G.alloc (.cells #[.int .i64 x.1, .int .u32 x.2.1, .bool x.2.2.1, .slice P p1 p2, .slice Q q1 q2] 34)
  replace h := h.below (below_alloc _ (.cells #[.int .i64 x.1, .int .u32 x.2.1, .bool x.2.2.1, .slice P p1 p2, .slice Q q1 q2] 34))
  replace hs := hs.below (below_alloc _ (.cells #[.int .i64 x.1, .int .u32 x.2.1, .bool x.2.2.1, .slice P p1 p2, .slice Q q1 q2] 34))
  replace hy := hy.below (below_alloc _ (.cells #[.int .i64 x.1, .int .u32 x.2.1, .bool x.2.2.1, .slice P p1 p2, .slice Q q1 q2] 34))
  replace hA := hA.below (below_alloc _ (.cells #[.int .i64 x.1, .int .u32 x.2.1, .bool x.2.2.1, .slice P p1 p2, .slice Q q1 q2] 34))
  replace hE := hE.below (below_alloc _ (.cells #[.int .i64 x.1, .int .u32 x.2.1, .bool x.2.2.1, .slice P p1 p2, .slice Q q1 q2] 34))
  replace K := Below.then_ K (below_alloc _ (.cells #[.int .i64 x.1, .int .u32 x.2.1, .bool x.2.2.1, .slice P p1 p2, .slice Q q1 q2] 34))
  have J := Bk.new (((w).alloc (.cells #[.int .u32 (a : Int), .int .i64 p, .slice A n c, .int .i64 sh, .int .i64 wo, .int .i64 qu, .int .i64 tr] 27)).alloc (.cells #[.int .i64 7, .int .u32 (X : Int), .slice C q f] 30)) #[.int .i64 x.1, .int .u32 x.2.1, .bool x.2.2.1, .slice P p1 p2, .slice Q q1 q2] 34
  try simp only [World.size_alloc] at H G J
  generalize (((w).alloc (.cells #[.int .u32 (a : Int), .int .i64 p, .slice A n c, .int .i64 sh, .int .i64 wo, .int .i64 qu, .int .i64 tr] 27)).alloc (.cells #[.int .i64 7, .int .u32 (X : Int), .slice C q f] 30)).alloc (.cells #[.int .i64 x.1, .int .u32 x.2.1, .bool x.2.2.1, .slice P p1 p2, .slice Q q1 q2] 34) = w1 at H G J h hs hy hA hE K ⊢
  generalize hgJ : w.heap.size + 1 + 1 = gJ at H G J ⊢
  generalize hgG : w.heap.size + 1 = gG at H G J ⊢
  generalize hgH : w.heap.size = gH at H G J ⊢
  have H_b : w.heap.size ≤ gH := by omega
  have G_b : w.heap.size ≤ gG := by omega
  have J_b : w.heap.size ≤ gJ := by omega
  have ne_H_G : gH ≠ gG := by omega
  have ne_H_J : gH ≠ gJ := by omega
  have ne_G_J : gG ≠ gJ := by omega
  clear KS hgH hgG hgJ 
  have J_0 := J.at_ (v := .int .i64 x.1) 0 rfl
  have J_1 := J.at_ (v := .int .u32 x.2.1) 1 rfl
  have J_2 := J.at_ (v := .bool x.2.2.1) 2 rfl
  have J_3 := J.at_ (v := .slice P p1 p2) 3 rfl
  have J_4 := J.at_ (v := .slice Q q1 q2) 4 rfl
  have J_z := J.lt
  go_wp2_with fail
  refine (only_is (v := 10) hA hE (by omega) (by omega) (decide_eq_false h10.out)).mono ?_
  rintro e w2 ⟨rfl, K'⟩
  clear J_0 J_1 J_2 J_3 J_4 J_z
  replace H := H.below K'
  replace G := G.below K'
  replace J := J.below K'
  replace h := h.below K'
  replace hs := hs.below K'
  replace hy := hy.below K'
  replace hA := hA.below K'
  replace hE := hE.below K'
  replace K := Below.then_ K K'
  clear K'
  have J_0 := J.at_ (v := .int .i64 x.1) 0 rfl
  have J_1 := J.at_ (v := .int .u32 x.2.1) 1 rfl
  have J_2 := J.at_ (v := .bool x.2.2.1) 2 rfl
  have J_3 := J.at_ (v := .slice P p1 p2) 3 rfl
  have J_4 := J.at_ (v := .slice Q q1 q2) 4 rfl
  have J_z := J.lt
  go_wp2_with fail
  refine (only_is (v := 12) hA hE (by omega) (by omega) (decide_eq_false h12.out)).mono ?_
  rintro e w3 ⟨rfl, K'⟩
  clear J_0 J_1 J_2 J_3 J_4 J_z
  replace H := H.below K'
  replace G := G.below K'
  replace J := J.below K'
  replace h := h.below K'
  replace hs := hs.below K'
  replace hy := hy.below K'
  replace hA := hA.below K'
  replace hE := hE.below K'
  replace K := Below.then_ K K'
  clear K'
  have H_0 := H.at_ (v := .int .u32 (a : Int)) 0 rfl
  have H_1 := H.at_ (v := .int .i64 p) 1 rfl
  have H_2 := H.at_ (v := .slice A n c) 2 rfl
  have H_3 := H.at_ (v := .int .i64 sh) 3 rfl
  have H_4 := H.at_ (v := .int .i64 wo) 4 rfl
  have H_5 := H.at_ (v := .int .i64 qu) 5 rfl
  have H_6 := H.at_ (v := .int .i64 tr) 6 rfl
  have H_z := H.lt
  have G_0 := G.at_ (v := .int .i64 7) 0 rfl
  have G_1 := G.at_ (v := .int .u32 (X : Int)) 1 rfl
  have G_2 := G.at_ (v := .slice C q f) 2 rfl
  have G_z := G.lt
  go_wp2_with fail
  refine (rcheck_is (k := 7) hM h hn hy hq hX hw he.out).mono ?_
  rintro e w4 ⟨rfl, K'⟩
  clear H_0 H_1 H_2 H_3 H_4 H_5 H_6 H_z
  clear G_0 G_1 G_2 G_z
  replace H := H.below K'
  replace G := G.below K'
  replace J := J.below K'
  replace h := h.below K'
  replace hs := hs.below K'
  replace hy := hy.below K'
  replace hA := hA.below K'
  replace hE := hE.below K'
  replace K := Below.then_ K K'
  clear K'
  have H_0 := H.at_ (v := .int .u32 (a : Int)) 0 rfl
  have H_1 := H.at_ (v := .int .i64 p) 1 rfl
  have H_2 := H.at_ (v := .slice A n c) 2 rfl
  have H_3 := H.at_ (v := .int .i64 sh) 3 rfl
  have H_4 := H.at_ (v := .int .i64 wo) 4 rfl
  have H_5 := H.at_ (v := .int .i64 qu) 5 rfl
  have H_6 := H.at_ (v := .int .i64 tr) 6 rfl
  have H_z := H.lt
  have G_0 := G.at_ (v := .int .i64 7) 0 rfl
  have G_1 := G.at_ (v := .int .u32 (X : Int)) 1 rfl
  have G_2 := G.at_ (v := .slice C q f) 2 rfl
  have G_z := G.lt
  go_wp2_with fail
  refine ((TO _).out).mono ?_
  rintro e w5 ⟨rfl, K'⟩
  clear H_0 H_1 H_2 H_3 H_4 H_5 H_6 H_z
  clear G_0 G_1 G_2 G_z
  replace H := H.below K'
  replace G := G.below K'
  replace J := J.below K'
  replace h := h.below K'
  replace hs := hs.below K'
  replace hy := hy.below K'
  replace hA := hA.below K'
  replace hE := hE.below K'
  replace K := Below.then_ K K'
  clear K'
  go_wp2_with fail
  refine (TH _ hs).out.mono ?_
  rintro e _ ⟨rfl, rfl⟩
  clear TO TH he
  have G_0 := G.at_ (v := .int .i64 7) 0 rfl
  have G_1 := G.at_ (v := .int .u32 (X : Int)) 1 rfl
  have G_2 := G.at_ (v := .slice C q f) 2 rfl
  have G_z := G.lt
  have J_0 := J.at_ (v := .int .i64 x.1) 0 rfl
  have J_1 := J.at_ (v := .int .u32 x.2.1) 1 rfl
  have J_2 := J.at_ (v := .bool x.2.2.1) 2 rfl
  have J_3 := J.at_ (v := .slice P p1 p2) 3 rfl
  have J_4 := J.at_ (v := .slice Q q1 q2) 4 rfl
  have J_z := J.lt
  go_wp2_with fail
  refine (only_any hA hE (by omega) (by omega) 0).mono ?_
  rintro e w6 ⟨rfl, K'⟩
  clear J_0 J_1 J_2 J_3 J_4 J_z
  replace H := H.below K'
  replace G := G.below K'
  replace J := J.below K'
  replace h := h.below K'
  replace hs := hs.below K'
  replace hy := hy.below K'
  replace hA := hA.below K'
  replace hE := hE.below K'
  replace K := Below.then_ K K'
  clear K'
  obtain rfl : r = (xs, decide (x = an0 0)) := by rw [← hR.out]
  go_wp2
  go_ret2
  exact ⟨_, _, _, rfl, hs.lower (Nat.zero_le _), (fun _ _ h => h), K⟩
set_option maxRecDepth 100000 in
set_option maxHeartbeats 4000000 in
theorem rlegal_6 (ha : a < 4294967296) (hM : Much a p M) (h0 : IS .i64 lo w A n c zs) (hn : n ≤ 65536) (hs0 : IS .i64 lo2 w B m d xs) (hm : m ≤ 60000) (hx : mayR M zs 0 xs = true) (hX : X < 4294967296) (hy0 : IS .u32 lo3 w C q f ys) (hq : q ≤ 60000) (hw : W32 ys) (hA0 : IS .u32 lo4 w P p1 p2 x.2.2.2.1) (hE0 : IS .i64 lo5 w Q q1 q2 x.2.2.2.2) (b1 : p1 ≤ 60000) (b2 : q1 ≤ 60000) (hA1 : 0 ≤ x.2.1 ∧ x.2.1 < 4294967296) (h10 : x ≠ an0 10) (h12 : x ≠ an0 12) (he : askE a M zs 6 X ys = 0) :
    Calls Tryd.prog 14 #[.agg #[.int .u32 (a : Int), .int .i64 p, .slice A n c, .int .i64 sh, .int .i64 wo, .int .i64 qu, .int .i64 tr], .slice B m d, .agg #[.int .i64 6, .int .u32 (X : Int), .slice C q f], .agg #[.int .i64 x.1, .int .u32 x.2.1, .bool x.2.2.1, .slice P p1 p2, .slice Q q1 q2]] w (RetLB B m (doR a M zs xs 6 X ys x) w) := by
  obtain ⟨hr_, hb_⟩ := mayR_iff.1 hx
  have hr := Lib.hid hr_
  have hMm := hM.most
  have hb2 : Hid (∀ x ∈ xs, 0 ≤ x ∧ x ≤ 65536) := Lib.hid (fun x hx => ⟨(hb_ x hx).1, by have := (hb_ x hx).2.1; omega⟩)
  clear hr_ hb_ hx
  replace h10 := Lib.hid h10
  replace h12 := Lib.hid h12
  replace he := Lib.hid he
  obtain ⟨v, hv⟩ : ∃ v, ofO a M X = v := ⟨_, rfl⟩
  obtain ⟨u, hu⟩ : ∃ u, hasB xs v = u := ⟨_, rfl⟩
  have TO := fun w => Lib.hid (show Calls _ _ _ _ _ from by have T := roffset_any (w := w) X hX hM; rw [hv] at T; exact T)
  have TH := fun w (hs : IS .i64 lo2 w B m d xs) => Lib.hid (show Calls _ _ _ _ _ from by have T := rhas9_any hs (by omega) v; rw [hu] at T; exact T)
  generalize hR : doR a M zs xs 6 X ys x = r
  rw [doR_6] at hR
  try rw [hv] at hR
  try rw [hu] at hR
  replace hR := Lib.hid hR
  replace hv := Lib.hid hv
  replace hu := Lib.hid hu
  have h := h0
  have hs := hs0
  have hy := hy0
  have hA := hA0
  have hE := hE0
  have K := Below.refl w.heap.size w
  go_enter Tryd.func14, Tryd.ntmps14
  go_upto_region 1 with (fail)
  have KS := K.size
  replace h := h.below (below_alloc _ (.cells #[.int .u32 (a : Int), .int .i64 p, .slice A n c, .int .i64 sh, .int .i64 wo, .int .i64 qu, .int .i64 tr] 27))
  replace hs := hs.below (below_alloc _ (.cells #[.int .u32 (a : Int), .int .i64 p, .slice A n c, .int .i64 sh, .int .i64 wo, .int .i64 qu, .int .i64 tr] 27))
  replace hy := hy.below (below_alloc _ (.cells #[.int .u32 (a : Int), .int .i64 p, .slice A n c, .int .i64 sh, .int .i64 wo, .int .i64 qu, .int .i64 tr] 27))
  replace hA := hA.below (below_alloc _ (.cells #[.int .u32 (a : Int), .int .i64 p, .slice A n c, .int .i64 sh, .int .i64 wo, .int .i64 qu, .int .i64 tr] 27))
  replace hE := hE.below (below_alloc _ (.cells #[.int .u32 (a : Int), .int .i64 p, .slice A n c, .int .i64 sh, .int .i64 wo, .int .i64 qu, .int .i64 tr] 27))
  replace K := Below.then_ K (below_alloc _ (.cells #[.int .u32 (a : Int), .int .i64 p, .slice A n c, .int .i64 sh, .int .i64 wo, .int .i64 qu, .int .i64 tr] 27))
  have H := Bk.new (w) #[.int .u32 (a : Int), .int .i64 p, .slice A n c, .int .i64 sh, .int .i64 wo, .int .i64 qu, .int .i64 tr] 27
  replace H := H.alloc (.cells #[.int .i64 6, .int .u32 (X : Int), .slice C q f] 30)
  replace h := h.below (below_alloc _ (.cells #[.int .i64 6, .int .u32 (X : Int), .slice C q f] 30))
  replace hs := hs.below (below_alloc _ (.cells #[.int .i64 6, .int .u32 (X : Int), .slice C q f] 30))
  replace hy := hy.below (below_alloc _ (.cells #[.int .i64 6, .int .u32 (X : Int), .slice C q f] 30))
  replace hA := hA.below (below_alloc _ (.cells #[.int .i64 6, .int .u32 (X : Int), .slice C q f] 30))
  replace hE := hE.below (below_alloc _ (.cells #[.int .i64 6, .int .u32 (X : Int), .slice C q f] 30))
  replace K := Below.then_ K (below_alloc _ (.cells #[.int .i64 6, .int .u32 (X : Int), .slice C q f] 30))
  have G := Bk.new ((w).alloc (.cells #[.int .u32 (a : Int), .int .i64 p, .slice A n c, .int .i64 sh, .int .i64 wo, .int .i64 qu, .int .i64 tr] 27)) #[.int .i64 6, .int .u32 (X : Int), .slice C q f] 30
  replace H := H.alloc (.cells #[.int .i64 x.1, .int .u32 x.2.1, .bool x.2.2.1, .slice P p1 p2, .slice Q q1 q2] 34)
  replace G := G.alloc (.cells #[.int .i64 x.1, .int .u32 x.2.1, .bool x.2.2.1, .slice P p1 p2, .slice Q q1 q2] 34)
  replace h := h.below (below_alloc _ (.cells #[.int .i64 x.1, .int .u32 x.2.1, .bool x.2.2.1, .slice P p1 p2, .slice Q q1 q2] 34))
  replace hs := hs.below (below_alloc _ (.cells #[.int .i64 x.1, .int .u32 x.2.1, .bool x.2.2.1, .slice P p1 p2, .slice Q q1 q2] 34))
  replace hy := hy.below (below_alloc _ (.cells #[.int .i64 x.1, .int .u32 x.2.1, .bool x.2.2.1, .slice P p1 p2, .slice Q q1 q2] 34))
  replace hA := hA.below (below_alloc _ (.cells #[.int .i64 x.1, .int .u32 x.2.1, .bool x.2.2.1, .slice P p1 p2, .slice Q q1 q2] 34))
  replace hE := hE.below (below_alloc _ (.cells #[.int .i64 x.1, .int .u32 x.2.1, .bool x.2.2.1, .slice P p1 p2, .slice Q q1 q2] 34))
  replace K := Below.then_ K (below_alloc _ (.cells #[.int .i64 x.1, .int .u32 x.2.1, .bool x.2.2.1, .slice P p1 p2, .slice Q q1 q2] 34))
  have J := Bk.new (((w).alloc (.cells #[.int .u32 (a : Int), .int .i64 p, .slice A n c, .int .i64 sh, .int .i64 wo, .int .i64 qu, .int .i64 tr] 27)).alloc (.cells #[.int .i64 6, .int .u32 (X : Int), .slice C q f] 30)) #[.int .i64 x.1, .int .u32 x.2.1, .bool x.2.2.1, .slice P p1 p2, .slice Q q1 q2] 34
  try simp only [World.size_alloc] at H G J
  generalize (((w).alloc (.cells #[.int .u32 (a : Int), .int .i64 p, .slice A n c, .int .i64 sh, .int .i64 wo, .int .i64 qu, .int .i64 tr] 27)).alloc (.cells #[.int .i64 6, .int .u32 (X : Int), .slice C q f] 30)).alloc (.cells #[.int .i64 x.1, .int .u32 x.2.1, .bool x.2.2.1, .slice P p1 p2, .slice Q q1 q2] 34) = w1 at H G J h hs hy hA hE K ⊢
  generalize hgJ : w.heap.size + 1 + 1 = gJ at H G J ⊢
  generalize hgG : w.heap.size + 1 = gG at H G J ⊢
  generalize hgH : w.heap.size = gH at H G J ⊢
  have H_b : w.heap.size ≤ gH := by omega
  have G_b : w.heap.size ≤ gG := by omega
  have J_b : w.heap.size ≤ gJ := by omega
  have ne_H_G : gH ≠ gG := by omega
  have ne_H_J : gH ≠ gJ := by omega
  have ne_G_J : gG ≠ gJ := by omega
  clear KS hgH hgG hgJ 
  have J_0 := J.at_ (v := .int .i64 x.1) 0 rfl
  have J_1 := J.at_ (v := .int .u32 x.2.1) 1 rfl
  have J_2 := J.at_ (v := .bool x.2.2.1) 2 rfl
  have J_3 := J.at_ (v := .slice P p1 p2) 3 rfl
  have J_4 := J.at_ (v := .slice Q q1 q2) 4 rfl
  have J_z := J.lt
  go_wp2_with fail
  refine (only_is (v := 10) hA hE (by omega) (by omega) (decide_eq_false h10.out)).mono ?_
  rintro e w2 ⟨rfl, K'⟩
  clear J_0 J_1 J_2 J_3 J_4 J_z
  replace H := H.below K'
  replace G := G.below K'
  replace J := J.below K'
  replace h := h.below K'
  replace hs := hs.below K'
  replace hy := hy.below K'
  replace hA := hA.below K'
  replace hE := hE.below K'
  replace K := Below.then_ K K'
  clear K'
  have J_0 := J.at_ (v := .int .i64 x.1) 0 rfl
  have J_1 := J.at_ (v := .int .u32 x.2.1) 1 rfl
  have J_2 := J.at_ (v := .bool x.2.2.1) 2 rfl
  have J_3 := J.at_ (v := .slice P p1 p2) 3 rfl
  have J_4 := J.at_ (v := .slice Q q1 q2) 4 rfl
  have J_z := J.lt
  go_wp2_with fail
  refine (only_is (v := 12) hA hE (by omega) (by omega) (decide_eq_false h12.out)).mono ?_
  rintro e w3 ⟨rfl, K'⟩
  clear J_0 J_1 J_2 J_3 J_4 J_z
  replace H := H.below K'
  replace G := G.below K'
  replace J := J.below K'
  replace h := h.below K'
  replace hs := hs.below K'
  replace hy := hy.below K'
  replace hA := hA.below K'
  replace hE := hE.below K'
  replace K := Below.then_ K K'
  clear K'
  have H_0 := H.at_ (v := .int .u32 (a : Int)) 0 rfl
  have H_1 := H.at_ (v := .int .i64 p) 1 rfl
  have H_2 := H.at_ (v := .slice A n c) 2 rfl
  have H_3 := H.at_ (v := .int .i64 sh) 3 rfl
  have H_4 := H.at_ (v := .int .i64 wo) 4 rfl
  have H_5 := H.at_ (v := .int .i64 qu) 5 rfl
  have H_6 := H.at_ (v := .int .i64 tr) 6 rfl
  have H_z := H.lt
  have G_0 := G.at_ (v := .int .i64 6) 0 rfl
  have G_1 := G.at_ (v := .int .u32 (X : Int)) 1 rfl
  have G_2 := G.at_ (v := .slice C q f) 2 rfl
  have G_z := G.lt
  go_wp2_with fail
  refine (rcheck_is (k := 6) hM h hn hy hq hX hw he.out).mono ?_
  rintro e w4 ⟨rfl, K'⟩
  clear H_0 H_1 H_2 H_3 H_4 H_5 H_6 H_z
  clear G_0 G_1 G_2 G_z
  replace H := H.below K'
  replace G := G.below K'
  replace J := J.below K'
  replace h := h.below K'
  replace hs := hs.below K'
  replace hy := hy.below K'
  replace hA := hA.below K'
  replace hE := hE.below K'
  replace K := Below.then_ K K'
  clear K'
  have H_0 := H.at_ (v := .int .u32 (a : Int)) 0 rfl
  have H_1 := H.at_ (v := .int .i64 p) 1 rfl
  have H_2 := H.at_ (v := .slice A n c) 2 rfl
  have H_3 := H.at_ (v := .int .i64 sh) 3 rfl
  have H_4 := H.at_ (v := .int .i64 wo) 4 rfl
  have H_5 := H.at_ (v := .int .i64 qu) 5 rfl
  have H_6 := H.at_ (v := .int .i64 tr) 6 rfl
  have H_z := H.lt
  have G_0 := G.at_ (v := .int .i64 6) 0 rfl
  have G_1 := G.at_ (v := .int .u32 (X : Int)) 1 rfl
  have G_2 := G.at_ (v := .slice C q f) 2 rfl
  have G_z := G.lt
  go_wp2_with fail
  refine ((TO _).out).mono ?_
  rintro e w5 ⟨rfl, K'⟩
  clear H_0 H_1 H_2 H_3 H_4 H_5 H_6 H_z
  clear G_0 G_1 G_2 G_z
  replace H := H.below K'
  replace G := G.below K'
  replace J := J.below K'
  replace h := h.below K'
  replace hs := hs.below K'
  replace hy := hy.below K'
  replace hA := hA.below K'
  replace hE := hE.below K'
  replace K := Below.then_ K K'
  clear K'
  go_wp2_with fail
  refine (TH _ hs).out.mono ?_
  rintro e _ ⟨rfl, rfl⟩
  clear TO TH he
  have G_0 := G.at_ (v := .int .i64 6) 0 rfl
  have G_1 := G.at_ (v := .int .u32 (X : Int)) 1 rfl
  have G_2 := G.at_ (v := .slice C q f) 2 rfl
  have G_z := G.lt
  by_cases h11 : x = an0 11
  clear G_0 G_1 G_2 G_z
  · replace h11 := Lib.hid h11
    have G_0 := G.at_ (v := .int .i64 6) 0 rfl
    have G_1 := G.at_ (v := .int .u32 (X : Int)) 1 rfl
    have G_2 := G.at_ (v := .slice C q f) 2 rfl
    have G_z := G.lt
    go_wp2
    clear G_0 G_1 G_2 G_z
    refine wp_region_held_drew (S := fun w' => Below w.heap.size w w' ∧ Bk w' gH 27 #[.int .u32 (a : Int), .int .i64 p, .slice A n c, .int .i64 sh, .int .i64 wo, .int .i64 qu, .int .i64 tr] ∧ Bk w' gG 30 #[.int .i64 6, .int .u32 (X : Int), .slice C q f] ∧ Bk w' gJ 34 #[.int .i64 x.1, .int .u32 x.2.1, .bool x.2.2.1, .slice P p1 p2, .slice Q q1 q2] ∧ True) (by kernel_rfl) ⟨K.drew, H.below ((Below.refl _ _).drew), G.below ((Below.refl _ _).drew), J.below ((Below.refl _ _).drew), trivial⟩ (fun hHeld => ?_)
    generalize w5.drew = v6 at hHeld  ⊢
    refine wpAnyH_take (i := 0) (oi := ⟨some 163, _, _, _, _, _⟩) (v := ?_) rfl (by kernel_rfl) (by kernel_rfl) (by kernel_rfl) (fun _ _ _ h => h) (Or.inl ⟨by rfl, ?_⟩) hHeld ?_
    rotate_left
    · intro ww hSw
      try dsimp only at hSw
      go_simp
      try with_reducible rfl
      try omega
    try simp only [Act.put, List.setIfInBounds_toArray, List.set_cons_zero, List.set_cons_succ]
    refine wpAnyH_take (i := 1) (oi := ⟨some 164, _, _, _, _, _⟩) (v := ?_) rfl (by kernel_rfl) (by kernel_rfl) (by kernel_rfl) (fun _ _ _ h => h) (Or.inl ⟨by rfl, ?_⟩) hHeld ?_
    rotate_left
    · intro ww hSw
      try dsimp only at hSw
      have H_0 := (hSw.2.1).at_ (v := .int .u32 (a : Int)) 0 rfl
      have H_1 := (hSw.2.1).at_ (v := .int .i64 p) 1 rfl
      have H_2 := (hSw.2.1).at_ (v := .slice A n c) 2 rfl
      have H_3 := (hSw.2.1).at_ (v := .int .i64 sh) 3 rfl
      have H_4 := (hSw.2.1).at_ (v := .int .i64 wo) 4 rfl
      have H_5 := (hSw.2.1).at_ (v := .int .i64 qu) 5 rfl
      have H_6 := (hSw.2.1).at_ (v := .int .i64 tr) 6 rfl
      have H_z := (hSw.2.1).lt
      have J_0 := (hSw.2.2.2.1).at_ (v := .int .i64 x.1) 0 rfl
      have J_1 := (hSw.2.2.2.1).at_ (v := .int .u32 x.2.1) 1 rfl
      have J_2 := (hSw.2.2.2.1).at_ (v := .bool x.2.2.1) 2 rfl
      have J_3 := (hSw.2.2.2.1).at_ (v := .slice P p1 p2) 3 rfl
      have J_4 := (hSw.2.2.2.1).at_ (v := .slice Q q1 q2) 4 rfl
      have J_z := (hSw.2.2.2.1).lt
      go_simp
      try with_reducible rfl
      try omega
    try simp only [Act.put, List.setIfInBounds_toArray, List.set_cons_zero, List.set_cons_succ]
    refine wpAnyH_ready (rs := [2]) (by kernel_rfl) (by simp) ?_
    refine AllReadyH.cons (o := ⟨some 165, _, _, _, _, _⟩) rfl (fun K0 hK => ?_) AllReadyH.nil
    go_simp
    refine (only_is (v := 11) (hA0.below hHeld.1) (hE0.below hHeld.1) (by omega) (by omega) (decide_eq_true h11.out)).mono ?_
    rintro e v7 ⟨rfl, K'⟩
    refine hK.out _ _ ⟨Below.then_ hHeld.1 K', hHeld.2.1.below K', hHeld.2.2.1.below K', hHeld.2.2.2.1.below K', trivial⟩ (fun hHeld' => ?_)
    clear hHeld K' hK K0
    have hHeld := hHeld'
    clear hHeld'
    try simp only [Act.put, List.setIfInBounds_toArray, List.set_cons_zero, List.set_cons_succ]
    refine wpAnyH_take (i := 3) (oi := ⟨some 166, _, _, _, _, _⟩) (v := .bool true) rfl (by kernel_rfl) (by kernel_rfl) (by kernel_rfl) (fun _ _ _ h => h) (Or.inl ⟨by rfl, ?_⟩) hHeld ?_
    · intro ww hSw
      try dsimp only at hSw
      go_simp
      try with_reducible rfl
      try omega
    try simp only [Act.put, List.setIfInBounds_toArray, List.set_cons_zero, List.set_cons_succ]
    refine wpAnyH_take (i := 4) (oi := ⟨some 167, _, _, _, _, _⟩) (v := undef) rfl (by kernel_rfl) (by kernel_rfl) (by kernel_rfl) (fun _ _ _ h => h) (Or.inr ⟨by rfl, rfl⟩) hHeld ?_
    try simp only [Act.put, List.setIfInBounds_toArray, List.set_cons_zero, List.set_cons_succ]
    refine wpAnyH_take (i := 5) (oi := ⟨some 168, _, _, _, _, _⟩) (v := undef) rfl (by kernel_rfl) (by kernel_rfl) (by kernel_rfl) (fun _ _ _ h => h) (Or.inr ⟨by rfl, rfl⟩) hHeld ?_
    try simp only [Act.put, List.setIfInBounds_toArray, List.set_cons_zero, List.set_cons_succ]
    refine wpAnyH_take (i := 6) (oi := ⟨some 169, _, _, _, _, _⟩) (v := undef) rfl (by kernel_rfl) (by kernel_rfl) (by kernel_rfl) (fun _ _ _ h => h) (Or.inr ⟨by rfl, rfl⟩) hHeld ?_
    try simp only [Act.put, List.setIfInBounds_toArray, List.set_cons_zero, List.set_cons_succ]
    refine wpAnyH_take (i := 7) (oi := ⟨some 170, _, _, _, _, _⟩) (v := undef) rfl (by kernel_rfl) (by kernel_rfl) (by kernel_rfl) (fun _ _ _ h => h) (Or.inr ⟨by rfl, rfl⟩) hHeld ?_
    try simp only [Act.put, List.setIfInBounds_toArray, List.set_cons_zero, List.set_cons_succ]
    refine wpAnyH_take (i := 8) (oi := ⟨some 171, _, _, _, _, _⟩) (v := undef) rfl (by kernel_rfl) (by kernel_rfl) (by kernel_rfl) (fun _ _ _ h => h) (Or.inr ⟨by rfl, rfl⟩) hHeld ?_
    try simp only [Act.put, List.setIfInBounds_toArray, List.set_cons_zero, List.set_cons_succ]
    refine wpAnyH_take (i := 9) (oi := ⟨some 172, _, _, _, _, _⟩) (v := undef) rfl (by kernel_rfl) (by kernel_rfl) (by kernel_rfl) (fun _ _ _ h => h) (Or.inr ⟨by rfl, rfl⟩) hHeld ?_
    try simp only [Act.put, List.setIfInBounds_toArray, List.set_cons_zero, List.set_cons_succ]
    refine wpAnyH_take (i := 10) (oi := ⟨some 173, _, _, _, _, _⟩) (v := ?_) rfl (by kernel_rfl) (by kernel_rfl) (by kernel_rfl) (fun _ _ _ h => h) (Or.inl ⟨by rfl, ?_⟩) hHeld ?_
    rotate_left
    · intro ww hSw
      try dsimp only at hSw
      go_simp
      try with_reducible rfl
      try omega
    try simp only [Act.put, List.setIfInBounds_toArray, List.set_cons_zero, List.set_cons_succ]
    refine wpAnyH_take (i := 11) (oi := ⟨some 8, _, _, _, _, _⟩) (v := ?_) rfl (by kernel_rfl) (by kernel_rfl) (by kernel_rfl) (fun _ _ _ h => h) (Or.inl ⟨by rfl, ?_⟩) hHeld ?_
    rotate_left
    · intro ww hSw
      try dsimp only at hSw
      go_simp
      try with_reducible rfl
      try omega
    try simp only [Act.put, List.setIfInBounds_toArray, List.set_cons_zero, List.set_cons_succ]
    refine wpAnyH_take (i := 12) (oi := ⟨some 9, _, _, _, _, _⟩) (v := ?_) rfl (by kernel_rfl) (by kernel_rfl) (by kernel_rfl) (fun _ _ _ h => h) (Or.inl ⟨by rfl, ?_⟩) hHeld ?_
    rotate_left
    · intro ww hSw
      try dsimp only at hSw
      go_simp
      try with_reducible rfl
      try omega
    try simp only [Act.put, List.setIfInBounds_toArray, List.set_cons_zero, List.set_cons_succ]
    refine wpAnyH_done (by kernel_rfl) ?_ _
    replace K := hHeld.1
    replace H := hHeld.2.1
    replace G := hHeld.2.2.1
    replace J := hHeld.2.2.2.1
    clear hHeld
    replace h := h0.below K
    replace hs := hs0.below K
    replace hy := hy0.below K
    replace hA := hA0.below K
    replace hE := hE0.below K
    obtain rfl : r = (xs, true) := by rw [← hR.out]; rw [decide_eq_true (.inl h11.out)]
    go_wp2
    go_ret2
    exact ⟨_, _, _, rfl, hs.lower (Nat.zero_le _), (fun _ _ h => h), K⟩
  · replace h11 := Lib.hid h11
    have G_0 := G.at_ (v := .int .i64 6) 0 rfl
    have G_1 := G.at_ (v := .int .u32 (X : Int)) 1 rfl
    have G_2 := G.at_ (v := .slice C q f) 2 rfl
    have G_z := G.lt
    go_wp2
    clear G_0 G_1 G_2 G_z
    refine wp_region_held_drew (S := fun w' => Below w.heap.size w w' ∧ Bk w' gH 27 #[.int .u32 (a : Int), .int .i64 p, .slice A n c, .int .i64 sh, .int .i64 wo, .int .i64 qu, .int .i64 tr] ∧ Bk w' gG 30 #[.int .i64 6, .int .u32 (X : Int), .slice C q f] ∧ Bk w' gJ 34 #[.int .i64 x.1, .int .u32 x.2.1, .bool x.2.2.1, .slice P p1 p2, .slice Q q1 q2] ∧ True) (by kernel_rfl) ⟨K.drew, H.below ((Below.refl _ _).drew), G.below ((Below.refl _ _).drew), J.below ((Below.refl _ _).drew), trivial⟩ (fun hHeld => ?_)
    generalize w5.drew = v6 at hHeld  ⊢
    refine wpAnyH_take (i := 0) (oi := ⟨some 163, _, _, _, _, _⟩) (v := ?_) rfl (by kernel_rfl) (by kernel_rfl) (by kernel_rfl) (fun _ _ _ h => h) (Or.inl ⟨by rfl, ?_⟩) hHeld ?_
    rotate_left
    · intro ww hSw
      try dsimp only at hSw
      go_simp
      try with_reducible rfl
      try omega
    try simp only [Act.put, List.setIfInBounds_toArray, List.set_cons_zero, List.set_cons_succ]
    refine wpAnyH_take (i := 1) (oi := ⟨some 164, _, _, _, _, _⟩) (v := ?_) rfl (by kernel_rfl) (by kernel_rfl) (by kernel_rfl) (fun _ _ _ h => h) (Or.inl ⟨by rfl, ?_⟩) hHeld ?_
    rotate_left
    · intro ww hSw
      try dsimp only at hSw
      have H_0 := (hSw.2.1).at_ (v := .int .u32 (a : Int)) 0 rfl
      have H_1 := (hSw.2.1).at_ (v := .int .i64 p) 1 rfl
      have H_2 := (hSw.2.1).at_ (v := .slice A n c) 2 rfl
      have H_3 := (hSw.2.1).at_ (v := .int .i64 sh) 3 rfl
      have H_4 := (hSw.2.1).at_ (v := .int .i64 wo) 4 rfl
      have H_5 := (hSw.2.1).at_ (v := .int .i64 qu) 5 rfl
      have H_6 := (hSw.2.1).at_ (v := .int .i64 tr) 6 rfl
      have H_z := (hSw.2.1).lt
      have J_0 := (hSw.2.2.2.1).at_ (v := .int .i64 x.1) 0 rfl
      have J_1 := (hSw.2.2.2.1).at_ (v := .int .u32 x.2.1) 1 rfl
      have J_2 := (hSw.2.2.2.1).at_ (v := .bool x.2.2.1) 2 rfl
      have J_3 := (hSw.2.2.2.1).at_ (v := .slice P p1 p2) 3 rfl
      have J_4 := (hSw.2.2.2.1).at_ (v := .slice Q q1 q2) 4 rfl
      have J_z := (hSw.2.2.2.1).lt
      go_simp
      try with_reducible rfl
      try omega
    try simp only [Act.put, List.setIfInBounds_toArray, List.set_cons_zero, List.set_cons_succ]
    refine wpAnyH_ready (rs := [2]) (by kernel_rfl) (by simp) ?_
    refine AllReadyH.cons (o := ⟨some 165, _, _, _, _, _⟩) rfl (fun K0 hK => ?_) AllReadyH.nil
    go_simp
    refine (only_is (v := 11) (hA0.below hHeld.1) (hE0.below hHeld.1) (by omega) (by omega) (decide_eq_false h11.out)).mono ?_
    rintro e v7 ⟨rfl, K'⟩
    refine hK.out _ _ ⟨Below.then_ hHeld.1 K', hHeld.2.1.below K', hHeld.2.2.1.below K', hHeld.2.2.2.1.below K', trivial⟩ (fun hHeld' => ?_)
    clear hHeld K' hK K0
    have hHeld := hHeld'
    clear hHeld'
    try simp only [Act.put, List.setIfInBounds_toArray, List.set_cons_zero, List.set_cons_succ]
    refine wpAnyH_take (i := 3) (oi := ⟨some 166, _, _, _, _, _⟩) (v := .bool false) rfl (by kernel_rfl) (by kernel_rfl) (by kernel_rfl) (fun _ _ _ h => h) (Or.inl ⟨by rfl, ?_⟩) hHeld ?_
    · intro ww hSw
      try dsimp only at hSw
      go_simp
      try with_reducible rfl
      try omega
    try simp only [Act.put, List.setIfInBounds_toArray, List.set_cons_zero, List.set_cons_succ]
    refine wpAnyH_take (i := 4) (oi := ⟨some 167, _, _, _, _, _⟩) (v := ?_) rfl (by kernel_rfl) (by kernel_rfl) (by kernel_rfl) (fun _ _ _ h => h) (Or.inl ⟨by rfl, ?_⟩) hHeld ?_
    rotate_left
    · intro ww hSw
      try dsimp only at hSw
      have H_0 := (hSw.2.1).at_ (v := .int .u32 (a : Int)) 0 rfl
      have H_1 := (hSw.2.1).at_ (v := .int .i64 p) 1 rfl
      have H_2 := (hSw.2.1).at_ (v := .slice A n c) 2 rfl
      have H_3 := (hSw.2.1).at_ (v := .int .i64 sh) 3 rfl
      have H_4 := (hSw.2.1).at_ (v := .int .i64 wo) 4 rfl
      have H_5 := (hSw.2.1).at_ (v := .int .i64 qu) 5 rfl
      have H_6 := (hSw.2.1).at_ (v := .int .i64 tr) 6 rfl
      have H_z := (hSw.2.1).lt
      have J_0 := (hSw.2.2.2.1).at_ (v := .int .i64 x.1) 0 rfl
      have J_1 := (hSw.2.2.2.1).at_ (v := .int .u32 x.2.1) 1 rfl
      have J_2 := (hSw.2.2.2.1).at_ (v := .bool x.2.2.1) 2 rfl
      have J_3 := (hSw.2.2.2.1).at_ (v := .slice P p1 p2) 3 rfl
      have J_4 := (hSw.2.2.2.1).at_ (v := .slice Q q1 q2) 4 rfl
      have J_z := (hSw.2.2.2.1).lt
      go_simp
      try with_reducible rfl
      try omega
    try simp only [Act.put, List.setIfInBounds_toArray, List.set_cons_zero, List.set_cons_succ]
    refine wpAnyH_take (i := 5) (oi := ⟨some 168, _, _, _, _, _⟩) (v := ?_) rfl (by kernel_rfl) (by kernel_rfl) (by kernel_rfl) (fun _ _ _ h => h) (Or.inl ⟨by rfl, ?_⟩) hHeld ?_
    rotate_left
    · intro ww hSw
      try dsimp only at hSw
      have H_0 := (hSw.2.1).at_ (v := .int .u32 (a : Int)) 0 rfl
      have H_1 := (hSw.2.1).at_ (v := .int .i64 p) 1 rfl
      have H_2 := (hSw.2.1).at_ (v := .slice A n c) 2 rfl
      have H_3 := (hSw.2.1).at_ (v := .int .i64 sh) 3 rfl
      have H_4 := (hSw.2.1).at_ (v := .int .i64 wo) 4 rfl
      have H_5 := (hSw.2.1).at_ (v := .int .i64 qu) 5 rfl
      have H_6 := (hSw.2.1).at_ (v := .int .i64 tr) 6 rfl
      have H_z := (hSw.2.1).lt
      have J_0 := (hSw.2.2.2.1).at_ (v := .int .i64 x.1) 0 rfl
      have J_1 := (hSw.2.2.2.1).at_ (v := .int .u32 x.2.1) 1 rfl
      have J_2 := (hSw.2.2.2.1).at_ (v := .bool x.2.2.1) 2 rfl
      have J_3 := (hSw.2.2.2.1).at_ (v := .slice P p1 p2) 3 rfl
      have J_4 := (hSw.2.2.2.1).at_ (v := .slice Q q1 q2) 4 rfl
      have J_z := (hSw.2.2.2.1).lt
      go_simp
      try with_reducible rfl
      try omega
    try simp only [Act.put, List.setIfInBounds_toArray, List.set_cons_zero, List.set_cons_succ]
    refine wpAnyH_take (i := 6) (oi := ⟨some 169, _, _, _, _, _⟩) (v := ?_) rfl (by kernel_rfl) (by kernel_rfl) (by kernel_rfl) (fun _ _ _ h => h) (Or.inl ⟨by rfl, ?_⟩) hHeld ?_
    rotate_left
    · intro ww hSw
      try dsimp only at hSw
      go_simp
      try with_reducible rfl
      try omega
    try simp only [Act.put, List.setIfInBounds_toArray, List.set_cons_zero, List.set_cons_succ]
    refine wpAnyH_ready (rs := [7]) (by kernel_rfl) (by simp) ?_
    refine AllReadyH.cons (o := ⟨some 170, _, _, _, _, _⟩) rfl (fun K0 hK => ?_) AllReadyH.nil
    go_simp
    refine (raddrs9_new (a := a) (p := p) (A := A) (n := n) (c := c) (sh := sh) (wo := wo) (qu := qu) (tr := tr) (hs0.below hHeld.1) (by omega) hb2.out).mono ?_
    have H_l := (hHeld.2.1).lt
    have G_l := (hHeld.2.2.1).lt
    have J_l := (hHeld.2.2.2.1).lt
    rintro e v8 ⟨DA, Dn, Dc, rfl, D, K'⟩
    have hDn : Dn ≤ 60000 := by have h1 := D.len.symm.trans ((ads_len a xs).trans hs0.len); omega
    refine hK.out _ _ ⟨Below.then_ hHeld.1 K', hHeld.2.1.below K', hHeld.2.2.1.below K', hHeld.2.2.2.1.below K', trivial⟩ (fun hHeld' => ?_)
    clear hHeld K' hK K0
    clear H_l G_l J_l
    have hHeld := hHeld'
    clear hHeld'
    try simp only [Act.put, List.setIfInBounds_toArray, List.set_cons_zero, List.set_cons_succ]
    refine wpAnyH_take (i := 8) (oi := ⟨some 171, _, _, _, _, _⟩) (v := ?_) rfl (by kernel_rfl) (by kernel_rfl) (by kernel_rfl) (fun _ _ _ h => h) (Or.inl ⟨by rfl, ?_⟩) hHeld ?_
    rotate_left
    · intro ww hSw
      try dsimp only at hSw
      go_simp
      try with_reducible rfl
      try omega
    try simp only [Act.put, List.setIfInBounds_toArray, List.set_cons_zero, List.set_cons_succ]
    refine wpAnyH_ready (rs := [9]) (by kernel_rfl) (by simp) ?_
    refine AllReadyH.cons (o := ⟨some 172, _, _, _, _, _⟩) rfl (fun K0 hK => ?_) AllReadyH.nil
    go_simp
    refine (answers_any (x := x) (y := (0, 0, false, ads a xs, [])) (hA0.below hHeld.1) (hE0.below hHeld.1) D (IS.none_ .i64 0 _) (by omega) (by omega) (by omega) (by omega)).mono ?_
    rintro e v9 ⟨rfl, K'⟩
    refine hK.out _ _ ⟨Below.then_ hHeld.1 K', hHeld.2.1.below K', hHeld.2.2.1.below K', hHeld.2.2.2.1.below K', trivial⟩ (fun hHeld' => ?_)
    replace D := D.below K'
    clear hHeld K' hK K0
    have hHeld := hHeld'
    clear hHeld'
    try simp only [Act.put, List.setIfInBounds_toArray, List.set_cons_zero, List.set_cons_succ]
    refine wpAnyH_take (i := 10) (oi := ⟨some 173, _, _, _, _, _⟩) (v := ?_) rfl (by kernel_rfl) (by kernel_rfl) (by kernel_rfl) (fun _ _ _ h => h) (Or.inl ⟨by rfl, ?_⟩) hHeld ?_
    rotate_left
    · intro ww hSw
      try dsimp only at hSw
      go_simp
      try with_reducible rfl
      try omega
    try simp only [Act.put, List.setIfInBounds_toArray, List.set_cons_zero, List.set_cons_succ]
    refine wpAnyH_take (i := 11) (oi := ⟨some 8, _, _, _, _, _⟩) (v := ?_) rfl (by kernel_rfl) (by kernel_rfl) (by kernel_rfl) (fun _ _ _ h => h) (Or.inl ⟨by rfl, ?_⟩) hHeld ?_
    rotate_left
    · intro ww hSw
      try dsimp only at hSw
      go_simp
      try with_reducible rfl
      try omega
    try simp only [Act.put, List.setIfInBounds_toArray, List.set_cons_zero, List.set_cons_succ]
    refine wpAnyH_take (i := 12) (oi := ⟨some 9, _, _, _, _, _⟩) (v := ?_) rfl (by kernel_rfl) (by kernel_rfl) (by kernel_rfl) (fun _ _ _ h => h) (Or.inl ⟨by rfl, ?_⟩) hHeld ?_
    rotate_left
    · intro ww hSw
      try dsimp only at hSw
      go_simp
      try with_reducible rfl
      try omega
    try simp only [Act.put, List.setIfInBounds_toArray, List.set_cons_zero, List.set_cons_succ]
    refine wpAnyH_done (by kernel_rfl) ?_ _
    replace K := hHeld.1
    replace H := hHeld.2.1
    replace G := hHeld.2.2.1
    replace J := hHeld.2.2.2.1
    clear hHeld
    replace h := h0.below K
    replace hs := hs0.below K
    replace hy := hy0.below K
    replace hA := hA0.below K
    replace hE := hE0.below K
    obtain rfl : r = (xs, decide (x = (0, 0, false, ads a xs, []))) := by rw [← hR.out]; rw [show decide (x = an0 11 ∨ x = (0, 0, false, ads a xs, [])) = decide (x = (0, 0, false, ads a xs, [])) by rw [decide_eq_decide]; exact ⟨fun g => g.resolve_left h11.out, .inr⟩]
    go_wp2
    go_ret2
    exact ⟨_, _, _, rfl, hs.lower (Nat.zero_le _), (fun _ _ h => h), K⟩
set_option maxRecDepth 100000 in
set_option maxHeartbeats 4000000 in
theorem rlegal_4 (ha : a < 4294967296) (hM : Much a p M) (h0 : IS .i64 lo w A n c zs) (hn : n ≤ 65536) (hs0 : IS .i64 lo2 w B m d xs) (hm : m ≤ 60000) (hx : mayR M zs 0 xs = true) (hX : X < 4294967296) (hy0 : IS .u32 lo3 w C q f ys) (hq : q ≤ 60000) (hw : W32 ys) (hA0 : IS .u32 lo4 w P p1 p2 x.2.2.2.1) (hE0 : IS .i64 lo5 w Q q1 q2 x.2.2.2.2) (b1 : p1 ≤ 60000) (b2 : q1 ≤ 60000) (hA1 : 0 ≤ x.2.1 ∧ x.2.1 < 4294967296) (h10 : x ≠ an0 10) (h12 : x ≠ an0 12) (he : askE a M zs 4 X ys = 0) :
    Calls Tryd.prog 14 #[.agg #[.int .u32 (a : Int), .int .i64 p, .slice A n c, .int .i64 sh, .int .i64 wo, .int .i64 qu, .int .i64 tr], .slice B m d, .agg #[.int .i64 4, .int .u32 (X : Int), .slice C q f], .agg #[.int .i64 x.1, .int .u32 x.2.1, .bool x.2.2.1, .slice P p1 p2, .slice Q q1 q2]] w (RetLB B m (doR a M zs xs 4 X ys x) w) := by
  obtain ⟨hr_, hb_⟩ := mayR_iff.1 hx
  have hr := Lib.hid hr_
  have hMm := hM.most
  have hb2 : Hid (∀ x ∈ xs, 0 ≤ x ∧ x ≤ 65536) := Lib.hid (fun x hx => ⟨(hb_ x hx).1, by have := (hb_ x hx).2.1; omega⟩)
  clear hr_ hb_ hx
  obtain ⟨i0, hi, hz0, hz1, hz2⟩ := info_parts errno_info
  have hl := Lib.hid hy0.len
  have hml := hs0.len
  replace hw := Lib.hid hw
  have RS : ∀ k, Hid (Ris (batS a M xs (ys.take k))) := fun k => Lib.hid (batS_ris _ hr.out)
  have RL : ∀ k, Hid ((batS a M xs (ys.take k)).length ≤ m) := fun k => Lib.hid (by rw [← hml]; exact batS_len _)
  replace h10 := Lib.hid h10
  replace h12 := Lib.hid h12
  replace he := Lib.hid he
  obtain ⟨v, hv⟩ : ∃ v, ofO a M X = v := ⟨_, rfl⟩
  obtain ⟨u, hu⟩ : ∃ u, hasB xs v = u := ⟨_, rfl⟩
  have TO := fun w => Lib.hid (show Calls _ _ _ _ _ from by have T := roffset_any (w := w) X hX hM; rw [hv] at T; exact T)
  have TH := fun w (hs : IS .i64 lo2 w B m d xs) => Lib.hid (show Calls _ _ _ _ _ from by have T := rhas9_any hs (by omega) v; rw [hu] at T; exact T)
  generalize hR : doR a M zs xs 4 X ys x = r_
  rw [doR_4] at hR
  try rw [hv] at hR
  try rw [hu] at hR
  replace hR := Lib.hid hR
  replace hv := Lib.hid hv
  replace hu := Lib.hid hu
  have h := h0
  have hs := hs0
  have hy := hy0
  have hA := hA0
  have hE := hE0
  have K := Below.refl w.heap.size w
  go_enter Tryd.func14, Tryd.ntmps14
  go_upto_region 1 with (fail)
  have KS := K.size
  replace h := h.below (below_alloc _ (.cells #[.int .u32 (a : Int), .int .i64 p, .slice A n c, .int .i64 sh, .int .i64 wo, .int .i64 qu, .int .i64 tr] 27))
  replace hs := hs.below (below_alloc _ (.cells #[.int .u32 (a : Int), .int .i64 p, .slice A n c, .int .i64 sh, .int .i64 wo, .int .i64 qu, .int .i64 tr] 27))
  replace hy := hy.below (below_alloc _ (.cells #[.int .u32 (a : Int), .int .i64 p, .slice A n c, .int .i64 sh, .int .i64 wo, .int .i64 qu, .int .i64 tr] 27))
  replace hA := hA.below (below_alloc _ (.cells #[.int .u32 (a : Int), .int .i64 p, .slice A n c, .int .i64 sh, .int .i64 wo, .int .i64 qu, .int .i64 tr] 27))
  replace hE := hE.below (below_alloc _ (.cells #[.int .u32 (a : Int), .int .i64 p, .slice A n c, .int .i64 sh, .int .i64 wo, .int .i64 qu, .int .i64 tr] 27))
  replace K := Below.then_ K (below_alloc _ (.cells #[.int .u32 (a : Int), .int .i64 p, .slice A n c, .int .i64 sh, .int .i64 wo, .int .i64 qu, .int .i64 tr] 27))
  have H := Bk.new (w) #[.int .u32 (a : Int), .int .i64 p, .slice A n c, .int .i64 sh, .int .i64 wo, .int .i64 qu, .int .i64 tr] 27
  replace H := H.alloc (.cells #[.int .i64 4, .int .u32 (X : Int), .slice C q f] 30)
  replace h := h.below (below_alloc _ (.cells #[.int .i64 4, .int .u32 (X : Int), .slice C q f] 30))
  replace hs := hs.below (below_alloc _ (.cells #[.int .i64 4, .int .u32 (X : Int), .slice C q f] 30))
  replace hy := hy.below (below_alloc _ (.cells #[.int .i64 4, .int .u32 (X : Int), .slice C q f] 30))
  replace hA := hA.below (below_alloc _ (.cells #[.int .i64 4, .int .u32 (X : Int), .slice C q f] 30))
  replace hE := hE.below (below_alloc _ (.cells #[.int .i64 4, .int .u32 (X : Int), .slice C q f] 30))
  replace K := Below.then_ K (below_alloc _ (.cells #[.int .i64 4, .int .u32 (X : Int), .slice C q f] 30))
  have G := Bk.new ((w).alloc (.cells #[.int .u32 (a : Int), .int .i64 p, .slice A n c, .int .i64 sh, .int .i64 wo, .int .i64 qu, .int .i64 tr] 27)) #[.int .i64 4, .int .u32 (X : Int), .slice C q f] 30
  replace H := H.alloc (.cells #[.int .i64 x.1, .int .u32 x.2.1, .bool x.2.2.1, .slice P p1 p2, .slice Q q1 q2] 34)
  replace G := G.alloc (.cells #[.int .i64 x.1, .int .u32 x.2.1, .bool x.2.2.1, .slice P p1 p2, .slice Q q1 q2] 34)
  replace h := h.below (below_alloc _ (.cells #[.int .i64 x.1, .int .u32 x.2.1, .bool x.2.2.1, .slice P p1 p2, .slice Q q1 q2] 34))
  replace hs := hs.below (below_alloc _ (.cells #[.int .i64 x.1, .int .u32 x.2.1, .bool x.2.2.1, .slice P p1 p2, .slice Q q1 q2] 34))
  replace hy := hy.below (below_alloc _ (.cells #[.int .i64 x.1, .int .u32 x.2.1, .bool x.2.2.1, .slice P p1 p2, .slice Q q1 q2] 34))
  replace hA := hA.below (below_alloc _ (.cells #[.int .i64 x.1, .int .u32 x.2.1, .bool x.2.2.1, .slice P p1 p2, .slice Q q1 q2] 34))
  replace hE := hE.below (below_alloc _ (.cells #[.int .i64 x.1, .int .u32 x.2.1, .bool x.2.2.1, .slice P p1 p2, .slice Q q1 q2] 34))
  replace K := Below.then_ K (below_alloc _ (.cells #[.int .i64 x.1, .int .u32 x.2.1, .bool x.2.2.1, .slice P p1 p2, .slice Q q1 q2] 34))
  have J := Bk.new (((w).alloc (.cells #[.int .u32 (a : Int), .int .i64 p, .slice A n c, .int .i64 sh, .int .i64 wo, .int .i64 qu, .int .i64 tr] 27)).alloc (.cells #[.int .i64 4, .int .u32 (X : Int), .slice C q f] 30)) #[.int .i64 x.1, .int .u32 x.2.1, .bool x.2.2.1, .slice P p1 p2, .slice Q q1 q2] 34
  try simp only [World.size_alloc] at H G J
  generalize (((w).alloc (.cells #[.int .u32 (a : Int), .int .i64 p, .slice A n c, .int .i64 sh, .int .i64 wo, .int .i64 qu, .int .i64 tr] 27)).alloc (.cells #[.int .i64 4, .int .u32 (X : Int), .slice C q f] 30)).alloc (.cells #[.int .i64 x.1, .int .u32 x.2.1, .bool x.2.2.1, .slice P p1 p2, .slice Q q1 q2] 34) = w1 at H G J h hs hy hA hE K ⊢
  generalize hgJ : w.heap.size + 1 + 1 = gJ at H G J ⊢
  generalize hgG : w.heap.size + 1 = gG at H G J ⊢
  generalize hgH : w.heap.size = gH at H G J ⊢
  have H_b : w.heap.size ≤ gH := by omega
  have G_b : w.heap.size ≤ gG := by omega
  have J_b : w.heap.size ≤ gJ := by omega
  have ne_H_G : gH ≠ gG := by omega
  have ne_H_J : gH ≠ gJ := by omega
  have ne_G_J : gG ≠ gJ := by omega
  clear KS hgH hgG hgJ 
  have J_0 := J.at_ (v := .int .i64 x.1) 0 rfl
  have J_1 := J.at_ (v := .int .u32 x.2.1) 1 rfl
  have J_2 := J.at_ (v := .bool x.2.2.1) 2 rfl
  have J_3 := J.at_ (v := .slice P p1 p2) 3 rfl
  have J_4 := J.at_ (v := .slice Q q1 q2) 4 rfl
  have J_z := J.lt
  go_wp2_with fail
  refine (only_is (v := 10) hA hE (by omega) (by omega) (decide_eq_false h10.out)).mono ?_
  rintro e w2 ⟨rfl, K'⟩
  clear J_0 J_1 J_2 J_3 J_4 J_z
  replace H := H.below K'
  replace G := G.below K'
  replace J := J.below K'
  replace h := h.below K'
  replace hs := hs.below K'
  replace hy := hy.below K'
  replace hA := hA.below K'
  replace hE := hE.below K'
  replace K := Below.then_ K K'
  clear K'
  have J_0 := J.at_ (v := .int .i64 x.1) 0 rfl
  have J_1 := J.at_ (v := .int .u32 x.2.1) 1 rfl
  have J_2 := J.at_ (v := .bool x.2.2.1) 2 rfl
  have J_3 := J.at_ (v := .slice P p1 p2) 3 rfl
  have J_4 := J.at_ (v := .slice Q q1 q2) 4 rfl
  have J_z := J.lt
  go_wp2_with fail
  refine (only_is (v := 12) hA hE (by omega) (by omega) (decide_eq_false h12.out)).mono ?_
  rintro e w3 ⟨rfl, K'⟩
  clear J_0 J_1 J_2 J_3 J_4 J_z
  replace H := H.below K'
  replace G := G.below K'
  replace J := J.below K'
  replace h := h.below K'
  replace hs := hs.below K'
  replace hy := hy.below K'
  replace hA := hA.below K'
  replace hE := hE.below K'
  replace K := Below.then_ K K'
  clear K'
  have H_0 := H.at_ (v := .int .u32 (a : Int)) 0 rfl
  have H_1 := H.at_ (v := .int .i64 p) 1 rfl
  have H_2 := H.at_ (v := .slice A n c) 2 rfl
  have H_3 := H.at_ (v := .int .i64 sh) 3 rfl
  have H_4 := H.at_ (v := .int .i64 wo) 4 rfl
  have H_5 := H.at_ (v := .int .i64 qu) 5 rfl
  have H_6 := H.at_ (v := .int .i64 tr) 6 rfl
  have H_z := H.lt
  have G_0 := G.at_ (v := .int .i64 4) 0 rfl
  have G_1 := G.at_ (v := .int .u32 (X : Int)) 1 rfl
  have G_2 := G.at_ (v := .slice C q f) 2 rfl
  have G_z := G.lt
  go_wp2_with fail
  refine (rcheck_is (k := 4) hM h hn hy hq hX hw he.out).mono ?_
  rintro e w4 ⟨rfl, K'⟩
  clear H_0 H_1 H_2 H_3 H_4 H_5 H_6 H_z
  clear G_0 G_1 G_2 G_z
  replace H := H.below K'
  replace G := G.below K'
  replace J := J.below K'
  replace h := h.below K'
  replace hs := hs.below K'
  replace hy := hy.below K'
  replace hA := hA.below K'
  replace hE := hE.below K'
  replace K := Below.then_ K K'
  clear K'
  have H_0 := H.at_ (v := .int .u32 (a : Int)) 0 rfl
  have H_1 := H.at_ (v := .int .i64 p) 1 rfl
  have H_2 := H.at_ (v := .slice A n c) 2 rfl
  have H_3 := H.at_ (v := .int .i64 sh) 3 rfl
  have H_4 := H.at_ (v := .int .i64 wo) 4 rfl
  have H_5 := H.at_ (v := .int .i64 qu) 5 rfl
  have H_6 := H.at_ (v := .int .i64 tr) 6 rfl
  have H_z := H.lt
  have G_0 := G.at_ (v := .int .i64 4) 0 rfl
  have G_1 := G.at_ (v := .int .u32 (X : Int)) 1 rfl
  have G_2 := G.at_ (v := .slice C q f) 2 rfl
  have G_z := G.lt
  go_wp2_with fail
  refine ((TO _).out).mono ?_
  rintro e w5 ⟨rfl, K'⟩
  clear H_0 H_1 H_2 H_3 H_4 H_5 H_6 H_z
  clear G_0 G_1 G_2 G_z
  replace H := H.below K'
  replace G := G.below K'
  replace J := J.below K'
  replace h := h.below K'
  replace hs := hs.below K'
  replace hy := hy.below K'
  replace hA := hA.below K'
  replace hE := hE.below K'
  replace K := Below.then_ K K'
  clear K'
  go_wp2_with fail
  refine (TH _ hs).out.mono ?_
  rintro e _ ⟨rfl, rfl⟩
  clear TO TH he
  clear hu hv
  have G_0 := G.at_ (v := .int .i64 4) 0 rfl
  have G_1 := G.at_ (v := .int .u32 (X : Int)) 1 rfl
  have G_2 := G.at_ (v := .slice C q f) 2 rfl
  have G_z := G.lt
  go_wp2
  clear G_0 G_1 G_2 G_z
  have KW := K.size
  have H_lW := H.lt
  have G_lW := G.lt
  have J_lW := J.lt
  go_loopw [16, 17, 18] (fun s l i wr => ∃ (r n1 c1 e1 : Nat) (S L : Option Addr), r ≤ q ∧ i = .int .i64 r ∧ s = .slice S n1 c1 ∧ l = .slice L r e1 ∧ Hid (IS .i64 0 wr S n1 c1 (batS a M xs (ys.take r))) ∧ Hid (OwnAv (.slice L r e1) S n1) ∧ Hid (∀ g, g < w5.heap.size → Av g B m → Av g S n1) ∧ Hid (Ri .i64 31 wr w5.heap.size (.slice L r e1) r (batE a M xs (ys.take r))) ∧ Below w5.heap.size w5 wr) (fun _ _ i _ => q - (intOf i).toNat)
  case atStart => exact ⟨0, m, d, 0, B, none, Nat.zero_le _, rfl, rfl, rfl, Lib.hid (hs.lower (Nat.zero_le _)), Lib.hid (OwnAv.nil_ _ _), Lib.hid (fun _ _ h => h), Lib.hid (Ri.nil _ _), Below.refl _ _⟩
  case round =>
    obtain ⟨r, n1, c1, e1, S, L, hk, rfl, rfl, rfl, HI, HV, HO, HR, Kr⟩ := hrel
    replace H := H.below Kr
    replace G := G.below Kr
    replace J := J.below Kr
    replace h := h.below Kr
    replace hs := hs.below Kr
    replace hy := hy.below Kr
    replace hA := hA.below Kr
    replace hE := hE.below Kr
    replace K := Below.then_ K Kr
    clear hs
    have G_0 := G.at_ (v := .int .i64 4) 0 rfl
    have G_1 := G.at_ (v := .int .u32 (X : Int)) 1 rfl
    have G_2 := G.at_ (v := .slice C q f) 2 rfl
    have G_z := G.lt
    by_cases hlt : r < q
    clear G_0 G_1 G_2 G_z
    · obtain ⟨y, hy1, hyb⟩ := hw.out.at_ (k := r) (by have := hl.out; omega)
      obtain ⟨b, o, rfl, _, _⟩ := hy.get hlt
      obtain ⟨v, hv⟩ : ∃ v, ofO a M y = v := ⟨_, rfl⟩
      obtain ⟨u, hu⟩ : ∃ u, hasB (batS a M xs (ys.take r)) v = u := ⟨_, rfl⟩
      have htk : Hid (batS a M xs (ys.take (r + 1)) = del (batS a M xs (ys.take r)) v) := Lib.hid (by have := batS_take (a := a) (M := M) (xs := xs) (ys := ys) (k := r) (by have := hl.out; omega); rw [hy1, show ((y : Int)).toNat = y from rfl, hv] at this; exact this)
      have hte : Hid (batE a M xs (ys.take (r + 1)) = batE a M xs (ys.take r) ++ [if u = true then 0 else 6]) := Lib.hid (by rw [take_gi (by have := hl.out; omega), batE_snoc, hy1, show ((y : Int)).toNat = y from rfl, hv]; unfold reE; rw [hu])
      have hn1 : n1 ≤ 60000 := by have h1 := (RL r).out; have h2 := HI.out.len; omega
      have TO := fun w => Lib.hid (show Calls _ _ _ _ _ from by have T := roffset_any (w := w) y hyb hM; rw [hv] at T; exact T)
      have TH := fun w (hs : IS .i64 0 w S n1 c1 (batS a M xs (ys.take r))) => Lib.hid (show Calls _ _ _ _ _ from by have T := rhas9_any hs (by omega) v; rw [hu] at T; exact T)
      replace hv := Lib.hid hv
      replace hy1 := Lib.hid hy1
      replace HI := HI.out
      replace HR := HR.out
      have G_0 := G.at_ (v := .int .i64 4) 0 rfl
      have G_1 := G.at_ (v := .int .u32 (X : Int)) 1 rfl
      have G_2 := G.at_ (v := .slice (some ⟨b, o, none⟩) q f) 2 rfl
      have G_z := G.lt
      go_wp2
      clear G_0 G_1 G_2 G_z
      refine wp_region_held_drew (S := fun w' => Below w.heap.size w w' ∧ Bk w' gH 27 #[.int .u32 (a : Int), .int .i64 p, .slice A n c, .int .i64 sh, .int .i64 wo, .int .i64 qu, .int .i64 tr] ∧ Bk w' gG 30 #[.int .i64 4, .int .u32 (X : Int), .slice (some ⟨b, o, none⟩) q f] ∧ Bk w' gJ 34 #[.int .i64 x.1, .int .u32 x.2.1, .bool x.2.2.1, .slice P p1 p2, .slice Q q1 q2] ∧ True) (by kernel_rfl) ⟨K.drew, H.below ((Below.refl _ _).drew), G.below ((Below.refl _ _).drew), J.below ((Below.refl _ _).drew), trivial⟩ (fun hHeld => ?_)
      replace HI := HI.below ((Below.refl _ _).drew)
      replace HR := HR.below ((Below.refl _ _).drew)
      replace Kr := Below.then_ Kr ((Below.refl _ _).drew)
      generalize wr.drew = v6 at hHeld HI HR Kr ⊢
      refine wpAnyH_take (i := 0) (oi := ⟨some 125, _, _, _, _, _⟩) (v := ?_) rfl (by kernel_rfl) (by kernel_rfl) (by kernel_rfl) (fun _ _ _ h => h) (Or.inl ⟨by rfl, ?_⟩) hHeld ?_
      rotate_left
      · intro ww hSw
        try dsimp only at hSw
        go_simp
        try with_reducible rfl
        try omega
      try simp only [Act.put, List.setIfInBounds_toArray, List.set_cons_zero, List.set_cons_succ]
      refine wpAnyH_take (i := 1) (oi := ⟨some 126, _, _, _, _, _⟩) (v := ?_) rfl (by kernel_rfl) (by kernel_rfl) (by kernel_rfl) (fun _ _ _ h => h) (Or.inl ⟨by rfl, ?_⟩) hHeld ?_
      rotate_left
      · intro ww hSw
        try dsimp only at hSw
        have H_0 := (hSw.2.1).at_ (v := .int .u32 (a : Int)) 0 rfl
        have H_1 := (hSw.2.1).at_ (v := .int .i64 p) 1 rfl
        have H_2 := (hSw.2.1).at_ (v := .slice A n c) 2 rfl
        have H_3 := (hSw.2.1).at_ (v := .int .i64 sh) 3 rfl
        have H_4 := (hSw.2.1).at_ (v := .int .i64 wo) 4 rfl
        have H_5 := (hSw.2.1).at_ (v := .int .i64 qu) 5 rfl
        have H_6 := (hSw.2.1).at_ (v := .int .i64 tr) 6 rfl
        have H_z := (hSw.2.1).lt
        have G_0 := (hSw.2.2.1).at_ (v := .int .i64 4) 0 rfl
        have G_1 := (hSw.2.2.1).at_ (v := .int .u32 (X : Int)) 1 rfl
        have G_2 := (hSw.2.2.1).at_ (v := .slice (some ⟨b, o, none⟩) q f) 2 rfl
        have G_z := (hSw.2.2.1).lt
        have hce := (hy0.below hSw.1).here (j := r) hlt
        rw [hy1.out] at hce
        go_simp
        try with_reducible rfl
        try omega
      try simp only [Act.put, List.setIfInBounds_toArray, List.set_cons_zero, List.set_cons_succ]
      refine wpAnyH_take (i := 2) (oi := ⟨some 127, _, _, _, _, _⟩) (v := ?_) rfl (by kernel_rfl) (by kernel_rfl) (by kernel_rfl) (fun _ _ _ h => h) (Or.inl ⟨by rfl, ?_⟩) hHeld ?_
      rotate_left
      · intro ww hSw
        try dsimp only at hSw
        go_simp
        try with_reducible rfl
        try omega
      try simp only [Act.put, List.setIfInBounds_toArray, List.set_cons_zero, List.set_cons_succ]
      refine wpAnyH_take (i := 3) (oi := ⟨some 128, _, _, _, _, _⟩) (v := ?_) rfl (by kernel_rfl) (by kernel_rfl) (by kernel_rfl) (fun _ _ _ h => h) (Or.inl ⟨by rfl, ?_⟩) hHeld ?_
      rotate_left
      · intro ww hSw
        try dsimp only at hSw
        have H_0 := (hSw.2.1).at_ (v := .int .u32 (a : Int)) 0 rfl
        have H_1 := (hSw.2.1).at_ (v := .int .i64 p) 1 rfl
        have H_2 := (hSw.2.1).at_ (v := .slice A n c) 2 rfl
        have H_3 := (hSw.2.1).at_ (v := .int .i64 sh) 3 rfl
        have H_4 := (hSw.2.1).at_ (v := .int .i64 wo) 4 rfl
        have H_5 := (hSw.2.1).at_ (v := .int .i64 qu) 5 rfl
        have H_6 := (hSw.2.1).at_ (v := .int .i64 tr) 6 rfl
        have H_z := (hSw.2.1).lt
        have G_0 := (hSw.2.2.1).at_ (v := .int .i64 4) 0 rfl
        have G_1 := (hSw.2.2.1).at_ (v := .int .u32 (X : Int)) 1 rfl
        have G_2 := (hSw.2.2.1).at_ (v := .slice (some ⟨b, o, none⟩) q f) 2 rfl
        have G_z := (hSw.2.2.1).lt
        have hce := (hy0.below hSw.1).here (j := r) hlt
        rw [hy1.out] at hce
        go_simp
        try with_reducible rfl
        try omega
      try simp only [Act.put, List.setIfInBounds_toArray, List.set_cons_zero, List.set_cons_succ]
      refine wpAnyH_take (i := 4) (oi := ⟨some 129, _, _, _, _, _⟩) (v := ?_) rfl (by kernel_rfl) (by kernel_rfl) (by kernel_rfl) (fun _ _ _ h => h) (Or.inl ⟨by rfl, ?_⟩) hHeld ?_
      rotate_left
      · intro ww hSw
        try dsimp only at hSw
        go_simp
        try with_reducible rfl
        try omega
      try simp only [Act.put, List.setIfInBounds_toArray, List.set_cons_zero, List.set_cons_succ]
      refine wpAnyH_take (i := 5) (oi := ⟨some 130, _, _, _, _, _⟩) (v := ?_) rfl (by kernel_rfl) (by kernel_rfl) (by kernel_rfl) (fun _ _ _ h => h) (Or.inl ⟨by rfl, ?_⟩) hHeld ?_
      rotate_left
      · intro ww hSw
        try dsimp only at hSw
        go_simp
        try with_reducible rfl
        try omega
      try simp only [Act.put, List.setIfInBounds_toArray, List.set_cons_zero, List.set_cons_succ]
      refine wpAnyH_take (i := 6) (oi := ⟨some 131, _, _, _, _, _⟩) (v := ?_) rfl (by kernel_rfl) (by kernel_rfl) (by kernel_rfl) (fun _ _ _ h => h) (Or.inl ⟨by rfl, ?_⟩) hHeld ?_
      rotate_left
      · intro ww hSw
        try dsimp only at hSw
        have H_0 := (hSw.2.1).at_ (v := .int .u32 (a : Int)) 0 rfl
        have H_1 := (hSw.2.1).at_ (v := .int .i64 p) 1 rfl
        have H_2 := (hSw.2.1).at_ (v := .slice A n c) 2 rfl
        have H_3 := (hSw.2.1).at_ (v := .int .i64 sh) 3 rfl
        have H_4 := (hSw.2.1).at_ (v := .int .i64 wo) 4 rfl
        have H_5 := (hSw.2.1).at_ (v := .int .i64 qu) 5 rfl
        have H_6 := (hSw.2.1).at_ (v := .int .i64 tr) 6 rfl
        have H_z := (hSw.2.1).lt
        have G_0 := (hSw.2.2.1).at_ (v := .int .i64 4) 0 rfl
        have G_1 := (hSw.2.2.1).at_ (v := .int .u32 (X : Int)) 1 rfl
        have G_2 := (hSw.2.2.1).at_ (v := .slice (some ⟨b, o, none⟩) q f) 2 rfl
        have G_z := (hSw.2.2.1).lt
        have hce := (hy0.below hSw.1).here (j := r) hlt
        rw [hy1.out] at hce
        go_simp
        try with_reducible rfl
        try omega
      try simp only [Act.put, List.setIfInBounds_toArray, List.set_cons_zero, List.set_cons_succ]
      refine wpAnyH_ready (rs := [7]) (by kernel_rfl) (by simp) ?_
      refine AllReadyH.cons (o := ⟨some 132, _, _, _, _, _⟩) rfl (fun K0 hK => ?_) AllReadyH.nil
      go_simp
      refine ((TO _).out).mono ?_
      rintro e v7 ⟨rfl, K'⟩
      refine hK.out _ _ ⟨Below.then_ hHeld.1 K', hHeld.2.1.below K', hHeld.2.2.1.below K', hHeld.2.2.2.1.below K', trivial⟩ (fun hHeld' => ?_)
      replace HI := HI.below K'
      replace HR := HR.below K'
      replace Kr := Below.then_ Kr K'
      clear hHeld K' hK K0
      have hHeld := hHeld'
      clear hHeld'
      try simp only [Act.put, List.setIfInBounds_toArray, List.set_cons_zero, List.set_cons_succ]
      refine wpAnyH_take (i := 8) (oi := ⟨some 124, _, _, _, _, _⟩) (v := ?_) rfl (by kernel_rfl) (by kernel_rfl) (by kernel_rfl) (fun _ _ _ h => h) (Or.inl ⟨by rfl, ?_⟩) hHeld ?_
      rotate_left
      · intro ww hSw
        try dsimp only at hSw
        go_simp
        try with_reducible rfl
        try omega
      try simp only [Act.put, List.setIfInBounds_toArray, List.set_cons_zero, List.set_cons_succ]
      refine wpAnyH_take (i := 9) (oi := ⟨some 133, _, _, _, _, _⟩) (v := ?_) rfl (by kernel_rfl) (by kernel_rfl) (by kernel_rfl) (fun _ _ _ h => h) (Or.inl ⟨by rfl, ?_⟩) hHeld ?_
      rotate_left
      · intro ww hSw
        try dsimp only at hSw
        go_simp
        try with_reducible rfl
        try omega
      try simp only [Act.put, List.setIfInBounds_toArray, List.set_cons_zero, List.set_cons_succ]
      refine wpAnyH_take (i := 10) (oi := ⟨some 134, _, _, _, _, _⟩) (v := ?_) rfl (by kernel_rfl) (by kernel_rfl) (by kernel_rfl) (fun _ _ _ h => h) (Or.inl ⟨by rfl, ?_⟩) hHeld ?_
      rotate_left
      · intro ww hSw
        try dsimp only at hSw
        go_simp
        try with_reducible rfl
        try omega
      try simp only [Act.put, List.setIfInBounds_toArray, List.set_cons_zero, List.set_cons_succ]
      refine wpAnyH_take (i := 11) (oi := ⟨some 19, _, _, _, _, _⟩) (v := ?_) rfl (by kernel_rfl) (by kernel_rfl) (by kernel_rfl) (fun _ _ _ h => h) (Or.inl ⟨by rfl, ?_⟩) hHeld ?_
      rotate_left
      · intro ww hSw
        try dsimp only at hSw
        go_simp
        try with_reducible rfl
        try omega
      try simp only [Act.put, List.setIfInBounds_toArray, List.set_cons_zero, List.set_cons_succ]
      refine wpAnyH_take (i := 12) (oi := ⟨some 20, _, _, _, _, _⟩) (v := ?_) rfl (by kernel_rfl) (by kernel_rfl) (by kernel_rfl) (fun _ _ _ h => h) (Or.inl ⟨by rfl, ?_⟩) hHeld ?_
      rotate_left
      · intro ww hSw
        try dsimp only at hSw
        go_simp
        try with_reducible rfl
        try omega
      try simp only [Act.put, List.setIfInBounds_toArray, List.set_cons_zero, List.set_cons_succ]
      refine wpAnyH_done (by kernel_rfl) ?_ _
      replace K := hHeld.1
      replace H := hHeld.2.1
      replace G := hHeld.2.2.1
      replace J := hHeld.2.2.2.1
      clear hHeld
      replace h := h0.below K
      replace hy := hy0.below K
      replace hA := hA0.below K
      replace hE := hE0.below K
      clear TO
      cases u with
      | true =>
        go_wp2_with fail
        refine (TH _ HI).out.mono ?_
        rintro e _ ⟨rfl, rfl⟩
        clear TH
        obtain ⟨L2, e2, wap, hap, HR2, K5, HI2, HV2⟩ := run_app1k (P := Tryd.prog) (x := 0) Tryd.underlying32 hi hz0 hz1 hz2 HR (by omega) Kr.size 32 HI HV.out
        have HA := Lib.hid hap
        rw [← (show batE a M xs (ys.take (r + 1)) = batE a M xs (ys.take r) ++ [0] from hte.out)] at HR2
        replace Kr := Kr.trans K5
        replace HR2 := Lib.hid HR2
        replace H := H.under K5 H_lW
        replace G := G.under K5 G_lW
        replace J := J.under K5 J_lW
        clear hap HI HR K5 h hy hA hE K
        go_wp2_with (at_builtin; refine wpList_append_run rfl (.tmp 138) (.tmp 139) 32 rfl _ _ _ _ rfl rfl HA.out ?_)
        clear HA
        refine (rwithout_new HI2 (by omega) v).mono ?_
        rintro e wap2 ⟨IA, In, Ic, rfl, I, K'⟩
        rw [← htk.out] at I
        have HV3 := HR2.out.av_new I
        have HO3 : Hid (∀ g, g < w5.heap.size → Av g B m → Av g IA In) := Lib.hid (fun g hg _ => I.av (Nat.lt_of_lt_of_le hg Kr.size))
        replace I := I.lower (Nat.zero_le _)
        replace Kr := Below.then_ Kr K'
        have HR3 := HR2.out.below K'
        clear HR2
        go_wp2
        go_roundw
        case rel => exact ⟨r + 1, _, _, _, _, _, by omega, by go_num, rfl, rfl, Lib.hid I, Lib.hid HV3, HO3, Lib.hid HR3, Kr⟩
        case measure => simp [intOf]; omega
      | false =>
        go_wp2_with fail
        refine (TH _ HI).out.mono ?_
        rintro e _ ⟨rfl, rfl⟩
        clear TH
        obtain ⟨L2, e2, wap, hap, HR2, K5, HI2, HV2⟩ := run_app1k (P := Tryd.prog) (x := 6) Tryd.underlying32 hi hz0 hz1 hz2 HR (by omega) Kr.size 32 HI HV.out
        have HA := Lib.hid hap
        rw [← (show batE a M xs (ys.take (r + 1)) = batE a M xs (ys.take r) ++ [6] from hte.out)] at HR2
        replace Kr := Kr.trans K5
        replace HR2 := Lib.hid HR2
        replace H := H.under K5 H_lW
        replace G := G.under K5 G_lW
        replace J := J.under K5 J_lW
        clear hap HI HR K5 h hy hA hE K
        go_wp2_with (at_builtin; refine wpList_append_run rfl (.tmp 141) (.tmp 142) 32 rfl _ _ _ _ rfl rfl HA.out ?_)
        clear HA
        refine (rwithout_new HI2 (by omega) v).mono ?_
        rintro e wap2 ⟨IA, In, Ic, rfl, I, K'⟩
        rw [← htk.out] at I
        have HV3 := HR2.out.av_new I
        have HO3 : Hid (∀ g, g < w5.heap.size → Av g B m → Av g IA In) := Lib.hid (fun g hg _ => I.av (Nat.lt_of_lt_of_le hg Kr.size))
        replace I := I.lower (Nat.zero_le _)
        replace Kr := Below.then_ Kr K'
        have HR3 := HR2.out.below K'
        clear HR2
        go_wp2
        go_roundw
        case rel => exact ⟨r + 1, _, _, _, _, _, by omega, by go_num, rfl, rfl, Lib.hid I, Lib.hid HV3, HO3, Lib.hid HR3, Kr⟩
        case measure => simp [intOf]; omega
    · obtain rfl : q = r := by omega
      have hEr := HR.out.is
      have hSr := HI.out
      rw [List.take_of_length_le (by have := hl.out; omega)] at hEr hSr
      clear HR HI HV RS RL
      have hok2 : q ≤ 60000 := hq
      by_cases hok : x = (0, 0, false, [], batE a M xs ys)
      · replace hok := Lib.hid hok
        have J_0 := J.at_ (v := .int .i64 x.1) 0 rfl
        have J_1 := J.at_ (v := .int .u32 x.2.1) 1 rfl
        have J_2 := J.at_ (v := .bool x.2.2.1) 2 rfl
        have J_3 := J.at_ (v := .slice P p1 p2) 3 rfl
        have J_4 := J.at_ (v := .slice Q q1 q2) 4 rfl
        have J_z := J.lt
        have G_0 := G.at_ (v := .int .i64 4) 0 rfl
        have G_1 := G.at_ (v := .int .u32 (X : Int)) 1 rfl
        have G_2 := G.at_ (v := .slice C q f) 2 rfl
        have G_z := G.lt
        go_wp2_with fail
        refine (answers_is (x := x) (y := (0, 0, false, [], batE a M xs ys)) hA hE (IS.none_ .u32 0 _) hEr (by omega) (by omega) (by omega) (by omega) (decide_eq_true hok.out)).mono ?_
        rintro e w6 ⟨rfl, K'⟩
        clear J_0 J_1 J_2 J_3 J_4 J_z
        clear G_0 G_1 G_2 G_z
        replace H := H.below K'
        replace G := G.below K'
        replace J := J.below K'
        replace h := h.below K'
        replace hy := hy.below K'
        replace hA := hA.below K'
        replace hE := hE.below K'
        replace hEr := hEr.below K'
        replace hSr := hSr.below K'
        replace K := Below.then_ K K'
        clear K'
        obtain rfl : r_ = (batS a M xs ys, true) := by rw [← hR.out]; rw [if_pos hok.out]
        go_wp2
        go_ret2
        exact ⟨_, _, _, rfl, hSr, (fun g hg => HO.out g (Nat.lt_of_lt_of_le hg KW)), K⟩
      · replace hok := Lib.hid hok
        have J_0 := J.at_ (v := .int .i64 x.1) 0 rfl
        have J_1 := J.at_ (v := .int .u32 x.2.1) 1 rfl
        have J_2 := J.at_ (v := .bool x.2.2.1) 2 rfl
        have J_3 := J.at_ (v := .slice P p1 p2) 3 rfl
        have J_4 := J.at_ (v := .slice Q q1 q2) 4 rfl
        have J_z := J.lt
        have G_0 := G.at_ (v := .int .i64 4) 0 rfl
        have G_1 := G.at_ (v := .int .u32 (X : Int)) 1 rfl
        have G_2 := G.at_ (v := .slice C q f) 2 rfl
        have G_z := G.lt
        go_wp2_with fail
        refine (answers_is (x := x) (y := (0, 0, false, [], batE a M xs ys)) hA hE (IS.none_ .u32 0 _) hEr (by omega) (by omega) (by omega) (by omega) (decide_eq_false hok.out)).mono ?_
        rintro e w6 ⟨rfl, K'⟩
        clear J_0 J_1 J_2 J_3 J_4 J_z
        clear G_0 G_1 G_2 G_z
        replace H := H.below K'
        replace G := G.below K'
        replace J := J.below K'
        replace h := h.below K'
        replace hy := hy.below K'
        replace hA := hA.below K'
        replace hE := hE.below K'
        replace hEr := hEr.below K'
        replace hSr := hSr.below K'
        replace K := Below.then_ K K'
        clear K'
        obtain rfl : r_ = (xs, false) := by rw [← hR.out]; rw [if_neg hok.out]
        go_wp2
        go_ret2
        exact ⟨_, _, _, rfl, (hs0.below K).lower (Nat.zero_le _), (fun _ _ h => h), K⟩
theorem rlegal_any (ha : a < 4294967296) (hM : Much a p M) (h0 : IS .i64 lo w A n c zs) (hn : n ≤ 65536) (hs0 : IS .i64 lo2 w B m d xs) (hm : m ≤ 60000) (hx : mayR M zs 0 xs = true) (hX : X < 4294967296) (hy0 : IS .u32 lo3 w C q f ys) (hq : q ≤ 60000) (hw : W32 ys) (hA0 : IS .u32 lo4 w P p1 p2 x.2.2.2.1) (hE0 : IS .i64 lo5 w Q q1 q2 x.2.2.2.2) (b1 : p1 ≤ 60000) (b2 : q1 ≤ 60000) (hA1 : 0 ≤ x.2.1 ∧ x.2.1 < 4294967296) :
    Calls Tryd.prog 14 #[.agg #[.int .u32 (a : Int), .int .i64 p, .slice A n c, .int .i64 sh, .int .i64 wo, .int .i64 qu, .int .i64 tr], .slice B m d, .agg #[.int .i64 k, .int .u32 (X : Int), .slice C q f], .agg #[.int .i64 x.1, .int .u32 x.2.1, .bool x.2.2.1, .slice P p1 p2, .slice Q q1 q2]] w (RetLB B m (legS a M zs xs k X ys x) w) := by
  rw [← leg_is (mayR_iff.1 hx).1 k X ys x hA1.1]
  unfold legR
  by_cases h10 : x = an0 10
  · rw [if_pos (.inl h10)]
    exact rlegal_early10 ha hM h0 hn hs0 hm hx hX hy0 hq hw hA0 hE0 b1 b2 hA1 h10
  · by_cases h12 : x = an0 12
    · rw [if_pos (.inr h12)]
      exact rlegal_early12 ha hM h0 hn hs0 hm hx hX hy0 hq hw hA0 hE0 b1 b2 hA1 h10 h12
    · rw [if_neg (by rintro (g | g); exact h10 g; exact h12 g)]
      by_cases he : askE a M zs k X ys = 0
      · rw [if_pos he]
        obtain ⟨k1, k7, -, -⟩ := askE_ok he
        obtain rfl | rfl | rfl | rfl | rfl | rfl | rfl : k = 1 ∨ k = 2 ∨ k = 3 ∨ k = 4 ∨ k = 5 ∨ k = 6 ∨ k = 7 := by omega
        · exact rlegal_1 ha hM h0 hn hs0 hm hx hX hy0 hq hw hA0 hE0 b1 b2 hA1 h10 h12 he
        · exact rlegal_2 ha hM h0 hn hs0 hm hx hX hy0 hq hw hA0 hE0 b1 b2 hA1 h10 h12 he
        · exact rlegal_3 ha hM h0 hn hs0 hm hx hX hy0 hq hw hA0 hE0 b1 b2 hA1 h10 h12 he
        · exact rlegal_4 ha hM h0 hn hs0 hm hx hX hy0 hq hw hA0 hE0 b1 b2 hA1 h10 h12 he
        · exact rlegal_5 ha hM h0 hn hs0 hm hx hX hy0 hq hw hA0 hE0 b1 b2 hA1 h10 h12 he
        · exact rlegal_6 ha hM h0 hn hs0 hm hx hX hy0 hq hw hA0 hE0 b1 b2 hA1 h10 h12 he
        · exact rlegal_7 ha hM h0 hn hs0 hm hx hX hy0 hq hw hA0 hE0 b1 b2 hA1 h10 h12 he
      · rw [if_neg he]
        exact rlegal_wrong ha hM h0 hn hs0 hm hx hX hy0 hq hw hA0 hE0 b1 b2 hA1 h10 h12 rfl he
end
end Go.Proofs.YtmakbmmnjbnfiaaDoor
