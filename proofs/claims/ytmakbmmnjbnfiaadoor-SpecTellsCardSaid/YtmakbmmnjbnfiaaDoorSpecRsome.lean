/-
  The document's Some: the set then, and an answer that is right; it comes to what the program's comes to. Conditions: a configuration and a set that may be; at most 60000 addresses in the request.
-/
import Derived.Test.YtmakbmmnjbnfiaaDoorSpecRlegal
import Derived.Test.YtmakbmmnjbnfiaaDoorSpecFacts
namespace Go.Proofs.YtmakbmmnjbnfiaaDoor
open Go.RowKit
set_option linter.unusedVariables false
section
variable {w : World} {lo lo2 lo3 a M m d q f X : Nat} {p sh wo qu tr k : Int} {A B C : Option Addr} {n c : Nat} {zs xs ys : List Int}
set_option maxRecDepth 100000 in
set_option maxHeartbeats 4000000 in
theorem rsome_wrong (ha : a < 4294967296) (hM : Much a p M) (h0 : IS .i64 lo w A n c zs) (hn : n ≤ 65536) (hs0 : IS .i64 lo2 w B m d xs) (hm : m ≤ 60000) (hx : mayR M zs 0 xs = true) (hX : X < 4294967296) (hy0 : IS .u32 lo3 w C q f ys) (hq : q ≤ 60000) (hw : W32 ys) {E : Int} (hE : askE a M zs k X ys = E) (h0E : E ≠ 0) :
    Calls Tryd.prog 16 #[.agg #[.int .u32 (a : Int), .int .i64 p, .slice A n c, .int .i64 sh, .int .i64 wo, .int .i64 qu, .int .i64 tr], .slice B m d, .agg #[.int .i64 k, .int .u32 (X : Int), .slice C q f]] w (RetSA B m xs (an0 E) w) := by
  obtain ⟨hr_, hb_⟩ := mayR_iff.1 hx
  have hr := Lib.hid hr_
  have hMm := hM.most
  have hb2 : Hid (∀ x ∈ xs, 0 ≤ x ∧ x ≤ 65536) := Lib.hid (fun x hx => ⟨(hb_ x hx).1, by have := (hb_ x hx).2.1; omega⟩)
  clear hr_ hb_ hx
  have e1 : (E != 0) = true := by simp [h0E]
  replace hE := Lib.hid hE
  clear h0E
  have h := h0
  have hs := hs0
  have hy := hy0
  have K := Below.refl w.heap.size w
  go_enter Tryd.func16, Tryd.ntmps16
  go_upto_region 1 with (fail)
  have KS := K.size
  replace h := h.below (below_alloc _ (.cells #[.int .u32 (a : Int), .int .i64 p, .slice A n c, .int .i64 sh, .int .i64 wo, .int .i64 qu, .int .i64 tr] 27))
  replace hs := hs.below (below_alloc _ (.cells #[.int .u32 (a : Int), .int .i64 p, .slice A n c, .int .i64 sh, .int .i64 wo, .int .i64 qu, .int .i64 tr] 27))
  replace hy := hy.below (below_alloc _ (.cells #[.int .u32 (a : Int), .int .i64 p, .slice A n c, .int .i64 sh, .int .i64 wo, .int .i64 qu, .int .i64 tr] 27))
  replace K := Below.then_ K (below_alloc _ (.cells #[.int .u32 (a : Int), .int .i64 p, .slice A n c, .int .i64 sh, .int .i64 wo, .int .i64 qu, .int .i64 tr] 27))
  have H := Bk.new (w) #[.int .u32 (a : Int), .int .i64 p, .slice A n c, .int .i64 sh, .int .i64 wo, .int .i64 qu, .int .i64 tr] 27
  replace H := H.alloc (.cells #[.int .i64 k, .int .u32 (X : Int), .slice C q f] 30)
  replace h := h.below (below_alloc _ (.cells #[.int .i64 k, .int .u32 (X : Int), .slice C q f] 30))
  replace hs := hs.below (below_alloc _ (.cells #[.int .i64 k, .int .u32 (X : Int), .slice C q f] 30))
  replace hy := hy.below (below_alloc _ (.cells #[.int .i64 k, .int .u32 (X : Int), .slice C q f] 30))
  replace K := Below.then_ K (below_alloc _ (.cells #[.int .i64 k, .int .u32 (X : Int), .slice C q f] 30))
  have G := Bk.new ((w).alloc (.cells #[.int .u32 (a : Int), .int .i64 p, .slice A n c, .int .i64 sh, .int .i64 wo, .int .i64 qu, .int .i64 tr] 27)) #[.int .i64 k, .int .u32 (X : Int), .slice C q f] 30
  replace H := H.alloc (.cells #[.int .i64 0, .int .u32 0, .bool false, .slice none 0 0, .slice none 0 0] 34)
  replace G := G.alloc (.cells #[.int .i64 0, .int .u32 0, .bool false, .slice none 0 0, .slice none 0 0] 34)
  replace h := h.below (below_alloc _ (.cells #[.int .i64 0, .int .u32 0, .bool false, .slice none 0 0, .slice none 0 0] 34))
  replace hs := hs.below (below_alloc _ (.cells #[.int .i64 0, .int .u32 0, .bool false, .slice none 0 0, .slice none 0 0] 34))
  replace hy := hy.below (below_alloc _ (.cells #[.int .i64 0, .int .u32 0, .bool false, .slice none 0 0, .slice none 0 0] 34))
  replace K := Below.then_ K (below_alloc _ (.cells #[.int .i64 0, .int .u32 0, .bool false, .slice none 0 0, .slice none 0 0] 34))
  have R := Bk.new (((w).alloc (.cells #[.int .u32 (a : Int), .int .i64 p, .slice A n c, .int .i64 sh, .int .i64 wo, .int .i64 qu, .int .i64 tr] 27)).alloc (.cells #[.int .i64 k, .int .u32 (X : Int), .slice C q f] 30)) #[.int .i64 0, .int .u32 0, .bool false, .slice none 0 0, .slice none 0 0] 34
  try simp only [World.size_alloc] at H G R
  generalize (((w).alloc (.cells #[.int .u32 (a : Int), .int .i64 p, .slice A n c, .int .i64 sh, .int .i64 wo, .int .i64 qu, .int .i64 tr] 27)).alloc (.cells #[.int .i64 k, .int .u32 (X : Int), .slice C q f] 30)).alloc (.cells #[.int .i64 0, .int .u32 0, .bool false, .slice none 0 0, .slice none 0 0] 34) = w1 at H G R h hs hy K ⊢
  generalize hgR : w.heap.size + 1 + 1 = gR at H G R ⊢
  generalize hgG : w.heap.size + 1 = gG at H G R ⊢
  generalize hgH : w.heap.size = gH at H G R ⊢
  have H_b : w.heap.size ≤ gH := by omega
  have G_b : w.heap.size ≤ gG := by omega
  have R_b : w.heap.size ≤ gR := by omega
  have ne_H_G : gH ≠ gG := by omega
  have ne_H_R : gH ≠ gR := by omega
  have ne_G_R : gG ≠ gR := by omega
  clear KS hgH hgG hgR 
  have H_0 := H.at_ (v := .int .u32 (a : Int)) 0 rfl
  have H_1 := H.at_ (v := .int .i64 p) 1 rfl
  have H_2 := H.at_ (v := .slice A n c) 2 rfl
  have H_3 := H.at_ (v := .int .i64 sh) 3 rfl
  have H_4 := H.at_ (v := .int .i64 wo) 4 rfl
  have H_5 := H.at_ (v := .int .i64 qu) 5 rfl
  have H_6 := H.at_ (v := .int .i64 tr) 6 rfl
  have H_z := H.lt
  have G_0 := G.at_ (v := .int .i64 k) 0 rfl
  have G_1 := G.at_ (v := .int .u32 (X : Int)) 1 rfl
  have G_2 := G.at_ (v := .slice C q f) 2 rfl
  have G_z := G.lt
  go_wp2_with fail
  refine (rcheck_is hM h hn hy hq hX hw hE.out).mono ?_
  rintro e w2 ⟨rfl, K'⟩
  clear H_0 H_1 H_2 H_3 H_4 H_5 H_6 H_z
  clear G_0 G_1 G_2 G_z
  replace H := H.below K'
  replace G := G.below K'
  replace R := R.below K'
  replace h := h.below K'
  replace hs := hs.below K'
  replace hy := hy.below K'
  replace K := Below.then_ K K'
  clear K'
  go_wp2_with (refine wpList_store_row rfl 34 (.tmp 7) (.tmp 29) rfl gR _ rfl (show _ = Value.agg #[.int .i64 E, .int .u32 0, .bool false, .slice none 0 0, .slice none 0 0] from rfl) _ _ R an_sz rfl (by simp [Value.oneCell']) ?_)
  replace H := H.row_far ne_H_R #[.int .i64 E, .int .u32 0, .bool false, .slice none 0 0, .slice none 0 0]
  replace G := G.row_far ne_G_R #[.int .i64 E, .int .u32 0, .bool false, .slice none 0 0, .slice none 0 0]
  replace R := R.row #[.int .i64 E, .int .u32 0, .bool false, .slice none 0 0, .slice none 0 0]
  replace K := below_setRow K R_b #[.int .i64 E, .int .u32 0, .bool false, .slice none 0 0, .slice none 0 0]
  replace h := h0.below K
  replace hs := hs0.below K
  replace hy := hy0.below K
  generalize w2.setRow gR #[.int .i64 E, .int .u32 0, .bool false, .slice none 0 0, .slice none 0 0] = w3 at H G R h hs hy K ⊢
  refine bodyPost_ret (v := .tuple #[.slice B m d, .agg #[.int .i64 E, .int .u32 0, .bool false, .slice none 0 0, .slice none 0 0]]) ?_ rfl ?_
  · exact results_tc (fn := Tryd.f16) Tryd.results16 _ _ gR _ _ (0, 0) _ rfl R Tryd.underlying34 rfl an_sz
  exact ⟨_, _, _, _, _, _, _, _, _, rfl, hs.lower (Nat.zero_le _), (fun _ _ h => h), IS.none_ _ _ _, IS.none_ _ _ _, K⟩
set_option maxRecDepth 100000 in
set_option maxHeartbeats 4000000 in
theorem rsome_2in (ha : a < 4294967296) (hM : Much a p M) (h0 : IS .i64 lo w A n c zs) (hn : n ≤ 65536) (hs0 : IS .i64 lo2 w B m d xs) (hm : m ≤ 60000) (hx : mayR M zs 0 xs = true) (hX : X < 4294967296) (hy0 : IS .u32 lo3 w C q f ys) (hq : q ≤ 60000) (hw : W32 ys) (he : askE a M zs 2 X ys = 0) {v : Int} (hv : ofO a M X = v) (hx2 : hasB xs v = true) :
    Calls Tryd.prog 16 #[.agg #[.int .u32 (a : Int), .int .i64 p, .slice A n c, .int .i64 sh, .int .i64 wo, .int .i64 qu, .int .i64 tr], .slice B m d, .agg #[.int .i64 2, .int .u32 (X : Int), .slice C q f]] w (RetSA B m xs (an0 5) w) := by
  obtain ⟨hr_, hb_⟩ := mayR_iff.1 hx
  have hr := Lib.hid hr_
  have hMm := hM.most
  have hb2 : Hid (∀ x ∈ xs, 0 ≤ x ∧ x ≤ 65536) := Lib.hid (fun x hx => ⟨(hb_ x hx).1, by have := (hb_ x hx).2.1; omega⟩)
  clear hr_ hb_ hx
  replace he := Lib.hid he
  obtain ⟨v_, hv_⟩ : ∃ v_, ofO a M X = v_ := ⟨_, rfl⟩
  obtain ⟨u_, hu_⟩ : ∃ u_, hasB xs v_ = u_ := ⟨_, rfl⟩
  have TO_ := fun w => Lib.hid (show Calls _ _ _ _ _ from by have T := roffset_any (w := w) X hX hM; rw [hv_] at T; exact T)
  have TH_ := fun w (hs : IS .i64 lo2 w B m d xs) => Lib.hid (show Calls _ _ _ _ _ from by have T := rhas9_any hs (by omega) v_; rw [hu_] at T; exact T)
  obtain rfl : v = v_ := hv.symm.trans hv_
  obtain rfl : u_ = true := hu_.symm.trans hx2
  clear hv hx2
  clear hv_ hu_
  have h := h0
  have hs := hs0
  have hy := hy0
  have K := Below.refl w.heap.size w
  go_enter Tryd.func16, Tryd.ntmps16
  go_upto_region 1 with (fail)
  have KS := K.size
  replace h := h.below (below_alloc _ (.cells #[.int .u32 (a : Int), .int .i64 p, .slice A n c, .int .i64 sh, .int .i64 wo, .int .i64 qu, .int .i64 tr] 27))
  replace hs := hs.below (below_alloc _ (.cells #[.int .u32 (a : Int), .int .i64 p, .slice A n c, .int .i64 sh, .int .i64 wo, .int .i64 qu, .int .i64 tr] 27))
  replace hy := hy.below (below_alloc _ (.cells #[.int .u32 (a : Int), .int .i64 p, .slice A n c, .int .i64 sh, .int .i64 wo, .int .i64 qu, .int .i64 tr] 27))
  replace K := Below.then_ K (below_alloc _ (.cells #[.int .u32 (a : Int), .int .i64 p, .slice A n c, .int .i64 sh, .int .i64 wo, .int .i64 qu, .int .i64 tr] 27))
  have H := Bk.new (w) #[.int .u32 (a : Int), .int .i64 p, .slice A n c, .int .i64 sh, .int .i64 wo, .int .i64 qu, .int .i64 tr] 27
  replace H := H.alloc (.cells #[.int .i64 2, .int .u32 (X : Int), .slice C q f] 30)
  replace h := h.below (below_alloc _ (.cells #[.int .i64 2, .int .u32 (X : Int), .slice C q f] 30))
  replace hs := hs.below (below_alloc _ (.cells #[.int .i64 2, .int .u32 (X : Int), .slice C q f] 30))
  replace hy := hy.below (below_alloc _ (.cells #[.int .i64 2, .int .u32 (X : Int), .slice C q f] 30))
  replace K := Below.then_ K (below_alloc _ (.cells #[.int .i64 2, .int .u32 (X : Int), .slice C q f] 30))
  have G := Bk.new ((w).alloc (.cells #[.int .u32 (a : Int), .int .i64 p, .slice A n c, .int .i64 sh, .int .i64 wo, .int .i64 qu, .int .i64 tr] 27)) #[.int .i64 2, .int .u32 (X : Int), .slice C q f] 30
  replace H := H.alloc (.cells #[.int .i64 0, .int .u32 0, .bool false, .slice none 0 0, .slice none 0 0] 34)
  replace G := G.alloc (.cells #[.int .i64 0, .int .u32 0, .bool false, .slice none 0 0, .slice none 0 0] 34)
  replace h := h.below (below_alloc _ (.cells #[.int .i64 0, .int .u32 0, .bool false, .slice none 0 0, .slice none 0 0] 34))
  replace hs := hs.below (below_alloc _ (.cells #[.int .i64 0, .int .u32 0, .bool false, .slice none 0 0, .slice none 0 0] 34))
  replace hy := hy.below (below_alloc _ (.cells #[.int .i64 0, .int .u32 0, .bool false, .slice none 0 0, .slice none 0 0] 34))
  replace K := Below.then_ K (below_alloc _ (.cells #[.int .i64 0, .int .u32 0, .bool false, .slice none 0 0, .slice none 0 0] 34))
  have R := Bk.new (((w).alloc (.cells #[.int .u32 (a : Int), .int .i64 p, .slice A n c, .int .i64 sh, .int .i64 wo, .int .i64 qu, .int .i64 tr] 27)).alloc (.cells #[.int .i64 2, .int .u32 (X : Int), .slice C q f] 30)) #[.int .i64 0, .int .u32 0, .bool false, .slice none 0 0, .slice none 0 0] 34
  try simp only [World.size_alloc] at H G R
  generalize (((w).alloc (.cells #[.int .u32 (a : Int), .int .i64 p, .slice A n c, .int .i64 sh, .int .i64 wo, .int .i64 qu, .int .i64 tr] 27)).alloc (.cells #[.int .i64 2, .int .u32 (X : Int), .slice C q f] 30)).alloc (.cells #[.int .i64 0, .int .u32 0, .bool false, .slice none 0 0, .slice none 0 0] 34) = w1 at H G R h hs hy K ⊢
  generalize hgR : w.heap.size + 1 + 1 = gR at H G R ⊢
  generalize hgG : w.heap.size + 1 = gG at H G R ⊢
  generalize hgH : w.heap.size = gH at H G R ⊢
  have H_b : w.heap.size ≤ gH := by omega
  have G_b : w.heap.size ≤ gG := by omega
  have R_b : w.heap.size ≤ gR := by omega
  have ne_H_G : gH ≠ gG := by omega
  have ne_H_R : gH ≠ gR := by omega
  have ne_G_R : gG ≠ gR := by omega
  clear KS hgH hgG hgR 
  have H_0 := H.at_ (v := .int .u32 (a : Int)) 0 rfl
  have H_1 := H.at_ (v := .int .i64 p) 1 rfl
  have H_2 := H.at_ (v := .slice A n c) 2 rfl
  have H_3 := H.at_ (v := .int .i64 sh) 3 rfl
  have H_4 := H.at_ (v := .int .i64 wo) 4 rfl
  have H_5 := H.at_ (v := .int .i64 qu) 5 rfl
  have H_6 := H.at_ (v := .int .i64 tr) 6 rfl
  have H_z := H.lt
  have G_0 := G.at_ (v := .int .i64 2) 0 rfl
  have G_1 := G.at_ (v := .int .u32 (X : Int)) 1 rfl
  have G_2 := G.at_ (v := .slice C q f) 2 rfl
  have G_z := G.lt
  go_wp2_with fail
  refine (rcheck_is (k := 2) hM h hn hy hq hX hw he.out).mono ?_
  rintro e w2 ⟨rfl, K'⟩
  clear H_0 H_1 H_2 H_3 H_4 H_5 H_6 H_z
  clear G_0 G_1 G_2 G_z
  replace H := H.below K'
  replace G := G.below K'
  replace R := R.below K'
  replace h := h.below K'
  replace hs := hs.below K'
  replace hy := hy.below K'
  replace K := Below.then_ K K'
  clear K'
  have H_0 := H.at_ (v := .int .u32 (a : Int)) 0 rfl
  have H_1 := H.at_ (v := .int .i64 p) 1 rfl
  have H_2 := H.at_ (v := .slice A n c) 2 rfl
  have H_3 := H.at_ (v := .int .i64 sh) 3 rfl
  have H_4 := H.at_ (v := .int .i64 wo) 4 rfl
  have H_5 := H.at_ (v := .int .i64 qu) 5 rfl
  have H_6 := H.at_ (v := .int .i64 tr) 6 rfl
  have H_z := H.lt
  have G_0 := G.at_ (v := .int .i64 2) 0 rfl
  have G_1 := G.at_ (v := .int .u32 (X : Int)) 1 rfl
  have G_2 := G.at_ (v := .slice C q f) 2 rfl
  have G_z := G.lt
  go_wp2_with fail
  refine ((TO_ _).out).mono ?_
  rintro e w3 ⟨rfl, K'⟩
  clear H_0 H_1 H_2 H_3 H_4 H_5 H_6 H_z
  clear G_0 G_1 G_2 G_z
  replace H := H.below K'
  replace G := G.below K'
  replace R := R.below K'
  replace h := h.below K'
  replace hs := hs.below K'
  replace hy := hy.below K'
  replace K := Below.then_ K K'
  clear K'
  go_wp2_with fail
  refine (TH_ _ hs).out.mono ?_
  rintro e _ ⟨rfl, rfl⟩
  clear TO_ TH_ he
  have G_0 := G.at_ (v := .int .i64 2) 0 rfl
  have G_1 := G.at_ (v := .int .u32 (X : Int)) 1 rfl
  have G_2 := G.at_ (v := .slice C q f) 2 rfl
  have G_z := G.lt
  go_wp2_with (refine wpList_store_row rfl 34 (.tmp 7) (.tmp 76) rfl gR _ rfl (show _ = Value.agg #[.int .i64 5, .int .u32 0, .bool false, .slice none 0 0, .slice none 0 0] from rfl) _ _ R an_sz rfl (by simp [Value.oneCell']) ?_)
  clear G_0 G_1 G_2 G_z
  replace H := H.row_far ne_H_R #[.int .i64 5, .int .u32 0, .bool false, .slice none 0 0, .slice none 0 0]
  replace G := G.row_far ne_G_R #[.int .i64 5, .int .u32 0, .bool false, .slice none 0 0, .slice none 0 0]
  replace R := R.row #[.int .i64 5, .int .u32 0, .bool false, .slice none 0 0, .slice none 0 0]
  replace K := below_setRow K R_b #[.int .i64 5, .int .u32 0, .bool false, .slice none 0 0, .slice none 0 0]
  replace h := h0.below K
  replace hs := hs0.below K
  replace hy := hy0.below K
  generalize w3.setRow gR #[.int .i64 5, .int .u32 0, .bool false, .slice none 0 0, .slice none 0 0] = w4 at H G R h hs hy K ⊢
  refine bodyPost_ret (v := .tuple #[.slice B m d, .agg #[.int .i64 5, .int .u32 0, .bool false, .slice none 0 0, .slice none 0 0]]) ?_ rfl ?_
  · exact results_tc (fn := Tryd.f16) Tryd.results16 _ _ gR _ _ (0, 0) _ rfl R Tryd.underlying34 rfl an_sz
  exact ⟨_, _, _, _, _, _, _, _, _, rfl, hs.lower (Nat.zero_le _), (fun _ _ h => h), IS.none_ _ _ _, IS.none_ _ _ _, K⟩
set_option maxRecDepth 100000 in
set_option maxHeartbeats 4000000 in
theorem rsome_2out (ha : a < 4294967296) (hM : Much a p M) (h0 : IS .i64 lo w A n c zs) (hn : n ≤ 65536) (hs0 : IS .i64 lo2 w B m d xs) (hm : m ≤ 60000) (hx : mayR M zs 0 xs = true) (hX : X < 4294967296) (hy0 : IS .u32 lo3 w C q f ys) (hq : q ≤ 60000) (hw : W32 ys) (he : askE a M zs 2 X ys = 0) {v : Int} (hv : ofO a M X = v) (hx2 : hasB xs v = false) :
    Calls Tryd.prog 16 #[.agg #[.int .u32 (a : Int), .int .i64 p, .slice A n c, .int .i64 sh, .int .i64 wo, .int .i64 qu, .int .i64 tr], .slice B m d, .agg #[.int .i64 2, .int .u32 (X : Int), .slice C q f]] w (RetSA B m (ins xs v) (okA (X : Int)) w) := by
  obtain ⟨hr_, hb_⟩ := mayR_iff.1 hx
  have hr := Lib.hid hr_
  have hMm := hM.most
  have hb2 : Hid (∀ x ∈ xs, 0 ≤ x ∧ x ≤ 65536) := Lib.hid (fun x hx => ⟨(hb_ x hx).1, by have := (hb_ x hx).2.1; omega⟩)
  clear hr_ hb_ hx
  replace he := Lib.hid he
  obtain ⟨v_, hv_⟩ : ∃ v_, ofO a M X = v_ := ⟨_, rfl⟩
  obtain ⟨u_, hu_⟩ : ∃ u_, hasB xs v_ = u_ := ⟨_, rfl⟩
  have TO_ := fun w => Lib.hid (show Calls _ _ _ _ _ from by have T := roffset_any (w := w) X hX hM; rw [hv_] at T; exact T)
  have TH_ := fun w (hs : IS .i64 lo2 w B m d xs) => Lib.hid (show Calls _ _ _ _ _ from by have T := rhas9_any hs (by omega) v_; rw [hu_] at T; exact T)
  obtain rfl : v = v_ := hv.symm.trans hv_
  obtain rfl : u_ = false := hu_.symm.trans hx2
  clear hv hx2
  clear hv_ hu_
  have h := h0
  have hs := hs0
  have hy := hy0
  have K := Below.refl w.heap.size w
  go_enter Tryd.func16, Tryd.ntmps16
  go_upto_region 1 with (fail)
  have KS := K.size
  replace h := h.below (below_alloc _ (.cells #[.int .u32 (a : Int), .int .i64 p, .slice A n c, .int .i64 sh, .int .i64 wo, .int .i64 qu, .int .i64 tr] 27))
  replace hs := hs.below (below_alloc _ (.cells #[.int .u32 (a : Int), .int .i64 p, .slice A n c, .int .i64 sh, .int .i64 wo, .int .i64 qu, .int .i64 tr] 27))
  replace hy := hy.below (below_alloc _ (.cells #[.int .u32 (a : Int), .int .i64 p, .slice A n c, .int .i64 sh, .int .i64 wo, .int .i64 qu, .int .i64 tr] 27))
  replace K := Below.then_ K (below_alloc _ (.cells #[.int .u32 (a : Int), .int .i64 p, .slice A n c, .int .i64 sh, .int .i64 wo, .int .i64 qu, .int .i64 tr] 27))
  have H := Bk.new (w) #[.int .u32 (a : Int), .int .i64 p, .slice A n c, .int .i64 sh, .int .i64 wo, .int .i64 qu, .int .i64 tr] 27
  replace H := H.alloc (.cells #[.int .i64 2, .int .u32 (X : Int), .slice C q f] 30)
  replace h := h.below (below_alloc _ (.cells #[.int .i64 2, .int .u32 (X : Int), .slice C q f] 30))
  replace hs := hs.below (below_alloc _ (.cells #[.int .i64 2, .int .u32 (X : Int), .slice C q f] 30))
  replace hy := hy.below (below_alloc _ (.cells #[.int .i64 2, .int .u32 (X : Int), .slice C q f] 30))
  replace K := Below.then_ K (below_alloc _ (.cells #[.int .i64 2, .int .u32 (X : Int), .slice C q f] 30))
  have G := Bk.new ((w).alloc (.cells #[.int .u32 (a : Int), .int .i64 p, .slice A n c, .int .i64 sh, .int .i64 wo, .int .i64 qu, .int .i64 tr] 27)) #[.int .i64 2, .int .u32 (X : Int), .slice C q f] 30
  replace H := H.alloc (.cells #[.int .i64 0, .int .u32 0, .bool false, .slice none 0 0, .slice none 0 0] 34)
  replace G := G.alloc (.cells #[.int .i64 0, .int .u32 0, .bool false, .slice none 0 0, .slice none 0 0] 34)
  replace h := h.below (below_alloc _ (.cells #[.int .i64 0, .int .u32 0, .bool false, .slice none 0 0, .slice none 0 0] 34))
  replace hs := hs.below (below_alloc _ (.cells #[.int .i64 0, .int .u32 0, .bool false, .slice none 0 0, .slice none 0 0] 34))
  replace hy := hy.below (below_alloc _ (.cells #[.int .i64 0, .int .u32 0, .bool false, .slice none 0 0, .slice none 0 0] 34))
  replace K := Below.then_ K (below_alloc _ (.cells #[.int .i64 0, .int .u32 0, .bool false, .slice none 0 0, .slice none 0 0] 34))
  have R := Bk.new (((w).alloc (.cells #[.int .u32 (a : Int), .int .i64 p, .slice A n c, .int .i64 sh, .int .i64 wo, .int .i64 qu, .int .i64 tr] 27)).alloc (.cells #[.int .i64 2, .int .u32 (X : Int), .slice C q f] 30)) #[.int .i64 0, .int .u32 0, .bool false, .slice none 0 0, .slice none 0 0] 34
  try simp only [World.size_alloc] at H G R
  generalize (((w).alloc (.cells #[.int .u32 (a : Int), .int .i64 p, .slice A n c, .int .i64 sh, .int .i64 wo, .int .i64 qu, .int .i64 tr] 27)).alloc (.cells #[.int .i64 2, .int .u32 (X : Int), .slice C q f] 30)).alloc (.cells #[.int .i64 0, .int .u32 0, .bool false, .slice none 0 0, .slice none 0 0] 34) = w1 at H G R h hs hy K ⊢
  generalize hgR : w.heap.size + 1 + 1 = gR at H G R ⊢
  generalize hgG : w.heap.size + 1 = gG at H G R ⊢
  generalize hgH : w.heap.size = gH at H G R ⊢
  have H_b : w.heap.size ≤ gH := by omega
  have G_b : w.heap.size ≤ gG := by omega
  have R_b : w.heap.size ≤ gR := by omega
  have ne_H_G : gH ≠ gG := by omega
  have ne_H_R : gH ≠ gR := by omega
  have ne_G_R : gG ≠ gR := by omega
  clear KS hgH hgG hgR 
  have H_0 := H.at_ (v := .int .u32 (a : Int)) 0 rfl
  have H_1 := H.at_ (v := .int .i64 p) 1 rfl
  have H_2 := H.at_ (v := .slice A n c) 2 rfl
  have H_3 := H.at_ (v := .int .i64 sh) 3 rfl
  have H_4 := H.at_ (v := .int .i64 wo) 4 rfl
  have H_5 := H.at_ (v := .int .i64 qu) 5 rfl
  have H_6 := H.at_ (v := .int .i64 tr) 6 rfl
  have H_z := H.lt
  have G_0 := G.at_ (v := .int .i64 2) 0 rfl
  have G_1 := G.at_ (v := .int .u32 (X : Int)) 1 rfl
  have G_2 := G.at_ (v := .slice C q f) 2 rfl
  have G_z := G.lt
  go_wp2_with fail
  refine (rcheck_is (k := 2) hM h hn hy hq hX hw he.out).mono ?_
  rintro e w2 ⟨rfl, K'⟩
  clear H_0 H_1 H_2 H_3 H_4 H_5 H_6 H_z
  clear G_0 G_1 G_2 G_z
  replace H := H.below K'
  replace G := G.below K'
  replace R := R.below K'
  replace h := h.below K'
  replace hs := hs.below K'
  replace hy := hy.below K'
  replace K := Below.then_ K K'
  clear K'
  have H_0 := H.at_ (v := .int .u32 (a : Int)) 0 rfl
  have H_1 := H.at_ (v := .int .i64 p) 1 rfl
  have H_2 := H.at_ (v := .slice A n c) 2 rfl
  have H_3 := H.at_ (v := .int .i64 sh) 3 rfl
  have H_4 := H.at_ (v := .int .i64 wo) 4 rfl
  have H_5 := H.at_ (v := .int .i64 qu) 5 rfl
  have H_6 := H.at_ (v := .int .i64 tr) 6 rfl
  have H_z := H.lt
  have G_0 := G.at_ (v := .int .i64 2) 0 rfl
  have G_1 := G.at_ (v := .int .u32 (X : Int)) 1 rfl
  have G_2 := G.at_ (v := .slice C q f) 2 rfl
  have G_z := G.lt
  go_wp2_with fail
  refine ((TO_ _).out).mono ?_
  rintro e w3 ⟨rfl, K'⟩
  clear H_0 H_1 H_2 H_3 H_4 H_5 H_6 H_z
  clear G_0 G_1 G_2 G_z
  replace H := H.below K'
  replace G := G.below K'
  replace R := R.below K'
  replace h := h.below K'
  replace hs := hs.below K'
  replace hy := hy.below K'
  replace K := Below.then_ K K'
  clear K'
  go_wp2_with fail
  refine (TH_ _ hs).out.mono ?_
  rintro e _ ⟨rfl, rfl⟩
  clear TO_ TH_ he
  have G_0 := G.at_ (v := .int .i64 2) 0 rfl
  have G_1 := G.at_ (v := .int .u32 (X : Int)) 1 rfl
  have G_2 := G.at_ (v := .slice C q f) 2 rfl
  have G_z := G.lt
  go_wp2
  clear G_0 G_1 G_2 G_z
  refine wp_region_held_drew (S := fun w' => Below w.heap.size w w' ∧ Bk w' gH 27 #[.int .u32 (a : Int), .int .i64 p, .slice A n c, .int .i64 sh, .int .i64 wo, .int .i64 qu, .int .i64 tr] ∧ Bk w' gG 30 #[.int .i64 2, .int .u32 (X : Int), .slice C q f] ∧ (∃ v : Array Value, v.size = 5 ∧ Bk w' gR 34 v) ∧ True) (by kernel_rfl) ⟨K.drew, H.below ((Below.refl _ _).drew), G.below ((Below.refl _ _).drew), ⟨_, rfl, R.below ((Below.refl _ _).drew)⟩, trivial⟩ (fun hHeld => ?_)
  generalize w3.drew = v4 at hHeld  ⊢
  refine wpAnyH_take (i := 0) (oi := ⟨some 77, _, _, _, _, _⟩) (v := ?_) rfl (by kernel_rfl) (by kernel_rfl) (by kernel_rfl) (fun _ _ _ h => h) (Or.inl ⟨by rfl, ?_⟩) hHeld ?_
  rotate_left
  · intro ww hSw
    try dsimp only at hSw
    go_simp
    try with_reducible rfl
    try omega
  try simp only [Act.put, List.setIfInBounds_toArray, List.set_cons_zero, List.set_cons_succ]
  refine wpAnyH_take (i := 1) (oi := ⟨some 78, _, _, _, _, _⟩) (v := ?_) rfl (by kernel_rfl) (by kernel_rfl) (by kernel_rfl) (fun _ _ _ h => h) (Or.inl ⟨by rfl, ?_⟩) hHeld ?_
  rotate_left
  · intro ww hSw
    try dsimp only at hSw
    go_simp
    try with_reducible rfl
    try omega
  try simp only [Act.put, List.setIfInBounds_toArray, List.set_cons_zero, List.set_cons_succ]
  refine wpAnyH_take (i := 3) (oi := ⟨some 80, _, _, _, _, _⟩) (v := ?_) rfl (by kernel_rfl) (by kernel_rfl) (by kernel_rfl) (fun _ _ _ h => h) (Or.inl ⟨by rfl, ?_⟩) hHeld ?_
  rotate_left
  · intro ww hSw
    try dsimp only at hSw
    go_simp
    try with_reducible rfl
    try omega
  try simp only [Act.put, List.setIfInBounds_toArray, List.set_cons_zero, List.set_cons_succ]
  refine wpAnyH_take (i := 4) (oi := ⟨some 81, _, _, _, _, _⟩) (v := ?_) rfl (by kernel_rfl) (by kernel_rfl) (by kernel_rfl) (fun _ _ _ h => h) (Or.inl ⟨by rfl, ?_⟩) hHeld ?_
  rotate_left
  · intro ww hSw
    try dsimp only at hSw
    have G_0 := (hSw.2.2.1).at_ (v := .int .i64 2) 0 rfl
    have G_1 := (hSw.2.2.1).at_ (v := .int .u32 (X : Int)) 1 rfl
    have G_2 := (hSw.2.2.1).at_ (v := .slice C q f) 2 rfl
    have G_z := (hSw.2.2.1).lt
    go_simp
    try with_reducible rfl
    try omega
  try simp only [Act.put, List.setIfInBounds_toArray, List.set_cons_zero, List.set_cons_succ]
  refine wpAnyH_take (i := 5) (oi := ⟨some 82, _, _, _, _, _⟩) (v := ?_) rfl (by kernel_rfl) (by kernel_rfl) (by kernel_rfl) (fun _ _ _ h => h) (Or.inl ⟨by rfl, ?_⟩) hHeld ?_
  rotate_left
  · intro ww hSw
    try dsimp only at hSw
    go_simp
    try with_reducible rfl
    try omega
  try simp only [Act.put, List.setIfInBounds_toArray, List.set_cons_zero, List.set_cons_succ]
  refine wpAnyH_ready (rs := [2]) (by kernel_rfl) (by simp) ?_
  refine AllReadyH.cons (o := ⟨some 79, _, _, _, _, _⟩) rfl (fun K0 hK => ?_) AllReadyH.nil
  go_simp
  refine (rwith_new (hs0.below hHeld.1) (by omega) hr.out v).mono ?_
  have H_l := (hHeld.2.1).lt
  have G_l := (hHeld.2.2.1).lt
  have R_l := (hHeld.2.2.2.1.choose_spec.2).lt
  rintro e v5 ⟨IA, In, Ic, rfl, I, K'⟩
  have I_old : ∀ g, g < w.heap.size → Av g IA In := fun g hg => I.av (Nat.lt_of_lt_of_le hg (Below.size hHeld.1))
  have I_R := I.av R_l
  replace I := I.lower (Nat.zero_le _)
  refine hK.out _ _ ⟨Below.then_ hHeld.1 K', hHeld.2.1.below K', hHeld.2.2.1.below K', ⟨_, hHeld.2.2.2.1.choose_spec.1, hHeld.2.2.2.1.choose_spec.2.below K'⟩, trivial⟩ (fun hHeld' => ?_)
  clear hHeld K' hK K0
  clear H_l G_l R_l
  have hHeld := hHeld'
  clear hHeld'
  try simp only [Act.put, List.setIfInBounds_toArray, List.set_cons_zero, List.set_cons_succ]
  refine wpAnyH_take (i := 6) (oi := ⟨some 6, _, _, _, _, _⟩) (v := ?_) rfl (by kernel_rfl) (by kernel_rfl) (by kernel_rfl) (fun _ _ _ h => h) (Or.inl ⟨by rfl, ?_⟩) hHeld ?_
  rotate_left
  · intro ww hSw
    try dsimp only at hSw
    go_simp
    try with_reducible rfl
    try omega
  try simp only [Act.put, List.setIfInBounds_toArray, List.set_cons_zero, List.set_cons_succ]
  refine wpAnyH_ready (rs := [7]) (by kernel_rfl) (by simp) ?_
  refine AllReadyH.cons (o := ⟨none, _, _, _, _, _⟩) rfl (fun K0 hK => ?_) AllReadyH.nil
  rw [if_pos (by rfl)]
  refine wp_store_row 34 (.tmp 7) (.tmp 82) rfl gR _ rfl (show _ = Value.agg #[.int .i64 0, .int .u32 (X : Int), .bool false, .slice none 0 0, .slice none 0 0] from rfl) _ _ hHeld.2.2.2.1.choose_spec.2 an_sz hHeld.2.2.2.1.choose_spec.1 (by simp [Value.oneCell']) ?_
  have new_R := Bk.row hHeld.2.2.2.1.choose_spec.2 #[.int .i64 0, .int .u32 (X : Int), .bool false, .slice none 0 0, .slice none 0 0]
  refine hK.out _ _ ⟨below_setRow hHeld.1 R_b _, hHeld.2.1.row_far ne_H_R _, hHeld.2.2.1.row_far ne_G_R _, ⟨_, rfl, new_R⟩, trivial⟩ (fun hHeld' => ?_)
  replace I := I.row_av I_R #[.int .i64 0, .int .u32 (X : Int), .bool false, .slice none 0 0, .slice none 0 0]
  clear hHeld hK K0
  have hHeld := hHeld'
  clear hHeld'
  generalize v5.setRow gR #[.int .i64 0, .int .u32 (X : Int), .bool false, .slice none 0 0, .slice none 0 0] = v6 at hHeld new_R I ⊢
  try simp only [Act.put]
  refine wpAnyH_done (by kernel_rfl) ?_ _
  replace K := hHeld.1
  replace H := hHeld.2.1
  replace G := hHeld.2.2.1
  replace R := new_R
  clear new_R
  clear hHeld
  replace h := h0.below K
  replace hs := hs0.below K
  replace hy := hy0.below K
  go_wp2
  refine bodyPost_ret (v := .tuple #[.slice IA In Ic, .agg #[.int .i64 0, .int .u32 (X : Int), .bool false, .slice none 0 0, .slice none 0 0]]) ?_ rfl ?_
  · exact results_tc (fn := Tryd.f16) Tryd.results16 _ _ gR _ _ (0, 0) _ rfl R Tryd.underlying34 rfl an_sz
  exact ⟨_, _, _, _, _, _, _, _, _, rfl, I, (fun g hg _ => I_old g hg), IS.none_ _ _ _, IS.none_ _ _ _, K⟩
set_option maxRecDepth 100000 in
set_option maxHeartbeats 4000000 in
theorem rsome_3out (ha : a < 4294967296) (hM : Much a p M) (h0 : IS .i64 lo w A n c zs) (hn : n ≤ 65536) (hs0 : IS .i64 lo2 w B m d xs) (hm : m ≤ 60000) (hx : mayR M zs 0 xs = true) (hX : X < 4294967296) (hy0 : IS .u32 lo3 w C q f ys) (hq : q ≤ 60000) (hw : W32 ys) (he : askE a M zs 3 X ys = 0) {v : Int} (hv : ofO a M X = v) (hx2 : hasB xs v = false) :
    Calls Tryd.prog 16 #[.agg #[.int .u32 (a : Int), .int .i64 p, .slice A n c, .int .i64 sh, .int .i64 wo, .int .i64 qu, .int .i64 tr], .slice B m d, .agg #[.int .i64 3, .int .u32 (X : Int), .slice C q f]] w (RetSA B m xs (an0 6) w) := by
  obtain ⟨hr_, hb_⟩ := mayR_iff.1 hx
  have hr := Lib.hid hr_
  have hMm := hM.most
  have hb2 : Hid (∀ x ∈ xs, 0 ≤ x ∧ x ≤ 65536) := Lib.hid (fun x hx => ⟨(hb_ x hx).1, by have := (hb_ x hx).2.1; omega⟩)
  clear hr_ hb_ hx
  replace he := Lib.hid he
  obtain ⟨v_, hv_⟩ : ∃ v_, ofO a M X = v_ := ⟨_, rfl⟩
  obtain ⟨u_, hu_⟩ : ∃ u_, hasB xs v_ = u_ := ⟨_, rfl⟩
  have TO_ := fun w => Lib.hid (show Calls _ _ _ _ _ from by have T := roffset_any (w := w) X hX hM; rw [hv_] at T; exact T)
  have TH_ := fun w (hs : IS .i64 lo2 w B m d xs) => Lib.hid (show Calls _ _ _ _ _ from by have T := rhas9_any hs (by omega) v_; rw [hu_] at T; exact T)
  obtain rfl : v = v_ := hv.symm.trans hv_
  obtain rfl : u_ = false := hu_.symm.trans hx2
  clear hv hx2
  clear hv_ hu_
  have h := h0
  have hs := hs0
  have hy := hy0
  have K := Below.refl w.heap.size w
  go_enter Tryd.func16, Tryd.ntmps16
  go_upto_region 1 with (fail)
  have KS := K.size
  replace h := h.below (below_alloc _ (.cells #[.int .u32 (a : Int), .int .i64 p, .slice A n c, .int .i64 sh, .int .i64 wo, .int .i64 qu, .int .i64 tr] 27))
  replace hs := hs.below (below_alloc _ (.cells #[.int .u32 (a : Int), .int .i64 p, .slice A n c, .int .i64 sh, .int .i64 wo, .int .i64 qu, .int .i64 tr] 27))
  replace hy := hy.below (below_alloc _ (.cells #[.int .u32 (a : Int), .int .i64 p, .slice A n c, .int .i64 sh, .int .i64 wo, .int .i64 qu, .int .i64 tr] 27))
  replace K := Below.then_ K (below_alloc _ (.cells #[.int .u32 (a : Int), .int .i64 p, .slice A n c, .int .i64 sh, .int .i64 wo, .int .i64 qu, .int .i64 tr] 27))
  have H := Bk.new (w) #[.int .u32 (a : Int), .int .i64 p, .slice A n c, .int .i64 sh, .int .i64 wo, .int .i64 qu, .int .i64 tr] 27
  replace H := H.alloc (.cells #[.int .i64 3, .int .u32 (X : Int), .slice C q f] 30)
  replace h := h.below (below_alloc _ (.cells #[.int .i64 3, .int .u32 (X : Int), .slice C q f] 30))
  replace hs := hs.below (below_alloc _ (.cells #[.int .i64 3, .int .u32 (X : Int), .slice C q f] 30))
  replace hy := hy.below (below_alloc _ (.cells #[.int .i64 3, .int .u32 (X : Int), .slice C q f] 30))
  replace K := Below.then_ K (below_alloc _ (.cells #[.int .i64 3, .int .u32 (X : Int), .slice C q f] 30))
  have G := Bk.new ((w).alloc (.cells #[.int .u32 (a : Int), .int .i64 p, .slice A n c, .int .i64 sh, .int .i64 wo, .int .i64 qu, .int .i64 tr] 27)) #[.int .i64 3, .int .u32 (X : Int), .slice C q f] 30
  replace H := H.alloc (.cells #[.int .i64 0, .int .u32 0, .bool false, .slice none 0 0, .slice none 0 0] 34)
  replace G := G.alloc (.cells #[.int .i64 0, .int .u32 0, .bool false, .slice none 0 0, .slice none 0 0] 34)
  replace h := h.below (below_alloc _ (.cells #[.int .i64 0, .int .u32 0, .bool false, .slice none 0 0, .slice none 0 0] 34))
  replace hs := hs.below (below_alloc _ (.cells #[.int .i64 0, .int .u32 0, .bool false, .slice none 0 0, .slice none 0 0] 34))
  replace hy := hy.below (below_alloc _ (.cells #[.int .i64 0, .int .u32 0, .bool false, .slice none 0 0, .slice none 0 0] 34))
  replace K := Below.then_ K (below_alloc _ (.cells #[.int .i64 0, .int .u32 0, .bool false, .slice none 0 0, .slice none 0 0] 34))
  have R := Bk.new (((w).alloc (.cells #[.int .u32 (a : Int), .int .i64 p, .slice A n c, .int .i64 sh, .int .i64 wo, .int .i64 qu, .int .i64 tr] 27)).alloc (.cells #[.int .i64 3, .int .u32 (X : Int), .slice C q f] 30)) #[.int .i64 0, .int .u32 0, .bool false, .slice none 0 0, .slice none 0 0] 34
  try simp only [World.size_alloc] at H G R
  generalize (((w).alloc (.cells #[.int .u32 (a : Int), .int .i64 p, .slice A n c, .int .i64 sh, .int .i64 wo, .int .i64 qu, .int .i64 tr] 27)).alloc (.cells #[.int .i64 3, .int .u32 (X : Int), .slice C q f] 30)).alloc (.cells #[.int .i64 0, .int .u32 0, .bool false, .slice none 0 0, .slice none 0 0] 34) = w1 at H G R h hs hy K ⊢
  generalize hgR : w.heap.size + 1 + 1 = gR at H G R ⊢
  generalize hgG : w.heap.size + 1 = gG at H G R ⊢
  generalize hgH : w.heap.size = gH at H G R ⊢
  have H_b : w.heap.size ≤ gH := by omega
  have G_b : w.heap.size ≤ gG := by omega
  have R_b : w.heap.size ≤ gR := by omega
  have ne_H_G : gH ≠ gG := by omega
  have ne_H_R : gH ≠ gR := by omega
  have ne_G_R : gG ≠ gR := by omega
  clear KS hgH hgG hgR 
  have H_0 := H.at_ (v := .int .u32 (a : Int)) 0 rfl
  have H_1 := H.at_ (v := .int .i64 p) 1 rfl
  have H_2 := H.at_ (v := .slice A n c) 2 rfl
  have H_3 := H.at_ (v := .int .i64 sh) 3 rfl
  have H_4 := H.at_ (v := .int .i64 wo) 4 rfl
  have H_5 := H.at_ (v := .int .i64 qu) 5 rfl
  have H_6 := H.at_ (v := .int .i64 tr) 6 rfl
  have H_z := H.lt
  have G_0 := G.at_ (v := .int .i64 3) 0 rfl
  have G_1 := G.at_ (v := .int .u32 (X : Int)) 1 rfl
  have G_2 := G.at_ (v := .slice C q f) 2 rfl
  have G_z := G.lt
  go_wp2_with fail
  refine (rcheck_is (k := 3) hM h hn hy hq hX hw he.out).mono ?_
  rintro e w2 ⟨rfl, K'⟩
  clear H_0 H_1 H_2 H_3 H_4 H_5 H_6 H_z
  clear G_0 G_1 G_2 G_z
  replace H := H.below K'
  replace G := G.below K'
  replace R := R.below K'
  replace h := h.below K'
  replace hs := hs.below K'
  replace hy := hy.below K'
  replace K := Below.then_ K K'
  clear K'
  have H_0 := H.at_ (v := .int .u32 (a : Int)) 0 rfl
  have H_1 := H.at_ (v := .int .i64 p) 1 rfl
  have H_2 := H.at_ (v := .slice A n c) 2 rfl
  have H_3 := H.at_ (v := .int .i64 sh) 3 rfl
  have H_4 := H.at_ (v := .int .i64 wo) 4 rfl
  have H_5 := H.at_ (v := .int .i64 qu) 5 rfl
  have H_6 := H.at_ (v := .int .i64 tr) 6 rfl
  have H_z := H.lt
  have G_0 := G.at_ (v := .int .i64 3) 0 rfl
  have G_1 := G.at_ (v := .int .u32 (X : Int)) 1 rfl
  have G_2 := G.at_ (v := .slice C q f) 2 rfl
  have G_z := G.lt
  go_wp2_with fail
  refine ((TO_ _).out).mono ?_
  rintro e w3 ⟨rfl, K'⟩
  clear H_0 H_1 H_2 H_3 H_4 H_5 H_6 H_z
  clear G_0 G_1 G_2 G_z
  replace H := H.below K'
  replace G := G.below K'
  replace R := R.below K'
  replace h := h.below K'
  replace hs := hs.below K'
  replace hy := hy.below K'
  replace K := Below.then_ K K'
  clear K'
  go_wp2_with fail
  refine (TH_ _ hs).out.mono ?_
  rintro e _ ⟨rfl, rfl⟩
  clear TO_ TH_ he
  have G_0 := G.at_ (v := .int .i64 3) 0 rfl
  have G_1 := G.at_ (v := .int .u32 (X : Int)) 1 rfl
  have G_2 := G.at_ (v := .slice C q f) 2 rfl
  have G_z := G.lt
  go_wp2_with (refine wpList_store_row rfl 34 (.tmp 7) (.tmp 88) rfl gR _ rfl (show _ = Value.agg #[.int .i64 6, .int .u32 0, .bool false, .slice none 0 0, .slice none 0 0] from rfl) _ _ R an_sz rfl (by simp [Value.oneCell']) ?_)
  clear G_0 G_1 G_2 G_z
  replace H := H.row_far ne_H_R #[.int .i64 6, .int .u32 0, .bool false, .slice none 0 0, .slice none 0 0]
  replace G := G.row_far ne_G_R #[.int .i64 6, .int .u32 0, .bool false, .slice none 0 0, .slice none 0 0]
  replace R := R.row #[.int .i64 6, .int .u32 0, .bool false, .slice none 0 0, .slice none 0 0]
  replace K := below_setRow K R_b #[.int .i64 6, .int .u32 0, .bool false, .slice none 0 0, .slice none 0 0]
  replace h := h0.below K
  replace hs := hs0.below K
  replace hy := hy0.below K
  generalize w3.setRow gR #[.int .i64 6, .int .u32 0, .bool false, .slice none 0 0, .slice none 0 0] = w4 at H G R h hs hy K ⊢
  refine bodyPost_ret (v := .tuple #[.slice B m d, .agg #[.int .i64 6, .int .u32 0, .bool false, .slice none 0 0, .slice none 0 0]]) ?_ rfl ?_
  · exact results_tc (fn := Tryd.f16) Tryd.results16 _ _ gR _ _ (0, 0) _ rfl R Tryd.underlying34 rfl an_sz
  exact ⟨_, _, _, _, _, _, _, _, _, rfl, hs.lower (Nat.zero_le _), (fun _ _ h => h), IS.none_ _ _ _, IS.none_ _ _ _, K⟩
set_option maxRecDepth 100000 in
set_option maxHeartbeats 4000000 in
theorem rsome_3in (ha : a < 4294967296) (hM : Much a p M) (h0 : IS .i64 lo w A n c zs) (hn : n ≤ 65536) (hs0 : IS .i64 lo2 w B m d xs) (hm : m ≤ 60000) (hx : mayR M zs 0 xs = true) (hX : X < 4294967296) (hy0 : IS .u32 lo3 w C q f ys) (hq : q ≤ 60000) (hw : W32 ys) (he : askE a M zs 3 X ys = 0) {v : Int} (hv : ofO a M X = v) (hx2 : hasB xs v = true) :
    Calls Tryd.prog 16 #[.agg #[.int .u32 (a : Int), .int .i64 p, .slice A n c, .int .i64 sh, .int .i64 wo, .int .i64 qu, .int .i64 tr], .slice B m d, .agg #[.int .i64 3, .int .u32 (X : Int), .slice C q f]] w (RetSA B m (del xs v) (an0 0) w) := by
  obtain ⟨hr_, hb_⟩ := mayR_iff.1 hx
  have hr := Lib.hid hr_
  have hMm := hM.most
  have hb2 : Hid (∀ x ∈ xs, 0 ≤ x ∧ x ≤ 65536) := Lib.hid (fun x hx => ⟨(hb_ x hx).1, by have := (hb_ x hx).2.1; omega⟩)
  clear hr_ hb_ hx
  replace he := Lib.hid he
  obtain ⟨v_, hv_⟩ : ∃ v_, ofO a M X = v_ := ⟨_, rfl⟩
  obtain ⟨u_, hu_⟩ : ∃ u_, hasB xs v_ = u_ := ⟨_, rfl⟩
  have TO_ := fun w => Lib.hid (show Calls _ _ _ _ _ from by have T := roffset_any (w := w) X hX hM; rw [hv_] at T; exact T)
  have TH_ := fun w (hs : IS .i64 lo2 w B m d xs) => Lib.hid (show Calls _ _ _ _ _ from by have T := rhas9_any hs (by omega) v_; rw [hu_] at T; exact T)
  obtain rfl : v = v_ := hv.symm.trans hv_
  obtain rfl : u_ = true := hu_.symm.trans hx2
  clear hv hx2
  clear hv_ hu_
  have h := h0
  have hs := hs0
  have hy := hy0
  have K := Below.refl w.heap.size w
  go_enter Tryd.func16, Tryd.ntmps16
  go_upto_region 1 with (fail)
  have KS := K.size
  replace h := h.below (below_alloc _ (.cells #[.int .u32 (a : Int), .int .i64 p, .slice A n c, .int .i64 sh, .int .i64 wo, .int .i64 qu, .int .i64 tr] 27))
  replace hs := hs.below (below_alloc _ (.cells #[.int .u32 (a : Int), .int .i64 p, .slice A n c, .int .i64 sh, .int .i64 wo, .int .i64 qu, .int .i64 tr] 27))
  replace hy := hy.below (below_alloc _ (.cells #[.int .u32 (a : Int), .int .i64 p, .slice A n c, .int .i64 sh, .int .i64 wo, .int .i64 qu, .int .i64 tr] 27))
  replace K := Below.then_ K (below_alloc _ (.cells #[.int .u32 (a : Int), .int .i64 p, .slice A n c, .int .i64 sh, .int .i64 wo, .int .i64 qu, .int .i64 tr] 27))
  have H := Bk.new (w) #[.int .u32 (a : Int), .int .i64 p, .slice A n c, .int .i64 sh, .int .i64 wo, .int .i64 qu, .int .i64 tr] 27
  replace H := H.alloc (.cells #[.int .i64 3, .int .u32 (X : Int), .slice C q f] 30)
  replace h := h.below (below_alloc _ (.cells #[.int .i64 3, .int .u32 (X : Int), .slice C q f] 30))
  replace hs := hs.below (below_alloc _ (.cells #[.int .i64 3, .int .u32 (X : Int), .slice C q f] 30))
  replace hy := hy.below (below_alloc _ (.cells #[.int .i64 3, .int .u32 (X : Int), .slice C q f] 30))
  replace K := Below.then_ K (below_alloc _ (.cells #[.int .i64 3, .int .u32 (X : Int), .slice C q f] 30))
  have G := Bk.new ((w).alloc (.cells #[.int .u32 (a : Int), .int .i64 p, .slice A n c, .int .i64 sh, .int .i64 wo, .int .i64 qu, .int .i64 tr] 27)) #[.int .i64 3, .int .u32 (X : Int), .slice C q f] 30
  replace H := H.alloc (.cells #[.int .i64 0, .int .u32 0, .bool false, .slice none 0 0, .slice none 0 0] 34)
  replace G := G.alloc (.cells #[.int .i64 0, .int .u32 0, .bool false, .slice none 0 0, .slice none 0 0] 34)
  replace h := h.below (below_alloc _ (.cells #[.int .i64 0, .int .u32 0, .bool false, .slice none 0 0, .slice none 0 0] 34))
  replace hs := hs.below (below_alloc _ (.cells #[.int .i64 0, .int .u32 0, .bool false, .slice none 0 0, .slice none 0 0] 34))
  replace hy := hy.below (below_alloc _ (.cells #[.int .i64 0, .int .u32 0, .bool false, .slice none 0 0, .slice none 0 0] 34))
  replace K := Below.then_ K (below_alloc _ (.cells #[.int .i64 0, .int .u32 0, .bool false, .slice none 0 0, .slice none 0 0] 34))
  have R := Bk.new (((w).alloc (.cells #[.int .u32 (a : Int), .int .i64 p, .slice A n c, .int .i64 sh, .int .i64 wo, .int .i64 qu, .int .i64 tr] 27)).alloc (.cells #[.int .i64 3, .int .u32 (X : Int), .slice C q f] 30)) #[.int .i64 0, .int .u32 0, .bool false, .slice none 0 0, .slice none 0 0] 34
  try simp only [World.size_alloc] at H G R
  generalize (((w).alloc (.cells #[.int .u32 (a : Int), .int .i64 p, .slice A n c, .int .i64 sh, .int .i64 wo, .int .i64 qu, .int .i64 tr] 27)).alloc (.cells #[.int .i64 3, .int .u32 (X : Int), .slice C q f] 30)).alloc (.cells #[.int .i64 0, .int .u32 0, .bool false, .slice none 0 0, .slice none 0 0] 34) = w1 at H G R h hs hy K ⊢
  generalize hgR : w.heap.size + 1 + 1 = gR at H G R ⊢
  generalize hgG : w.heap.size + 1 = gG at H G R ⊢
  generalize hgH : w.heap.size = gH at H G R ⊢
  have H_b : w.heap.size ≤ gH := by omega
  have G_b : w.heap.size ≤ gG := by omega
  have R_b : w.heap.size ≤ gR := by omega
  have ne_H_G : gH ≠ gG := by omega
  have ne_H_R : gH ≠ gR := by omega
  have ne_G_R : gG ≠ gR := by omega
  clear KS hgH hgG hgR 
  have H_0 := H.at_ (v := .int .u32 (a : Int)) 0 rfl
  have H_1 := H.at_ (v := .int .i64 p) 1 rfl
  have H_2 := H.at_ (v := .slice A n c) 2 rfl
  have H_3 := H.at_ (v := .int .i64 sh) 3 rfl
  have H_4 := H.at_ (v := .int .i64 wo) 4 rfl
  have H_5 := H.at_ (v := .int .i64 qu) 5 rfl
  have H_6 := H.at_ (v := .int .i64 tr) 6 rfl
  have H_z := H.lt
  have G_0 := G.at_ (v := .int .i64 3) 0 rfl
  have G_1 := G.at_ (v := .int .u32 (X : Int)) 1 rfl
  have G_2 := G.at_ (v := .slice C q f) 2 rfl
  have G_z := G.lt
  go_wp2_with fail
  refine (rcheck_is (k := 3) hM h hn hy hq hX hw he.out).mono ?_
  rintro e w2 ⟨rfl, K'⟩
  clear H_0 H_1 H_2 H_3 H_4 H_5 H_6 H_z
  clear G_0 G_1 G_2 G_z
  replace H := H.below K'
  replace G := G.below K'
  replace R := R.below K'
  replace h := h.below K'
  replace hs := hs.below K'
  replace hy := hy.below K'
  replace K := Below.then_ K K'
  clear K'
  have H_0 := H.at_ (v := .int .u32 (a : Int)) 0 rfl
  have H_1 := H.at_ (v := .int .i64 p) 1 rfl
  have H_2 := H.at_ (v := .slice A n c) 2 rfl
  have H_3 := H.at_ (v := .int .i64 sh) 3 rfl
  have H_4 := H.at_ (v := .int .i64 wo) 4 rfl
  have H_5 := H.at_ (v := .int .i64 qu) 5 rfl
  have H_6 := H.at_ (v := .int .i64 tr) 6 rfl
  have H_z := H.lt
  have G_0 := G.at_ (v := .int .i64 3) 0 rfl
  have G_1 := G.at_ (v := .int .u32 (X : Int)) 1 rfl
  have G_2 := G.at_ (v := .slice C q f) 2 rfl
  have G_z := G.lt
  go_wp2_with fail
  refine ((TO_ _).out).mono ?_
  rintro e w3 ⟨rfl, K'⟩
  clear H_0 H_1 H_2 H_3 H_4 H_5 H_6 H_z
  clear G_0 G_1 G_2 G_z
  replace H := H.below K'
  replace G := G.below K'
  replace R := R.below K'
  replace h := h.below K'
  replace hs := hs.below K'
  replace hy := hy.below K'
  replace K := Below.then_ K K'
  clear K'
  go_wp2_with fail
  refine (TH_ _ hs).out.mono ?_
  rintro e _ ⟨rfl, rfl⟩
  clear TO_ TH_ he
  have G_0 := G.at_ (v := .int .i64 3) 0 rfl
  have G_1 := G.at_ (v := .int .u32 (X : Int)) 1 rfl
  have G_2 := G.at_ (v := .slice C q f) 2 rfl
  have G_z := G.lt
  have KS := K.size
  go_wp2_with fail
  refine (rwithout_new hs (by omega) v).mono ?_
  have H_l := H.lt
  have G_l := G.lt
  have R_l := R.lt
  rintro e w4 ⟨IA, In, Ic, rfl, I, K'⟩
  have I_H := I.av H_l
  have I_G := I.av G_l
  have I_R := I.av R_l
  clear H_l G_l R_l
  have I_old : ∀ g, g < w.heap.size → Av g IA In := fun g hg => I.av (by omega)
  replace I := I.lower (Nat.zero_le _)
  replace H := H.below K'
  replace G := G.below K'
  replace R := R.below K'
  replace h := h.below K'
  replace hs := hs.below K'
  replace hy := hy.below K'
  replace K := Below.then_ K K'
  clear K'
  have G_0 := G.at_ (v := .int .i64 3) 0 rfl
  have G_1 := G.at_ (v := .int .u32 (X : Int)) 1 rfl
  have G_2 := G.at_ (v := .slice C q f) 2 rfl
  have G_z := G.lt
  go_wp2_with (refine wpList_store_row rfl 34 (.tmp 7) (.tmp 92) rfl gR _ rfl (show _ = Value.agg #[.int .i64 0, .int .u32 0, .bool false, .slice none 0 0, .slice none 0 0] from rfl) _ _ R an_sz rfl (by simp [Value.oneCell']) ?_)
  clear G_0 G_1 G_2 G_z
  replace H := H.row_far ne_H_R #[.int .i64 0, .int .u32 0, .bool false, .slice none 0 0, .slice none 0 0]
  replace G := G.row_far ne_G_R #[.int .i64 0, .int .u32 0, .bool false, .slice none 0 0, .slice none 0 0]
  replace R := R.row #[.int .i64 0, .int .u32 0, .bool false, .slice none 0 0, .slice none 0 0]
  replace I := I.row_av I_R #[.int .i64 0, .int .u32 0, .bool false, .slice none 0 0, .slice none 0 0]
  replace K := below_setRow K R_b #[.int .i64 0, .int .u32 0, .bool false, .slice none 0 0, .slice none 0 0]
  replace h := h0.below K
  replace hs := hs0.below K
  replace hy := hy0.below K
  generalize w4.setRow gR #[.int .i64 0, .int .u32 0, .bool false, .slice none 0 0, .slice none 0 0] = w5 at H G R h hs hy I K ⊢
  refine bodyPost_ret (v := .tuple #[.slice IA In Ic, .agg #[.int .i64 0, .int .u32 0, .bool false, .slice none 0 0, .slice none 0 0]]) ?_ rfl ?_
  · exact results_tc (fn := Tryd.f16) Tryd.results16 _ _ gR _ _ (0, 0) _ rfl R Tryd.underlying34 rfl an_sz
  exact ⟨_, _, _, _, _, _, _, _, _, rfl, I, (fun g hg _ => I_old g hg), IS.none_ _ _ _, IS.none_ _ _ _, K⟩
set_option maxRecDepth 100000 in
set_option maxHeartbeats 4000000 in
theorem rsome_5 (ha : a < 4294967296) (hM : Much a p M) (h0 : IS .i64 lo w A n c zs) (hn : n ≤ 65536) (hs0 : IS .i64 lo2 w B m d xs) (hm : m ≤ 60000) (hx : mayR M zs 0 xs = true) (hX : X < 4294967296) (hy0 : IS .u32 lo3 w C q f ys) (hq : q ≤ 60000) (hw : W32 ys) (he : askE a M zs 5 X ys = 0) {u : Bool} (hu : hasB xs (ofO a M X) = u) :
    Calls Tryd.prog 16 #[.agg #[.int .u32 (a : Int), .int .i64 p, .slice A n c, .int .i64 sh, .int .i64 wo, .int .i64 qu, .int .i64 tr], .slice B m d, .agg #[.int .i64 5, .int .u32 (X : Int), .slice C q f]] w (RetSA B m xs (0, 0, u, [], []) w) := by
  obtain ⟨hr_, hb_⟩ := mayR_iff.1 hx
  have hr := Lib.hid hr_
  have hMm := hM.most
  have hb2 : Hid (∀ x ∈ xs, 0 ≤ x ∧ x ≤ 65536) := Lib.hid (fun x hx => ⟨(hb_ x hx).1, by have := (hb_ x hx).2.1; omega⟩)
  clear hr_ hb_ hx
  replace he := Lib.hid he
  obtain ⟨v_, hv_⟩ : ∃ v_, ofO a M X = v_ := ⟨_, rfl⟩
  obtain ⟨u_, hu_⟩ : ∃ u_, hasB xs v_ = u_ := ⟨_, rfl⟩
  have TO_ := fun w => Lib.hid (show Calls _ _ _ _ _ from by have T := roffset_any (w := w) X hX hM; rw [hv_] at T; exact T)
  have TH_ := fun w (hs : IS .i64 lo2 w B m d xs) => Lib.hid (show Calls _ _ _ _ _ from by have T := rhas9_any hs (by omega) v_; rw [hu_] at T; exact T)
  obtain rfl : u = u_ := by rw [← hu, ← hu_, hv_]
  clear hu
  clear hv_ hu_
  have h := h0
  have hs := hs0
  have hy := hy0
  have K := Below.refl w.heap.size w
  go_enter Tryd.func16, Tryd.ntmps16
  go_upto_region 1 with (fail)
  have KS := K.size
  replace h := h.below (below_alloc _ (.cells #[.int .u32 (a : Int), .int .i64 p, .slice A n c, .int .i64 sh, .int .i64 wo, .int .i64 qu, .int .i64 tr] 27))
  replace hs := hs.below (below_alloc _ (.cells #[.int .u32 (a : Int), .int .i64 p, .slice A n c, .int .i64 sh, .int .i64 wo, .int .i64 qu, .int .i64 tr] 27))
  replace hy := hy.below (below_alloc _ (.cells #[.int .u32 (a : Int), .int .i64 p, .slice A n c, .int .i64 sh, .int .i64 wo, .int .i64 qu, .int .i64 tr] 27))
  replace K := Below.then_ K (below_alloc _ (.cells #[.int .u32 (a : Int), .int .i64 p, .slice A n c, .int .i64 sh, .int .i64 wo, .int .i64 qu, .int .i64 tr] 27))
  have H := Bk.new (w) #[.int .u32 (a : Int), .int .i64 p, .slice A n c, .int .i64 sh, .int .i64 wo, .int .i64 qu, .int .i64 tr] 27
  replace H := H.alloc (.cells #[.int .i64 5, .int .u32 (X : Int), .slice C q f] 30)
  replace h := h.below (below_alloc _ (.cells #[.int .i64 5, .int .u32 (X : Int), .slice C q f] 30))
  replace hs := hs.below (below_alloc _ (.cells #[.int .i64 5, .int .u32 (X : Int), .slice C q f] 30))
  replace hy := hy.below (below_alloc _ (.cells #[.int .i64 5, .int .u32 (X : Int), .slice C q f] 30))
  replace K := Below.then_ K (below_alloc _ (.cells #[.int .i64 5, .int .u32 (X : Int), .slice C q f] 30))
  have G := Bk.new ((w).alloc (.cells #[.int .u32 (a : Int), .int .i64 p, .slice A n c, .int .i64 sh, .int .i64 wo, .int .i64 qu, .int .i64 tr] 27)) #[.int .i64 5, .int .u32 (X : Int), .slice C q f] 30
  replace H := H.alloc (.cells #[.int .i64 0, .int .u32 0, .bool false, .slice none 0 0, .slice none 0 0] 34)
  replace G := G.alloc (.cells #[.int .i64 0, .int .u32 0, .bool false, .slice none 0 0, .slice none 0 0] 34)
  replace h := h.below (below_alloc _ (.cells #[.int .i64 0, .int .u32 0, .bool false, .slice none 0 0, .slice none 0 0] 34))
  replace hs := hs.below (below_alloc _ (.cells #[.int .i64 0, .int .u32 0, .bool false, .slice none 0 0, .slice none 0 0] 34))
  replace hy := hy.below (below_alloc _ (.cells #[.int .i64 0, .int .u32 0, .bool false, .slice none 0 0, .slice none 0 0] 34))
  replace K := Below.then_ K (below_alloc _ (.cells #[.int .i64 0, .int .u32 0, .bool false, .slice none 0 0, .slice none 0 0] 34))
  have R := Bk.new (((w).alloc (.cells #[.int .u32 (a : Int), .int .i64 p, .slice A n c, .int .i64 sh, .int .i64 wo, .int .i64 qu, .int .i64 tr] 27)).alloc (.cells #[.int .i64 5, .int .u32 (X : Int), .slice C q f] 30)) #[.int .i64 0, .int .u32 0, .bool false, .slice none 0 0, .slice none 0 0] 34
  try simp only [World.size_alloc] at H G R
  generalize (((w).alloc (.cells #[.int .u32 (a : Int), .int .i64 p, .slice A n c, .int .i64 sh, .int .i64 wo, .int .i64 qu, .int .i64 tr] 27)).alloc (.cells #[.int .i64 5, .int .u32 (X : Int), .slice C q f] 30)).alloc (.cells #[.int .i64 0, .int .u32 0, .bool false, .slice none 0 0, .slice none 0 0] 34) = w1 at H G R h hs hy K ⊢
  generalize hgR : w.heap.size + 1 + 1 = gR at H G R ⊢
  generalize hgG : w.heap.size + 1 = gG at H G R ⊢
  generalize hgH : w.heap.size = gH at H G R ⊢
  have H_b : w.heap.size ≤ gH := by omega
  have G_b : w.heap.size ≤ gG := by omega
  have R_b : w.heap.size ≤ gR := by omega
  have ne_H_G : gH ≠ gG := by omega
  have ne_H_R : gH ≠ gR := by omega
  have ne_G_R : gG ≠ gR := by omega
  clear KS hgH hgG hgR 
  have H_0 := H.at_ (v := .int .u32 (a : Int)) 0 rfl
  have H_1 := H.at_ (v := .int .i64 p) 1 rfl
  have H_2 := H.at_ (v := .slice A n c) 2 rfl
  have H_3 := H.at_ (v := .int .i64 sh) 3 rfl
  have H_4 := H.at_ (v := .int .i64 wo) 4 rfl
  have H_5 := H.at_ (v := .int .i64 qu) 5 rfl
  have H_6 := H.at_ (v := .int .i64 tr) 6 rfl
  have H_z := H.lt
  have G_0 := G.at_ (v := .int .i64 5) 0 rfl
  have G_1 := G.at_ (v := .int .u32 (X : Int)) 1 rfl
  have G_2 := G.at_ (v := .slice C q f) 2 rfl
  have G_z := G.lt
  go_wp2_with fail
  refine (rcheck_is (k := 5) hM h hn hy hq hX hw he.out).mono ?_
  rintro e w2 ⟨rfl, K'⟩
  clear H_0 H_1 H_2 H_3 H_4 H_5 H_6 H_z
  clear G_0 G_1 G_2 G_z
  replace H := H.below K'
  replace G := G.below K'
  replace R := R.below K'
  replace h := h.below K'
  replace hs := hs.below K'
  replace hy := hy.below K'
  replace K := Below.then_ K K'
  clear K'
  have H_0 := H.at_ (v := .int .u32 (a : Int)) 0 rfl
  have H_1 := H.at_ (v := .int .i64 p) 1 rfl
  have H_2 := H.at_ (v := .slice A n c) 2 rfl
  have H_3 := H.at_ (v := .int .i64 sh) 3 rfl
  have H_4 := H.at_ (v := .int .i64 wo) 4 rfl
  have H_5 := H.at_ (v := .int .i64 qu) 5 rfl
  have H_6 := H.at_ (v := .int .i64 tr) 6 rfl
  have H_z := H.lt
  have G_0 := G.at_ (v := .int .i64 5) 0 rfl
  have G_1 := G.at_ (v := .int .u32 (X : Int)) 1 rfl
  have G_2 := G.at_ (v := .slice C q f) 2 rfl
  have G_z := G.lt
  go_wp2_with fail
  refine ((TO_ _).out).mono ?_
  rintro e w3 ⟨rfl, K'⟩
  clear H_0 H_1 H_2 H_3 H_4 H_5 H_6 H_z
  clear G_0 G_1 G_2 G_z
  replace H := H.below K'
  replace G := G.below K'
  replace R := R.below K'
  replace h := h.below K'
  replace hs := hs.below K'
  replace hy := hy.below K'
  replace K := Below.then_ K K'
  clear K'
  go_wp2_with fail
  refine (TH_ _ hs).out.mono ?_
  rintro e _ ⟨rfl, rfl⟩
  clear TO_ TH_ he
  have G_0 := G.at_ (v := .int .i64 5) 0 rfl
  have G_1 := G.at_ (v := .int .u32 (X : Int)) 1 rfl
  have G_2 := G.at_ (v := .slice C q f) 2 rfl
  have G_z := G.lt
  go_wp2_with (refine wpList_store_row rfl 34 (.tmp 7) (.tmp 131) rfl gR _ rfl (show _ = Value.agg #[.int .i64 0, .int .u32 0, .bool u, .slice none 0 0, .slice none 0 0] from rfl) _ _ R an_sz rfl (by simp [Value.oneCell']) ?_)
  clear G_0 G_1 G_2 G_z
  replace H := H.row_far ne_H_R #[.int .i64 0, .int .u32 0, .bool u, .slice none 0 0, .slice none 0 0]
  replace G := G.row_far ne_G_R #[.int .i64 0, .int .u32 0, .bool u, .slice none 0 0, .slice none 0 0]
  replace R := R.row #[.int .i64 0, .int .u32 0, .bool u, .slice none 0 0, .slice none 0 0]
  replace K := below_setRow K R_b #[.int .i64 0, .int .u32 0, .bool u, .slice none 0 0, .slice none 0 0]
  replace h := h0.below K
  replace hs := hs0.below K
  replace hy := hy0.below K
  generalize w3.setRow gR #[.int .i64 0, .int .u32 0, .bool u, .slice none 0 0, .slice none 0 0] = w4 at H G R h hs hy K ⊢
  refine bodyPost_ret (v := .tuple #[.slice B m d, .agg #[.int .i64 0, .int .u32 0, .bool u, .slice none 0 0, .slice none 0 0]]) ?_ rfl ?_
  · exact results_tc (fn := Tryd.f16) Tryd.results16 _ _ gR _ _ (0, 0) _ rfl R Tryd.underlying34 rfl an_sz
  exact ⟨_, _, _, _, _, _, _, _, _, rfl, hs.lower (Nat.zero_le _), (fun _ _ h => h), IS.none_ _ _ _, IS.none_ _ _ _, K⟩
set_option maxRecDepth 100000 in
set_option maxHeartbeats 4000000 in
theorem rsome_6 (ha : a < 4294967296) (hM : Much a p M) (h0 : IS .i64 lo w A n c zs) (hn : n ≤ 65536) (hs0 : IS .i64 lo2 w B m d xs) (hm : m ≤ 60000) (hx : mayR M zs 0 xs = true) (hX : X < 4294967296) (hy0 : IS .u32 lo3 w C q f ys) (hq : q ≤ 60000) (hw : W32 ys) (he : askE a M zs 6 X ys = 0)  :
    Calls Tryd.prog 16 #[.agg #[.int .u32 (a : Int), .int .i64 p, .slice A n c, .int .i64 sh, .int .i64 wo, .int .i64 qu, .int .i64 tr], .slice B m d, .agg #[.int .i64 6, .int .u32 (X : Int), .slice C q f]] w (RetSA B m xs (0, 0, false, ads a xs, []) w) := by
  obtain ⟨hr_, hb_⟩ := mayR_iff.1 hx
  have hr := Lib.hid hr_
  have hMm := hM.most
  have hb2 : Hid (∀ x ∈ xs, 0 ≤ x ∧ x ≤ 65536) := Lib.hid (fun x hx => ⟨(hb_ x hx).1, by have := (hb_ x hx).2.1; omega⟩)
  clear hr_ hb_ hx
  replace he := Lib.hid he
  obtain ⟨v_, hv_⟩ : ∃ v_, ofO a M X = v_ := ⟨_, rfl⟩
  obtain ⟨u_, hu_⟩ : ∃ u_, hasB xs v_ = u_ := ⟨_, rfl⟩
  have TO_ := fun w => Lib.hid (show Calls _ _ _ _ _ from by have T := roffset_any (w := w) X hX hM; rw [hv_] at T; exact T)
  have TH_ := fun w (hs : IS .i64 lo2 w B m d xs) => Lib.hid (show Calls _ _ _ _ _ from by have T := rhas9_any hs (by omega) v_; rw [hu_] at T; exact T)
  clear hv_ hu_
  have h := h0
  have hs := hs0
  have hy := hy0
  have K := Below.refl w.heap.size w
  go_enter Tryd.func16, Tryd.ntmps16
  go_upto_region 1 with (fail)
  have KS := K.size
  replace h := h.below (below_alloc _ (.cells #[.int .u32 (a : Int), .int .i64 p, .slice A n c, .int .i64 sh, .int .i64 wo, .int .i64 qu, .int .i64 tr] 27))
  replace hs := hs.below (below_alloc _ (.cells #[.int .u32 (a : Int), .int .i64 p, .slice A n c, .int .i64 sh, .int .i64 wo, .int .i64 qu, .int .i64 tr] 27))
  replace hy := hy.below (below_alloc _ (.cells #[.int .u32 (a : Int), .int .i64 p, .slice A n c, .int .i64 sh, .int .i64 wo, .int .i64 qu, .int .i64 tr] 27))
  replace K := Below.then_ K (below_alloc _ (.cells #[.int .u32 (a : Int), .int .i64 p, .slice A n c, .int .i64 sh, .int .i64 wo, .int .i64 qu, .int .i64 tr] 27))
  have H := Bk.new (w) #[.int .u32 (a : Int), .int .i64 p, .slice A n c, .int .i64 sh, .int .i64 wo, .int .i64 qu, .int .i64 tr] 27
  replace H := H.alloc (.cells #[.int .i64 6, .int .u32 (X : Int), .slice C q f] 30)
  replace h := h.below (below_alloc _ (.cells #[.int .i64 6, .int .u32 (X : Int), .slice C q f] 30))
  replace hs := hs.below (below_alloc _ (.cells #[.int .i64 6, .int .u32 (X : Int), .slice C q f] 30))
  replace hy := hy.below (below_alloc _ (.cells #[.int .i64 6, .int .u32 (X : Int), .slice C q f] 30))
  replace K := Below.then_ K (below_alloc _ (.cells #[.int .i64 6, .int .u32 (X : Int), .slice C q f] 30))
  have G := Bk.new ((w).alloc (.cells #[.int .u32 (a : Int), .int .i64 p, .slice A n c, .int .i64 sh, .int .i64 wo, .int .i64 qu, .int .i64 tr] 27)) #[.int .i64 6, .int .u32 (X : Int), .slice C q f] 30
  replace H := H.alloc (.cells #[.int .i64 0, .int .u32 0, .bool false, .slice none 0 0, .slice none 0 0] 34)
  replace G := G.alloc (.cells #[.int .i64 0, .int .u32 0, .bool false, .slice none 0 0, .slice none 0 0] 34)
  replace h := h.below (below_alloc _ (.cells #[.int .i64 0, .int .u32 0, .bool false, .slice none 0 0, .slice none 0 0] 34))
  replace hs := hs.below (below_alloc _ (.cells #[.int .i64 0, .int .u32 0, .bool false, .slice none 0 0, .slice none 0 0] 34))
  replace hy := hy.below (below_alloc _ (.cells #[.int .i64 0, .int .u32 0, .bool false, .slice none 0 0, .slice none 0 0] 34))
  replace K := Below.then_ K (below_alloc _ (.cells #[.int .i64 0, .int .u32 0, .bool false, .slice none 0 0, .slice none 0 0] 34))
  have R := Bk.new (((w).alloc (.cells #[.int .u32 (a : Int), .int .i64 p, .slice A n c, .int .i64 sh, .int .i64 wo, .int .i64 qu, .int .i64 tr] 27)).alloc (.cells #[.int .i64 6, .int .u32 (X : Int), .slice C q f] 30)) #[.int .i64 0, .int .u32 0, .bool false, .slice none 0 0, .slice none 0 0] 34
  try simp only [World.size_alloc] at H G R
  generalize (((w).alloc (.cells #[.int .u32 (a : Int), .int .i64 p, .slice A n c, .int .i64 sh, .int .i64 wo, .int .i64 qu, .int .i64 tr] 27)).alloc (.cells #[.int .i64 6, .int .u32 (X : Int), .slice C q f] 30)).alloc (.cells #[.int .i64 0, .int .u32 0, .bool false, .slice none 0 0, .slice none 0 0] 34) = w1 at H G R h hs hy K ⊢
  generalize hgR : w.heap.size + 1 + 1 = gR at H G R ⊢
  generalize hgG : w.heap.size + 1 = gG at H G R ⊢
  generalize hgH : w.heap.size = gH at H G R ⊢
  have H_b : w.heap.size ≤ gH := by omega
  have G_b : w.heap.size ≤ gG := by omega
  have R_b : w.heap.size ≤ gR := by omega
  have ne_H_G : gH ≠ gG := by omega
  have ne_H_R : gH ≠ gR := by omega
  have ne_G_R : gG ≠ gR := by omega
  clear KS hgH hgG hgR 
  have H_0 := H.at_ (v := .int .u32 (a : Int)) 0 rfl
  have H_1 := H.at_ (v := .int .i64 p) 1 rfl
  have H_2 := H.at_ (v := .slice A n c) 2 rfl
  have H_3 := H.at_ (v := .int .i64 sh) 3 rfl
  have H_4 := H.at_ (v := .int .i64 wo) 4 rfl
  have H_5 := H.at_ (v := .int .i64 qu) 5 rfl
  have H_6 := H.at_ (v := .int .i64 tr) 6 rfl
  have H_z := H.lt
  have G_0 := G.at_ (v := .int .i64 6) 0 rfl
  have G_1 := G.at_ (v := .int .u32 (X : Int)) 1 rfl
  have G_2 := G.at_ (v := .slice C q f) 2 rfl
  have G_z := G.lt
  go_wp2_with fail
  refine (rcheck_is (k := 6) hM h hn hy hq hX hw he.out).mono ?_
  rintro e w2 ⟨rfl, K'⟩
  clear H_0 H_1 H_2 H_3 H_4 H_5 H_6 H_z
  clear G_0 G_1 G_2 G_z
  replace H := H.below K'
  replace G := G.below K'
  replace R := R.below K'
  replace h := h.below K'
  replace hs := hs.below K'
  replace hy := hy.below K'
  replace K := Below.then_ K K'
  clear K'
  have H_0 := H.at_ (v := .int .u32 (a : Int)) 0 rfl
  have H_1 := H.at_ (v := .int .i64 p) 1 rfl
  have H_2 := H.at_ (v := .slice A n c) 2 rfl
  have H_3 := H.at_ (v := .int .i64 sh) 3 rfl
  have H_4 := H.at_ (v := .int .i64 wo) 4 rfl
  have H_5 := H.at_ (v := .int .i64 qu) 5 rfl
  have H_6 := H.at_ (v := .int .i64 tr) 6 rfl
  have H_z := H.lt
  have G_0 := G.at_ (v := .int .i64 6) 0 rfl
  have G_1 := G.at_ (v := .int .u32 (X : Int)) 1 rfl
  have G_2 := G.at_ (v := .slice C q f) 2 rfl
  have G_z := G.lt
  go_wp2_with fail
  refine ((TO_ _).out).mono ?_
  rintro e w3 ⟨rfl, K'⟩
  clear H_0 H_1 H_2 H_3 H_4 H_5 H_6 H_z
  clear G_0 G_1 G_2 G_z
  replace H := H.below K'
  replace G := G.below K'
  replace R := R.below K'
  replace h := h.below K'
  replace hs := hs.below K'
  replace hy := hy.below K'
  replace K := Below.then_ K K'
  clear K'
  go_wp2_with fail
  refine (TH_ _ hs).out.mono ?_
  rintro e _ ⟨rfl, rfl⟩
  clear TO_ TH_ he
  have G_0 := G.at_ (v := .int .i64 6) 0 rfl
  have G_1 := G.at_ (v := .int .u32 (X : Int)) 1 rfl
  have G_2 := G.at_ (v := .slice C q f) 2 rfl
  have G_z := G.lt
  have KS := K.size
  have H_0 := H.at_ (v := .int .u32 (a : Int)) 0 rfl
  have H_1 := H.at_ (v := .int .i64 p) 1 rfl
  have H_2 := H.at_ (v := .slice A n c) 2 rfl
  have H_3 := H.at_ (v := .int .i64 sh) 3 rfl
  have H_4 := H.at_ (v := .int .i64 wo) 4 rfl
  have H_5 := H.at_ (v := .int .i64 qu) 5 rfl
  have H_6 := H.at_ (v := .int .i64 tr) 6 rfl
  have H_z := H.lt
  go_wp2_with fail
  refine (raddrs9_new hs (by omega) hb2.out).mono ?_
  clear H_0 H_1 H_2 H_3 H_4 H_5 H_6 H_z
  have H_l := H.lt
  have G_l := G.lt
  have R_l := R.lt
  rintro e w4 ⟨IA, In, Ic, rfl, I, K'⟩
  have I_H := I.av H_l
  have I_G := I.av G_l
  have I_R := I.av R_l
  clear H_l G_l R_l
  replace I := I.lower KS
  replace H := H.below K'
  replace G := G.below K'
  replace R := R.below K'
  replace h := h.below K'
  replace hs := hs.below K'
  replace hy := hy.below K'
  replace K := Below.then_ K K'
  clear K'
  go_wp2_with (refine wpList_store_row rfl 34 (.tmp 7) (.tmp 138) rfl gR _ rfl (show _ = Value.agg #[.int .i64 0, .int .u32 0, .bool false, .slice IA In Ic, .slice none 0 0] from rfl) _ _ R an_sz rfl (by simp [Value.oneCell']) ?_)
  replace H := H.row_far ne_H_R #[.int .i64 0, .int .u32 0, .bool false, .slice IA In Ic, .slice none 0 0]
  replace G := G.row_far ne_G_R #[.int .i64 0, .int .u32 0, .bool false, .slice IA In Ic, .slice none 0 0]
  replace R := R.row #[.int .i64 0, .int .u32 0, .bool false, .slice IA In Ic, .slice none 0 0]
  replace I := I.row_av I_R #[.int .i64 0, .int .u32 0, .bool false, .slice IA In Ic, .slice none 0 0]
  replace K := below_setRow K R_b #[.int .i64 0, .int .u32 0, .bool false, .slice IA In Ic, .slice none 0 0]
  replace h := h0.below K
  replace hs := hs0.below K
  replace hy := hy0.below K
  generalize w4.setRow gR #[.int .i64 0, .int .u32 0, .bool false, .slice IA In Ic, .slice none 0 0] = w5 at H G R h hs hy I K ⊢
  refine bodyPost_ret (v := .tuple #[.slice B m d, .agg #[.int .i64 0, .int .u32 0, .bool false, .slice IA In Ic, .slice none 0 0]]) ?_ rfl ?_
  · exact results_tc (fn := Tryd.f16) Tryd.results16 _ _ gR _ _ (0, 0) _ rfl R Tryd.underlying34 rfl an_sz
  exact ⟨_, _, _, _, _, _, _, _, _, rfl, hs.lower (Nat.zero_le _), (fun _ _ h => h), I, IS.none_ _ _ _, K⟩
set_option maxRecDepth 100000 in
set_option maxHeartbeats 4000000 in
theorem rsome_7 (ha : a < 4294967296) (hM : Much a p M) (h0 : IS .i64 lo w A n c zs) (hn : n ≤ 65536) (hs0 : IS .i64 lo2 w B m d xs) (hm : m ≤ 60000) (hx : mayR M zs 0 xs = true) (hX : X < 4294967296) (hy0 : IS .u32 lo3 w C q f ys) (hq : q ≤ 60000) (hw : W32 ys) (he : askE a M zs 7 X ys = 0)  :
    Calls Tryd.prog 16 #[.agg #[.int .u32 (a : Int), .int .i64 p, .slice A n c, .int .i64 sh, .int .i64 wo, .int .i64 qu, .int .i64 tr], .slice B m d, .agg #[.int .i64 7, .int .u32 (X : Int), .slice C q f]] w (RetSA B m xs (an0 0) w) := by
  obtain ⟨hr_, hb_⟩ := mayR_iff.1 hx
  have hr := Lib.hid hr_
  have hMm := hM.most
  have hb2 : Hid (∀ x ∈ xs, 0 ≤ x ∧ x ≤ 65536) := Lib.hid (fun x hx => ⟨(hb_ x hx).1, by have := (hb_ x hx).2.1; omega⟩)
  clear hr_ hb_ hx
  replace he := Lib.hid he
  obtain ⟨v_, hv_⟩ : ∃ v_, ofO a M X = v_ := ⟨_, rfl⟩
  obtain ⟨u_, hu_⟩ : ∃ u_, hasB xs v_ = u_ := ⟨_, rfl⟩
  have TO_ := fun w => Lib.hid (show Calls _ _ _ _ _ from by have T := roffset_any (w := w) X hX hM; rw [hv_] at T; exact T)
  have TH_ := fun w (hs : IS .i64 lo2 w B m d xs) => Lib.hid (show Calls _ _ _ _ _ from by have T := rhas9_any hs (by omega) v_; rw [hu_] at T; exact T)
  clear hv_ hu_
  have h := h0
  have hs := hs0
  have hy := hy0
  have K := Below.refl w.heap.size w
  go_enter Tryd.func16, Tryd.ntmps16
  go_upto_region 1 with (fail)
  have KS := K.size
  replace h := h.below (below_alloc _ (.cells #[.int .u32 (a : Int), .int .i64 p, .slice A n c, .int .i64 sh, .int .i64 wo, .int .i64 qu, .int .i64 tr] 27))
  replace hs := hs.below (below_alloc _ (.cells #[.int .u32 (a : Int), .int .i64 p, .slice A n c, .int .i64 sh, .int .i64 wo, .int .i64 qu, .int .i64 tr] 27))
  replace hy := hy.below (below_alloc _ (.cells #[.int .u32 (a : Int), .int .i64 p, .slice A n c, .int .i64 sh, .int .i64 wo, .int .i64 qu, .int .i64 tr] 27))
  replace K := Below.then_ K (below_alloc _ (.cells #[.int .u32 (a : Int), .int .i64 p, .slice A n c, .int .i64 sh, .int .i64 wo, .int .i64 qu, .int .i64 tr] 27))
  have H := Bk.new (w) #[.int .u32 (a : Int), .int .i64 p, .slice A n c, .int .i64 sh, .int .i64 wo, .int .i64 qu, .int .i64 tr] 27
  replace H := H.alloc (.cells #[.int .i64 7, .int .u32 (X : Int), .slice C q f] 30)
  replace h := h.below (below_alloc _ (.cells #[.int .i64 7, .int .u32 (X : Int), .slice C q f] 30))
  replace hs := hs.below (below_alloc _ (.cells #[.int .i64 7, .int .u32 (X : Int), .slice C q f] 30))
  replace hy := hy.below (below_alloc _ (.cells #[.int .i64 7, .int .u32 (X : Int), .slice C q f] 30))
  replace K := Below.then_ K (below_alloc _ (.cells #[.int .i64 7, .int .u32 (X : Int), .slice C q f] 30))
  have G := Bk.new ((w).alloc (.cells #[.int .u32 (a : Int), .int .i64 p, .slice A n c, .int .i64 sh, .int .i64 wo, .int .i64 qu, .int .i64 tr] 27)) #[.int .i64 7, .int .u32 (X : Int), .slice C q f] 30
  replace H := H.alloc (.cells #[.int .i64 0, .int .u32 0, .bool false, .slice none 0 0, .slice none 0 0] 34)
  replace G := G.alloc (.cells #[.int .i64 0, .int .u32 0, .bool false, .slice none 0 0, .slice none 0 0] 34)
  replace h := h.below (below_alloc _ (.cells #[.int .i64 0, .int .u32 0, .bool false, .slice none 0 0, .slice none 0 0] 34))
  replace hs := hs.below (below_alloc _ (.cells #[.int .i64 0, .int .u32 0, .bool false, .slice none 0 0, .slice none 0 0] 34))
  replace hy := hy.below (below_alloc _ (.cells #[.int .i64 0, .int .u32 0, .bool false, .slice none 0 0, .slice none 0 0] 34))
  replace K := Below.then_ K (below_alloc _ (.cells #[.int .i64 0, .int .u32 0, .bool false, .slice none 0 0, .slice none 0 0] 34))
  have R := Bk.new (((w).alloc (.cells #[.int .u32 (a : Int), .int .i64 p, .slice A n c, .int .i64 sh, .int .i64 wo, .int .i64 qu, .int .i64 tr] 27)).alloc (.cells #[.int .i64 7, .int .u32 (X : Int), .slice C q f] 30)) #[.int .i64 0, .int .u32 0, .bool false, .slice none 0 0, .slice none 0 0] 34
  try simp only [World.size_alloc] at H G R
  generalize (((w).alloc (.cells #[.int .u32 (a : Int), .int .i64 p, .slice A n c, .int .i64 sh, .int .i64 wo, .int .i64 qu, .int .i64 tr] 27)).alloc (.cells #[.int .i64 7, .int .u32 (X : Int), .slice C q f] 30)).alloc (.cells #[.int .i64 0, .int .u32 0, .bool false, .slice none 0 0, .slice none 0 0] 34) = w1 at H G R h hs hy K ⊢
  generalize hgR : w.heap.size + 1 + 1 = gR at H G R ⊢
  generalize hgG : w.heap.size + 1 = gG at H G R ⊢
  generalize hgH : w.heap.size = gH at H G R ⊢
  have H_b : w.heap.size ≤ gH := by omega
  have G_b : w.heap.size ≤ gG := by omega
  have R_b : w.heap.size ≤ gR := by omega
  have ne_H_G : gH ≠ gG := by omega
  have ne_H_R : gH ≠ gR := by omega
  have ne_G_R : gG ≠ gR := by omega
  clear KS hgH hgG hgR 
  have H_0 := H.at_ (v := .int .u32 (a : Int)) 0 rfl
  have H_1 := H.at_ (v := .int .i64 p) 1 rfl
  have H_2 := H.at_ (v := .slice A n c) 2 rfl
  have H_3 := H.at_ (v := .int .i64 sh) 3 rfl
  have H_4 := H.at_ (v := .int .i64 wo) 4 rfl
  have H_5 := H.at_ (v := .int .i64 qu) 5 rfl
  have H_6 := H.at_ (v := .int .i64 tr) 6 rfl
  have H_z := H.lt
  have G_0 := G.at_ (v := .int .i64 7) 0 rfl
  have G_1 := G.at_ (v := .int .u32 (X : Int)) 1 rfl
  have G_2 := G.at_ (v := .slice C q f) 2 rfl
  have G_z := G.lt
  go_wp2_with fail
  refine (rcheck_is (k := 7) hM h hn hy hq hX hw he.out).mono ?_
  rintro e w2 ⟨rfl, K'⟩
  clear H_0 H_1 H_2 H_3 H_4 H_5 H_6 H_z
  clear G_0 G_1 G_2 G_z
  replace H := H.below K'
  replace G := G.below K'
  replace R := R.below K'
  replace h := h.below K'
  replace hs := hs.below K'
  replace hy := hy.below K'
  replace K := Below.then_ K K'
  clear K'
  have H_0 := H.at_ (v := .int .u32 (a : Int)) 0 rfl
  have H_1 := H.at_ (v := .int .i64 p) 1 rfl
  have H_2 := H.at_ (v := .slice A n c) 2 rfl
  have H_3 := H.at_ (v := .int .i64 sh) 3 rfl
  have H_4 := H.at_ (v := .int .i64 wo) 4 rfl
  have H_5 := H.at_ (v := .int .i64 qu) 5 rfl
  have H_6 := H.at_ (v := .int .i64 tr) 6 rfl
  have H_z := H.lt
  have G_0 := G.at_ (v := .int .i64 7) 0 rfl
  have G_1 := G.at_ (v := .int .u32 (X : Int)) 1 rfl
  have G_2 := G.at_ (v := .slice C q f) 2 rfl
  have G_z := G.lt
  go_wp2_with fail
  refine ((TO_ _).out).mono ?_
  rintro e w3 ⟨rfl, K'⟩
  clear H_0 H_1 H_2 H_3 H_4 H_5 H_6 H_z
  clear G_0 G_1 G_2 G_z
  replace H := H.below K'
  replace G := G.below K'
  replace R := R.below K'
  replace h := h.below K'
  replace hs := hs.below K'
  replace hy := hy.below K'
  replace K := Below.then_ K K'
  clear K'
  go_wp2_with fail
  refine (TH_ _ hs).out.mono ?_
  rintro e _ ⟨rfl, rfl⟩
  clear TO_ TH_ he
  have G_0 := G.at_ (v := .int .i64 7) 0 rfl
  have G_1 := G.at_ (v := .int .u32 (X : Int)) 1 rfl
  have G_2 := G.at_ (v := .slice C q f) 2 rfl
  have G_z := G.lt
  go_wp2_with (refine wpList_store_row rfl 34 (.tmp 7) (.tmp 140) rfl gR _ rfl (show _ = Value.agg #[.int .i64 0, .int .u32 0, .bool false, .slice none 0 0, .slice none 0 0] from rfl) _ _ R an_sz rfl (by simp [Value.oneCell']) ?_)
  clear G_0 G_1 G_2 G_z
  replace H := H.row_far ne_H_R #[.int .i64 0, .int .u32 0, .bool false, .slice none 0 0, .slice none 0 0]
  replace G := G.row_far ne_G_R #[.int .i64 0, .int .u32 0, .bool false, .slice none 0 0, .slice none 0 0]
  replace R := R.row #[.int .i64 0, .int .u32 0, .bool false, .slice none 0 0, .slice none 0 0]
  replace K := below_setRow K R_b #[.int .i64 0, .int .u32 0, .bool false, .slice none 0 0, .slice none 0 0]
  replace h := h0.below K
  replace hs := hs0.below K
  replace hy := hy0.below K
  generalize w3.setRow gR #[.int .i64 0, .int .u32 0, .bool false, .slice none 0 0, .slice none 0 0] = w4 at H G R h hs hy K ⊢
  refine bodyPost_ret (v := .tuple #[.slice B m d, .agg #[.int .i64 0, .int .u32 0, .bool false, .slice none 0 0, .slice none 0 0]]) ?_ rfl ?_
  · exact results_tc (fn := Tryd.f16) Tryd.results16 _ _ gR _ _ (0, 0) _ rfl R Tryd.underlying34 rfl an_sz
  exact ⟨_, _, _, _, _, _, _, _, _, rfl, hs.lower (Nat.zero_le _), (fun _ _ h => h), IS.none_ _ _ _, IS.none_ _ _ _, K⟩
set_option maxRecDepth 100000 in
set_option maxHeartbeats 4000000 in
theorem rsome_1 (ha : a < 4294967296) (hM : Much a p M) (h0 : IS .i64 lo w A n c zs) (hn : n ≤ 65536) (hs0 : IS .i64 lo2 w B m d xs) (hm : m ≤ 60000) (hx : mayR M zs 0 xs = true) (hX : X < 4294967296) (hy0 : IS .u32 lo3 w C q f ys) (hq : q ≤ 60000) (hw : W32 ys) (he : askE a M zs 1 X ys = 0)  :
    Calls Tryd.prog 16 #[.agg #[.int .u32 (a : Int), .int .i64 p, .slice A n c, .int .i64 sh, .int .i64 wo, .int .i64 qu, .int .i64 tr], .slice B m d, .agg #[.int .i64 1, .int .u32 (X : Int), .slice C q f]] w (RetSA B m (doS a M zs xs 1 X ys).1 (doS a M zs xs 1 X ys).2 w) := by
  obtain ⟨hr_, hb_⟩ := mayR_iff.1 hx
  have hr := Lib.hid hr_
  have hMm := hM.most
  have hb2 : Hid (∀ x ∈ xs, 0 ≤ x ∧ x ≤ 65536) := Lib.hid (fun x hx => ⟨(hb_ x hx).1, by have := (hb_ x hx).2.1; omega⟩)
  have hxm := Lib.hid hx
  clear hr_ hb_ hx
  replace he := Lib.hid he
  obtain ⟨v_, hv_⟩ : ∃ v_, ofO a M X = v_ := ⟨_, rfl⟩
  obtain ⟨u_, hu_⟩ : ∃ u_, hasB xs v_ = u_ := ⟨_, rfl⟩
  have TO_ := fun w => Lib.hid (show Calls _ _ _ _ _ from by have T := roffset_any (w := w) X hX hM; rw [hv_] at T; exact T)
  have TH_ := fun w (hs : IS .i64 lo2 w B m d xs) => Lib.hid (show Calls _ _ _ _ _ from by have T := rhas9_any hs (by omega) v_; rw [hu_] at T; exact T)
  have hfit := hM.fits ha
  rw [doS_1]
  obtain ⟨lf, hlf⟩ : ∃ lf, lea zs xs M = lf := ⟨_, rfl⟩
  rw [hlf]
  replace hlf := Lib.hid hlf
  clear hv_ hu_
  have h := h0
  have hs := hs0
  have hy := hy0
  have K := Below.refl w.heap.size w
  go_enter Tryd.func16, Tryd.ntmps16
  go_upto_region 1 with (fail)
  have KS := K.size
  replace h := h.below (below_alloc _ (.cells #[.int .u32 (a : Int), .int .i64 p, .slice A n c, .int .i64 sh, .int .i64 wo, .int .i64 qu, .int .i64 tr] 27))
  replace hs := hs.below (below_alloc _ (.cells #[.int .u32 (a : Int), .int .i64 p, .slice A n c, .int .i64 sh, .int .i64 wo, .int .i64 qu, .int .i64 tr] 27))
  replace hy := hy.below (below_alloc _ (.cells #[.int .u32 (a : Int), .int .i64 p, .slice A n c, .int .i64 sh, .int .i64 wo, .int .i64 qu, .int .i64 tr] 27))
  replace K := Below.then_ K (below_alloc _ (.cells #[.int .u32 (a : Int), .int .i64 p, .slice A n c, .int .i64 sh, .int .i64 wo, .int .i64 qu, .int .i64 tr] 27))
  have H := Bk.new (w) #[.int .u32 (a : Int), .int .i64 p, .slice A n c, .int .i64 sh, .int .i64 wo, .int .i64 qu, .int .i64 tr] 27
  replace H := H.alloc (.cells #[.int .i64 1, .int .u32 (X : Int), .slice C q f] 30)
  replace h := h.below (below_alloc _ (.cells #[.int .i64 1, .int .u32 (X : Int), .slice C q f] 30))
  replace hs := hs.below (below_alloc _ (.cells #[.int .i64 1, .int .u32 (X : Int), .slice C q f] 30))
  replace hy := hy.below (below_alloc _ (.cells #[.int .i64 1, .int .u32 (X : Int), .slice C q f] 30))
  replace K := Below.then_ K (below_alloc _ (.cells #[.int .i64 1, .int .u32 (X : Int), .slice C q f] 30))
  have G := Bk.new ((w).alloc (.cells #[.int .u32 (a : Int), .int .i64 p, .slice A n c, .int .i64 sh, .int .i64 wo, .int .i64 qu, .int .i64 tr] 27)) #[.int .i64 1, .int .u32 (X : Int), .slice C q f] 30
  replace H := H.alloc (.cells #[.int .i64 0, .int .u32 0, .bool false, .slice none 0 0, .slice none 0 0] 34)
  replace G := G.alloc (.cells #[.int .i64 0, .int .u32 0, .bool false, .slice none 0 0, .slice none 0 0] 34)
  replace h := h.below (below_alloc _ (.cells #[.int .i64 0, .int .u32 0, .bool false, .slice none 0 0, .slice none 0 0] 34))
  replace hs := hs.below (below_alloc _ (.cells #[.int .i64 0, .int .u32 0, .bool false, .slice none 0 0, .slice none 0 0] 34))
  replace hy := hy.below (below_alloc _ (.cells #[.int .i64 0, .int .u32 0, .bool false, .slice none 0 0, .slice none 0 0] 34))
  replace K := Below.then_ K (below_alloc _ (.cells #[.int .i64 0, .int .u32 0, .bool false, .slice none 0 0, .slice none 0 0] 34))
  have R := Bk.new (((w).alloc (.cells #[.int .u32 (a : Int), .int .i64 p, .slice A n c, .int .i64 sh, .int .i64 wo, .int .i64 qu, .int .i64 tr] 27)).alloc (.cells #[.int .i64 1, .int .u32 (X : Int), .slice C q f] 30)) #[.int .i64 0, .int .u32 0, .bool false, .slice none 0 0, .slice none 0 0] 34
  try simp only [World.size_alloc] at H G R
  generalize (((w).alloc (.cells #[.int .u32 (a : Int), .int .i64 p, .slice A n c, .int .i64 sh, .int .i64 wo, .int .i64 qu, .int .i64 tr] 27)).alloc (.cells #[.int .i64 1, .int .u32 (X : Int), .slice C q f] 30)).alloc (.cells #[.int .i64 0, .int .u32 0, .bool false, .slice none 0 0, .slice none 0 0] 34) = w1 at H G R h hs hy K ⊢
  generalize hgR : w.heap.size + 1 + 1 = gR at H G R ⊢
  generalize hgG : w.heap.size + 1 = gG at H G R ⊢
  generalize hgH : w.heap.size = gH at H G R ⊢
  have H_b : w.heap.size ≤ gH := by omega
  have G_b : w.heap.size ≤ gG := by omega
  have R_b : w.heap.size ≤ gR := by omega
  have ne_H_G : gH ≠ gG := by omega
  have ne_H_R : gH ≠ gR := by omega
  have ne_G_R : gG ≠ gR := by omega
  clear KS hgH hgG hgR 
  have H_0 := H.at_ (v := .int .u32 (a : Int)) 0 rfl
  have H_1 := H.at_ (v := .int .i64 p) 1 rfl
  have H_2 := H.at_ (v := .slice A n c) 2 rfl
  have H_3 := H.at_ (v := .int .i64 sh) 3 rfl
  have H_4 := H.at_ (v := .int .i64 wo) 4 rfl
  have H_5 := H.at_ (v := .int .i64 qu) 5 rfl
  have H_6 := H.at_ (v := .int .i64 tr) 6 rfl
  have H_z := H.lt
  have G_0 := G.at_ (v := .int .i64 1) 0 rfl
  have G_1 := G.at_ (v := .int .u32 (X : Int)) 1 rfl
  have G_2 := G.at_ (v := .slice C q f) 2 rfl
  have G_z := G.lt
  go_wp2_with fail
  refine (rcheck_is (k := 1) hM h hn hy hq hX hw he.out).mono ?_
  rintro e w2 ⟨rfl, K'⟩
  clear H_0 H_1 H_2 H_3 H_4 H_5 H_6 H_z
  clear G_0 G_1 G_2 G_z
  replace H := H.below K'
  replace G := G.below K'
  replace R := R.below K'
  replace h := h.below K'
  replace hs := hs.below K'
  replace hy := hy.below K'
  replace K := Below.then_ K K'
  clear K'
  have H_0 := H.at_ (v := .int .u32 (a : Int)) 0 rfl
  have H_1 := H.at_ (v := .int .i64 p) 1 rfl
  have H_2 := H.at_ (v := .slice A n c) 2 rfl
  have H_3 := H.at_ (v := .int .i64 sh) 3 rfl
  have H_4 := H.at_ (v := .int .i64 wo) 4 rfl
  have H_5 := H.at_ (v := .int .i64 qu) 5 rfl
  have H_6 := H.at_ (v := .int .i64 tr) 6 rfl
  have H_z := H.lt
  have G_0 := G.at_ (v := .int .i64 1) 0 rfl
  have G_1 := G.at_ (v := .int .u32 (X : Int)) 1 rfl
  have G_2 := G.at_ (v := .slice C q f) 2 rfl
  have G_z := G.lt
  go_wp2_with fail
  refine ((TO_ _).out).mono ?_
  rintro e w3 ⟨rfl, K'⟩
  clear H_0 H_1 H_2 H_3 H_4 H_5 H_6 H_z
  clear G_0 G_1 G_2 G_z
  replace H := H.below K'
  replace G := G.below K'
  replace R := R.below K'
  replace h := h.below K'
  replace hs := hs.below K'
  replace hy := hy.below K'
  replace K := Below.then_ K K'
  clear K'
  go_wp2_with fail
  refine (TH_ _ hs).out.mono ?_
  rintro e _ ⟨rfl, rfl⟩
  clear TO_ TH_ he
  have G_0 := G.at_ (v := .int .i64 1) 0 rfl
  have G_1 := G.at_ (v := .int .u32 (X : Int)) 1 rfl
  have G_2 := G.at_ (v := .slice C q f) 2 rfl
  have G_z := G.lt
  go_wp2
  clear G_0 G_1 G_2 G_z
  go_loopw [12] (fun i wr => ∃ r : Nat, r ≤ M ∧ i = .int .i64 r ∧ Hid (∀ i, i < r → fr zs xs i = false) ∧ Below w3.heap.size w3 wr) (fun i _ => M - (intOf i).toNat)
  case atStart => exact ⟨0, Nat.zero_le _, rfl, Lib.hid (fun i hi => absurd hi (by omega)), Below.refl _ _⟩
  case round =>
    obtain ⟨r, hk, rfl, HN, Kr⟩ := hrel
    replace H := H.below Kr
    replace G := G.below Kr
    replace R := R.below Kr
    replace h := h.below Kr
    replace hs := hs.below Kr
    replace hy := hy.below Kr
    replace K := Below.then_ K Kr
    have H_0 := H.at_ (v := .int .u32 (a : Int)) 0 rfl
    have H_1 := H.at_ (v := .int .i64 p) 1 rfl
    have H_2 := H.at_ (v := .slice A n c) 2 rfl
    have H_3 := H.at_ (v := .int .i64 sh) 3 rfl
    have H_4 := H.at_ (v := .int .i64 wo) 4 rfl
    have H_5 := H.at_ (v := .int .i64 qu) 5 rfl
    have H_6 := H.at_ (v := .int .i64 tr) 6 rfl
    have H_z := H.lt
    go_wp2_with fail
    refine (rmany_yes hM).mono ?_
    rintro e w4 ⟨rfl, K'⟩
    clear H_0 H_1 H_2 H_3 H_4 H_5 H_6 H_z
    replace H := H.below K'
    replace G := G.below K'
    replace R := R.below K'
    replace h := h.below K'
    replace hs := hs.below K'
    replace hy := hy.below K'
    replace Kr := Below.then_ Kr K'
    replace K := Below.then_ K K'
    clear K'
    by_cases hlt : r < M
    · obtain ⟨Y, hY⟩ : ∃ Y : Nat, a + r = Y := ⟨_, rfl⟩
      have t1 : IntKind.u32.wrap (r : Int) = (r : Int) := by simp [IntKind.wrap, IntKind.bits, IntKind.signed]; omega
      have t2 : IntKind.u32.wrap ((a : Int) + (r : Int)) = (Y : Int) := by simp [IntKind.wrap, IntKind.bits, IntKind.signed]; omega
      have hYb : Y < 4294967296 := by omega
      replace hY := Lib.hid hY
      have H_0 := H.at_ (v := .int .u32 (a : Int)) 0 rfl
      have H_1 := H.at_ (v := .int .i64 p) 1 rfl
      have H_2 := H.at_ (v := .slice A n c) 2 rfl
      have H_3 := H.at_ (v := .int .i64 sh) 3 rfl
      have H_4 := H.at_ (v := .int .i64 wo) 4 rfl
      have H_5 := H.at_ (v := .int .i64 qu) 5 rfl
      have H_6 := H.at_ (v := .int .i64 tr) 6 rfl
      have H_z := H.lt
      go_upto_region 12 with (first | (refine wpList_store_row rfl 34 (.tmp 13) (.tmp 58) rfl _ _ rfl (show _ = Value.agg #[.int .i64 0, .int .u32 (Y : Int), .bool false, .slice none 0 0, .slice none 0 0] from rfl) _ _ (Bk.new _ _ _) an_sz rfl (by simp [Value.oneCell']) ?_))
      try rw [World.setRow_alloc_new]
      clear H_0 H_1 H_2 H_3 H_4 H_5 H_6 H_z
      have KS := K.size
      have H_l := H.lt
      have G_l := G.lt
      have R_l := R.lt
      replace H := H.alloc (.cells #[.int .i64 0, .int .u32 (Y : Int), .bool false, .slice none 0 0, .slice none 0 0] 34)
      replace G := G.alloc (.cells #[.int .i64 0, .int .u32 (Y : Int), .bool false, .slice none 0 0, .slice none 0 0] 34)
      replace R := R.alloc (.cells #[.int .i64 0, .int .u32 (Y : Int), .bool false, .slice none 0 0, .slice none 0 0] 34)
      replace h := h.below (below_alloc _ (.cells #[.int .i64 0, .int .u32 (Y : Int), .bool false, .slice none 0 0, .slice none 0 0] 34))
      replace hs := hs.below (below_alloc _ (.cells #[.int .i64 0, .int .u32 (Y : Int), .bool false, .slice none 0 0, .slice none 0 0] 34))
      replace hy := hy.below (below_alloc _ (.cells #[.int .i64 0, .int .u32 (Y : Int), .bool false, .slice none 0 0, .slice none 0 0] 34))
      replace Kr := Below.then_ Kr (below_alloc _ (.cells #[.int .i64 0, .int .u32 (Y : Int), .bool false, .slice none 0 0, .slice none 0 0] 34))
      replace K := Below.then_ K (below_alloc _ (.cells #[.int .i64 0, .int .u32 (Y : Int), .bool false, .slice none 0 0, .slice none 0 0] 34))
      have V := Bk.new (w4) #[.int .i64 0, .int .u32 (Y : Int), .bool false, .slice none 0 0, .slice none 0 0] 34
      try simp only [World.size_alloc] at V
      generalize (w4).alloc (.cells #[.int .i64 0, .int .u32 (Y : Int), .bool false, .slice none 0 0, .slice none 0 0] 34) = w5 at H G R V h hs hy Kr K ⊢
      generalize hgV : w4.heap.size = gV at V ⊢
      have V_b : w.heap.size ≤ gV := by omega
      have ne_H_V : gH ≠ gV := by omega
      have ne_G_V : gG ≠ gV := by omega
      have ne_R_V : gR ≠ gV := by omega
      clear KS hgV H_l G_l R_l
      clear t1 t2
      have T := rlegal_any (k := 1) (x := okA (Y : Int)) (P := none) (p1 := 0) (p2 := 0) (Q := none) (q1 := 0) (q2 := 0) (sh := sh) (wo := wo) (qu := qu) (tr := tr) ha hM h hn hs hm hxm.out hX hy hq hw (IS.none_ .u32 0 _) (IS.none_ .i64 0 _) (by omega) (by omega) (show (0 : Int) ≤ (Y : Int) ∧ (Y : Int) < 4294967296 by omega)
      rw [leg_atY hY.out hlt] at T
      cases hf : fr zs xs r with
      | true =>
        rw [if_pos hf] at T
        replace T := Lib.hid T
        have hle := Lib.hid (lea_some hlt hf HN.out)
        replace hf := Lib.hid hf
        have H_0 := H.at_ (v := .int .u32 (a : Int)) 0 rfl
        have H_1 := H.at_ (v := .int .i64 p) 1 rfl
        have H_2 := H.at_ (v := .slice A n c) 2 rfl
        have H_3 := H.at_ (v := .int .i64 sh) 3 rfl
        have H_4 := H.at_ (v := .int .i64 wo) 4 rfl
        have H_5 := H.at_ (v := .int .i64 qu) 5 rfl
        have H_6 := H.at_ (v := .int .i64 tr) 6 rfl
        have H_z := H.lt
        have G_0 := G.at_ (v := .int .i64 1) 0 rfl
        have G_1 := G.at_ (v := .int .u32 (X : Int)) 1 rfl
        have G_2 := G.at_ (v := .slice C q f) 2 rfl
        have G_z := G.lt
        have V_0 := V.at_ (v := .int .i64 0) 0 rfl
        have V_1 := V.at_ (v := .int .u32 (Y : Int)) 1 rfl
        have V_2 := V.at_ (v := .bool false) 2 rfl
        have V_3 := V.at_ (v := .slice none 0 0) 3 rfl
        have V_4 := V.at_ (v := .slice none 0 0) 4 rfl
        have V_z := V.lt
        go_wp2_with fail
        refine T.out.mono ?_
        clear H_0 H_1 H_2 H_3 H_4 H_5 H_6 H_z
        clear G_0 G_1 G_2 G_z
        clear V_0 V_1 V_2 V_3 V_4 V_z
        have R_l := R.lt
        rintro e u6 ⟨SA, Sn, Sc, rfl, S, hav, K'⟩
        have S_R := hav gR R_l (hs0.av_old R_b)
        have hav0 : ∀ g, g < w.heap.size → Av g B m → Av g SA Sn := fun g hg => hav g (Nat.lt_of_lt_of_le hg K.size)
        clear hav R_l T
        clear Kr
        replace H := H.below K'
        replace G := G.below K'
        replace R := R.below K'
        replace V := V.below K'
        replace h := h.below K'
        replace hs := hs.below K'
        replace hy := hy.below K'
        replace K := Below.then_ K K'
        clear K'
        obtain rfl : lf = some r := by rw [← hlf.out, hle.out]
        go_wp2
        refine wp_region_held_drew (S := fun w' => Below w.heap.size w w' ∧ Bk w' gH 27 #[.int .u32 (a : Int), .int .i64 p, .slice A n c, .int .i64 sh, .int .i64 wo, .int .i64 qu, .int .i64 tr] ∧ Bk w' gG 30 #[.int .i64 1, .int .u32 (X : Int), .slice C q f] ∧ (∃ v : Array Value, v.size = 5 ∧ Bk w' gR 34 v) ∧ Bk w' gV 34 #[.int .i64 0, .int .u32 (Y : Int), .bool false, .slice none 0 0, .slice none 0 0] ∧ True) (by kernel_rfl) ⟨K.drew, H.below ((Below.refl _ _).drew), G.below ((Below.refl _ _).drew), ⟨_, rfl, R.below ((Below.refl _ _).drew)⟩, V.below ((Below.refl _ _).drew), trivial⟩ (fun hHeld => ?_)
        replace S := S.below ((Below.refl _ _).drew)
        generalize u6.drew = v7 at hHeld S ⊢
        refine wpAnyH_take (i := 0) (oi := ⟨some 68, _, _, _, _, _⟩) (v := ?_) rfl (by kernel_rfl) (by kernel_rfl) (by kernel_rfl) (fun _ _ _ h => h) (Or.inl ⟨by rfl, ?_⟩) hHeld ?_
        rotate_left
        · intro ww hSw
          try dsimp only at hSw
          go_simp
          try with_reducible rfl
          try omega
        try simp only [Act.put, List.setIfInBounds_toArray, List.set_cons_zero, List.set_cons_succ]
        refine wpAnyH_take (i := 1) (oi := ⟨some 69, _, _, _, _, _⟩) (v := ?_) rfl (by kernel_rfl) (by kernel_rfl) (by kernel_rfl) (fun _ _ _ h => h) (Or.inl ⟨by rfl, ?_⟩) hHeld ?_
        rotate_left
        · intro ww hSw
          try dsimp only at hSw
          have V_0 := (hSw.2.2.2.2.1).at_ (v := .int .i64 0) 0 rfl
          have V_1 := (hSw.2.2.2.2.1).at_ (v := .int .u32 (Y : Int)) 1 rfl
          have V_2 := (hSw.2.2.2.2.1).at_ (v := .bool false) 2 rfl
          have V_3 := (hSw.2.2.2.2.1).at_ (v := .slice none 0 0) 3 rfl
          have V_4 := (hSw.2.2.2.2.1).at_ (v := .slice none 0 0) 4 rfl
          have V_z := (hSw.2.2.2.2.1).lt
          go_simp
          try with_reducible rfl
          try omega
        try simp only [Act.put, List.setIfInBounds_toArray, List.set_cons_zero, List.set_cons_succ]
        refine wpAnyH_take (i := 2) (oi := ⟨some 6, _, _, _, _, _⟩) (v := ?_) rfl (by kernel_rfl) (by kernel_rfl) (by kernel_rfl) (fun _ _ _ h => h) (Or.inl ⟨by rfl, ?_⟩) hHeld ?_
        rotate_left
        · intro ww hSw
          try dsimp only at hSw
          go_simp
          try with_reducible rfl
          try omega
        try simp only [Act.put, List.setIfInBounds_toArray, List.set_cons_zero, List.set_cons_succ]
        refine wpAnyH_ready (rs := [3]) (by kernel_rfl) (by simp) ?_
        refine AllReadyH.cons (o := ⟨none, _, _, _, _, _⟩) rfl (fun K0 hK => ?_) AllReadyH.nil
        rw [if_pos (by rfl)]
        refine wp_store_row 34 (.tmp 7) (.tmp 69) rfl gR _ rfl (show _ = Value.agg #[.int .i64 0, .int .u32 (Y : Int), .bool false, .slice none 0 0, .slice none 0 0] from rfl) _ _ hHeld.2.2.2.1.choose_spec.2 an_sz hHeld.2.2.2.1.choose_spec.1 (by simp [Value.oneCell']) ?_
        have new_R := Bk.row hHeld.2.2.2.1.choose_spec.2 #[.int .i64 0, .int .u32 (Y : Int), .bool false, .slice none 0 0, .slice none 0 0]
        refine hK.out _ _ ⟨below_setRow hHeld.1 R_b _, hHeld.2.1.row_far ne_H_R _, hHeld.2.2.1.row_far ne_G_R _, ⟨_, rfl, new_R⟩, hHeld.2.2.2.2.1.row_far (Ne.symm ne_R_V) _, trivial⟩ (fun hHeld' => ?_)
        replace S := S.row_av S_R #[.int .i64 0, .int .u32 (Y : Int), .bool false, .slice none 0 0, .slice none 0 0]
        clear hHeld hK K0
        have hHeld := hHeld'
        clear hHeld'
        generalize v7.setRow gR #[.int .i64 0, .int .u32 (Y : Int), .bool false, .slice none 0 0, .slice none 0 0] = v8 at hHeld new_R S ⊢
        try simp only [Act.put]
        refine wpAnyH_done (by kernel_rfl) ?_ _
        replace K := hHeld.1
        replace H := hHeld.2.1
        replace G := hHeld.2.2.1
        replace R := new_R
        clear new_R
        replace V := hHeld.2.2.2.2.1
        clear hHeld
        replace h := h0.below K
        replace hs := hs0.below K
        replace hy := hy0.below K
        go_wp2
        refine bodyPost_ret (v := .tuple #[.slice SA Sn Sc, .agg #[.int .i64 0, .int .u32 (Y : Int), .bool false, .slice none 0 0, .slice none 0 0]]) ?_ rfl ?_
        · exact results_tc (fn := Tryd.f16) Tryd.results16 _ _ gR _ _ (0, 0) _ rfl R Tryd.underlying34 rfl an_sz
        exact (by have e := hY.out; subst e; exact ⟨_, _, _, _, _, _, _, _, _, rfl, S, hav0, IS.none_ _ _ _, IS.none_ _ _ _, K⟩)
      | false =>
        rw [if_neg (by simp [hf])] at T
        replace T := Lib.hid T
        have HN2 : Hid (∀ i, i < r + 1 → fr zs xs i = false) := Lib.hid (fun i hi => by
          rcases Nat.lt_or_ge i r with g | g
          · exact HN.out i g
          · obtain rfl : i = r := by omega
            exact hf)
        replace hf := Lib.hid hf
        have H_0 := H.at_ (v := .int .u32 (a : Int)) 0 rfl
        have H_1 := H.at_ (v := .int .i64 p) 1 rfl
        have H_2 := H.at_ (v := .slice A n c) 2 rfl
        have H_3 := H.at_ (v := .int .i64 sh) 3 rfl
        have H_4 := H.at_ (v := .int .i64 wo) 4 rfl
        have H_5 := H.at_ (v := .int .i64 qu) 5 rfl
        have H_6 := H.at_ (v := .int .i64 tr) 6 rfl
        have H_z := H.lt
        have G_0 := G.at_ (v := .int .i64 1) 0 rfl
        have G_1 := G.at_ (v := .int .u32 (X : Int)) 1 rfl
        have G_2 := G.at_ (v := .slice C q f) 2 rfl
        have G_z := G.lt
        have V_0 := V.at_ (v := .int .i64 0) 0 rfl
        have V_1 := V.at_ (v := .int .u32 (Y : Int)) 1 rfl
        have V_2 := V.at_ (v := .bool false) 2 rfl
        have V_3 := V.at_ (v := .slice none 0 0) 3 rfl
        have V_4 := V.at_ (v := .slice none 0 0) 4 rfl
        have V_z := V.lt
        go_wp2_with fail
        refine T.out.mono ?_
        clear H_0 H_1 H_2 H_3 H_4 H_5 H_6 H_z
        clear G_0 G_1 G_2 G_z
        clear V_0 V_1 V_2 V_3 V_4 V_z
        rintro e u6 ⟨SA, Sn, Sc, rfl, S, hav, K'⟩
        replace Kr := Below.then_ Kr K'
        clear hav S T
        go_wp2
        go_roundw
        case rel => exact ⟨r + 1, by omega, by go_num, HN2, Kr⟩
        case measure => simp [intOf]; omega
    · obtain rfl : r = M := by omega
      have hle := Lib.hid (lea_none HN.out)
      obtain rfl : lf = none := by rw [← hlf.out, hle.out]
      clear Kr
      go_wp2_with (refine wpList_store_row rfl 34 (.tmp 7) (.tmp 71) rfl gR _ rfl (show _ = Value.agg #[.int .i64 9, .int .u32 0, .bool false, .slice none 0 0, .slice none 0 0] from rfl) _ _ R an_sz rfl (by simp [Value.oneCell']) ?_)
      replace H := H.row_far ne_H_R #[.int .i64 9, .int .u32 0, .bool false, .slice none 0 0, .slice none 0 0]
      replace G := G.row_far ne_G_R #[.int .i64 9, .int .u32 0, .bool false, .slice none 0 0, .slice none 0 0]
      replace R := R.row #[.int .i64 9, .int .u32 0, .bool false, .slice none 0 0, .slice none 0 0]
      replace K := below_setRow K R_b #[.int .i64 9, .int .u32 0, .bool false, .slice none 0 0, .slice none 0 0]
      replace h := h0.below K
      replace hs := hs0.below K
      replace hy := hy0.below K
      generalize w4.setRow gR #[.int .i64 9, .int .u32 0, .bool false, .slice none 0 0, .slice none 0 0] = w5 at H G R h hs hy K ⊢
      refine bodyPost_ret (v := .tuple #[.slice B m d, .agg #[.int .i64 9, .int .u32 0, .bool false, .slice none 0 0, .slice none 0 0]]) ?_ rfl ?_
      · exact results_tc (fn := Tryd.f16) Tryd.results16 _ _ gR _ _ (0, 0) _ rfl R Tryd.underlying34 rfl an_sz
      exact ⟨_, _, _, _, _, _, _, _, _, rfl, hs.lower (Nat.zero_le _), (fun _ _ h => h), IS.none_ _ _ _, IS.none_ _ _ _, K⟩
set_option maxRecDepth 100000 in
set_option maxHeartbeats 4000000 in
theorem rsome_4 (ha : a < 4294967296) (hM : Much a p M) (h0 : IS .i64 lo w A n c zs) (hn : n ≤ 65536) (hs0 : IS .i64 lo2 w B m d xs) (hm : m ≤ 60000) (hx : mayR M zs 0 xs = true) (hX : X < 4294967296) (hy0 : IS .u32 lo3 w C q f ys) (hq : q ≤ 60000) (hw : W32 ys) (he : askE a M zs 4 X ys = 0)  :
    Calls Tryd.prog 16 #[.agg #[.int .u32 (a : Int), .int .i64 p, .slice A n c, .int .i64 sh, .int .i64 wo, .int .i64 qu, .int .i64 tr], .slice B m d, .agg #[.int .i64 4, .int .u32 (X : Int), .slice C q f]] w (RetSA B m (batS a M xs ys) (0, 0, false, [], batE a M xs ys) w) := by
  obtain ⟨hr_, hb_⟩ := mayR_iff.1 hx
  have hr := Lib.hid hr_
  have hMm := hM.most
  have hb2 : Hid (∀ x ∈ xs, 0 ≤ x ∧ x ≤ 65536) := Lib.hid (fun x hx => ⟨(hb_ x hx).1, by have := (hb_ x hx).2.1; omega⟩)
  clear hr_ hb_ hx
  obtain ⟨i0, hi, hz0, hz1, hz2⟩ := info_parts errno_info
  have hl := Lib.hid hy0.len
  have hml := hs0.len
  replace hw := Lib.hid hw
  have RS : ∀ k, Hid (Ris (batS a M xs (ys.take k))) := fun k => Lib.hid (batS_ris _ hr.out)
  have RL : ∀ k, Hid ((batS a M xs (ys.take k)).length ≤ m) := fun k => Lib.hid (by rw [← hml]; exact batS_len _)
  replace he := Lib.hid he
  obtain ⟨v_, hv_⟩ : ∃ v_, ofO a M X = v_ := ⟨_, rfl⟩
  obtain ⟨u_, hu_⟩ : ∃ u_, hasB xs v_ = u_ := ⟨_, rfl⟩
  have TO_ := fun w => Lib.hid (show Calls _ _ _ _ _ from by have T := roffset_any (w := w) X hX hM; rw [hv_] at T; exact T)
  have TH_ := fun w (hs : IS .i64 lo2 w B m d xs) => Lib.hid (show Calls _ _ _ _ _ from by have T := rhas9_any hs (by omega) v_; rw [hu_] at T; exact T)
  clear hv_ hu_
  have h := h0
  have hs := hs0
  have hy := hy0
  have K := Below.refl w.heap.size w
  go_enter Tryd.func16, Tryd.ntmps16
  go_upto_region 1 with (fail)
  have KS := K.size
  replace h := h.below (below_alloc _ (.cells #[.int .u32 (a : Int), .int .i64 p, .slice A n c, .int .i64 sh, .int .i64 wo, .int .i64 qu, .int .i64 tr] 27))
  replace hs := hs.below (below_alloc _ (.cells #[.int .u32 (a : Int), .int .i64 p, .slice A n c, .int .i64 sh, .int .i64 wo, .int .i64 qu, .int .i64 tr] 27))
  replace hy := hy.below (below_alloc _ (.cells #[.int .u32 (a : Int), .int .i64 p, .slice A n c, .int .i64 sh, .int .i64 wo, .int .i64 qu, .int .i64 tr] 27))
  replace K := Below.then_ K (below_alloc _ (.cells #[.int .u32 (a : Int), .int .i64 p, .slice A n c, .int .i64 sh, .int .i64 wo, .int .i64 qu, .int .i64 tr] 27))
  have H := Bk.new (w) #[.int .u32 (a : Int), .int .i64 p, .slice A n c, .int .i64 sh, .int .i64 wo, .int .i64 qu, .int .i64 tr] 27
  replace H := H.alloc (.cells #[.int .i64 4, .int .u32 (X : Int), .slice C q f] 30)
  replace h := h.below (below_alloc _ (.cells #[.int .i64 4, .int .u32 (X : Int), .slice C q f] 30))
  replace hs := hs.below (below_alloc _ (.cells #[.int .i64 4, .int .u32 (X : Int), .slice C q f] 30))
  replace hy := hy.below (below_alloc _ (.cells #[.int .i64 4, .int .u32 (X : Int), .slice C q f] 30))
  replace K := Below.then_ K (below_alloc _ (.cells #[.int .i64 4, .int .u32 (X : Int), .slice C q f] 30))
  have G := Bk.new ((w).alloc (.cells #[.int .u32 (a : Int), .int .i64 p, .slice A n c, .int .i64 sh, .int .i64 wo, .int .i64 qu, .int .i64 tr] 27)) #[.int .i64 4, .int .u32 (X : Int), .slice C q f] 30
  replace H := H.alloc (.cells #[.int .i64 0, .int .u32 0, .bool false, .slice none 0 0, .slice none 0 0] 34)
  replace G := G.alloc (.cells #[.int .i64 0, .int .u32 0, .bool false, .slice none 0 0, .slice none 0 0] 34)
  replace h := h.below (below_alloc _ (.cells #[.int .i64 0, .int .u32 0, .bool false, .slice none 0 0, .slice none 0 0] 34))
  replace hs := hs.below (below_alloc _ (.cells #[.int .i64 0, .int .u32 0, .bool false, .slice none 0 0, .slice none 0 0] 34))
  replace hy := hy.below (below_alloc _ (.cells #[.int .i64 0, .int .u32 0, .bool false, .slice none 0 0, .slice none 0 0] 34))
  replace K := Below.then_ K (below_alloc _ (.cells #[.int .i64 0, .int .u32 0, .bool false, .slice none 0 0, .slice none 0 0] 34))
  have R := Bk.new (((w).alloc (.cells #[.int .u32 (a : Int), .int .i64 p, .slice A n c, .int .i64 sh, .int .i64 wo, .int .i64 qu, .int .i64 tr] 27)).alloc (.cells #[.int .i64 4, .int .u32 (X : Int), .slice C q f] 30)) #[.int .i64 0, .int .u32 0, .bool false, .slice none 0 0, .slice none 0 0] 34
  try simp only [World.size_alloc] at H G R
  generalize (((w).alloc (.cells #[.int .u32 (a : Int), .int .i64 p, .slice A n c, .int .i64 sh, .int .i64 wo, .int .i64 qu, .int .i64 tr] 27)).alloc (.cells #[.int .i64 4, .int .u32 (X : Int), .slice C q f] 30)).alloc (.cells #[.int .i64 0, .int .u32 0, .bool false, .slice none 0 0, .slice none 0 0] 34) = w1 at H G R h hs hy K ⊢
  generalize hgR : w.heap.size + 1 + 1 = gR at H G R ⊢
  generalize hgG : w.heap.size + 1 = gG at H G R ⊢
  generalize hgH : w.heap.size = gH at H G R ⊢
  have H_b : w.heap.size ≤ gH := by omega
  have G_b : w.heap.size ≤ gG := by omega
  have R_b : w.heap.size ≤ gR := by omega
  have ne_H_G : gH ≠ gG := by omega
  have ne_H_R : gH ≠ gR := by omega
  have ne_G_R : gG ≠ gR := by omega
  clear KS hgH hgG hgR 
  have H_0 := H.at_ (v := .int .u32 (a : Int)) 0 rfl
  have H_1 := H.at_ (v := .int .i64 p) 1 rfl
  have H_2 := H.at_ (v := .slice A n c) 2 rfl
  have H_3 := H.at_ (v := .int .i64 sh) 3 rfl
  have H_4 := H.at_ (v := .int .i64 wo) 4 rfl
  have H_5 := H.at_ (v := .int .i64 qu) 5 rfl
  have H_6 := H.at_ (v := .int .i64 tr) 6 rfl
  have H_z := H.lt
  have G_0 := G.at_ (v := .int .i64 4) 0 rfl
  have G_1 := G.at_ (v := .int .u32 (X : Int)) 1 rfl
  have G_2 := G.at_ (v := .slice C q f) 2 rfl
  have G_z := G.lt
  go_wp2_with fail
  refine (rcheck_is (k := 4) hM h hn hy hq hX hw he.out).mono ?_
  rintro e w2 ⟨rfl, K'⟩
  clear H_0 H_1 H_2 H_3 H_4 H_5 H_6 H_z
  clear G_0 G_1 G_2 G_z
  replace H := H.below K'
  replace G := G.below K'
  replace R := R.below K'
  replace h := h.below K'
  replace hs := hs.below K'
  replace hy := hy.below K'
  replace K := Below.then_ K K'
  clear K'
  have H_0 := H.at_ (v := .int .u32 (a : Int)) 0 rfl
  have H_1 := H.at_ (v := .int .i64 p) 1 rfl
  have H_2 := H.at_ (v := .slice A n c) 2 rfl
  have H_3 := H.at_ (v := .int .i64 sh) 3 rfl
  have H_4 := H.at_ (v := .int .i64 wo) 4 rfl
  have H_5 := H.at_ (v := .int .i64 qu) 5 rfl
  have H_6 := H.at_ (v := .int .i64 tr) 6 rfl
  have H_z := H.lt
  have G_0 := G.at_ (v := .int .i64 4) 0 rfl
  have G_1 := G.at_ (v := .int .u32 (X : Int)) 1 rfl
  have G_2 := G.at_ (v := .slice C q f) 2 rfl
  have G_z := G.lt
  go_wp2_with fail
  refine ((TO_ _).out).mono ?_
  rintro e w3 ⟨rfl, K'⟩
  clear H_0 H_1 H_2 H_3 H_4 H_5 H_6 H_z
  clear G_0 G_1 G_2 G_z
  replace H := H.below K'
  replace G := G.below K'
  replace R := R.below K'
  replace h := h.below K'
  replace hs := hs.below K'
  replace hy := hy.below K'
  replace K := Below.then_ K K'
  clear K'
  go_wp2_with fail
  refine (TH_ _ hs).out.mono ?_
  rintro e _ ⟨rfl, rfl⟩
  clear TO_ TH_ he
  have G_0 := G.at_ (v := .int .i64 4) 0 rfl
  have G_1 := G.at_ (v := .int .u32 (X : Int)) 1 rfl
  have G_2 := G.at_ (v := .slice C q f) 2 rfl
  have G_z := G.lt
  go_wp2
  clear G_0 G_1 G_2 G_z
  have KW := K.size
  have H_lW := H.lt
  have G_lW := G.lt
  have R_lW := R.lt
  go_loopw [16, 17, 18] (fun l s i wr => ∃ (r n1 c1 e1 : Nat) (S L : Option Addr), r ≤ q ∧ i = .int .i64 r ∧ s = .slice S n1 c1 ∧ l = .slice L r e1 ∧ Hid (IS .i64 0 wr S n1 c1 (batS a M xs (ys.take r))) ∧ Hid (OwnAv (.slice L r e1) S n1) ∧ Hid (∀ g, g < w3.heap.size → Av g B m → Av g S n1) ∧ Hid (Ri .i64 31 wr w3.heap.size (.slice L r e1) r (batE a M xs (ys.take r))) ∧ Below w3.heap.size w3 wr) (fun _ _ i _ => q - (intOf i).toNat)
  case atStart => exact ⟨0, m, d, 0, B, none, Nat.zero_le _, rfl, rfl, rfl, Lib.hid (hs.lower (Nat.zero_le _)), Lib.hid (OwnAv.nil_ _ _), Lib.hid (fun _ _ h => h), Lib.hid (Ri.nil _ _), Below.refl _ _⟩
  case round =>
    obtain ⟨r, n1, c1, e1, S_, L, hk, rfl, rfl, rfl, HI, HV, HO, HR, Kr⟩ := hrel
    replace H := H.below Kr
    replace G := G.below Kr
    replace R := R.below Kr
    replace h := h.below Kr
    replace hs := hs.below Kr
    replace hy := hy.below Kr
    replace K := Below.then_ K Kr
    clear hs
    have G_0 := G.at_ (v := .int .i64 4) 0 rfl
    have G_1 := G.at_ (v := .int .u32 (X : Int)) 1 rfl
    have G_2 := G.at_ (v := .slice C q f) 2 rfl
    have G_z := G.lt
    by_cases hlt : r < q
    clear G_0 G_1 G_2 G_z
    · obtain ⟨y, hy1, hyb⟩ := hw.out.at_ (k := r) (by have := hl.out; omega)
      obtain ⟨b, o, rfl, _, _⟩ := hy.get hlt
      obtain ⟨v, hv⟩ : ∃ v, ofO a M y = v := ⟨_, rfl⟩
      obtain ⟨u, hu⟩ : ∃ u, hasB (batS a M xs (ys.take r)) v = u := ⟨_, rfl⟩
      have htk : Hid (batS a M xs (ys.take (r + 1)) = del (batS a M xs (ys.take r)) v) := Lib.hid (by have := batS_take (a := a) (M := M) (xs := xs) (ys := ys) (k := r) (by have := hl.out; omega); rw [hy1, show ((y : Int)).toNat = y from rfl, hv] at this; exact this)
      have hte : Hid (batE a M xs (ys.take (r + 1)) = batE a M xs (ys.take r) ++ [if u = true then 0 else 6]) := Lib.hid (by rw [take_gi (by have := hl.out; omega), batE_snoc, hy1, show ((y : Int)).toNat = y from rfl, hv]; unfold reE; rw [hu])
      have hn1 : n1 ≤ 60000 := by have h1 := (RL r).out; have h2 := HI.out.len; omega
      have TO := fun w => Lib.hid (show Calls _ _ _ _ _ from by have T := roffset_any (w := w) y hyb hM; rw [hv] at T; exact T)
      have TH := fun w (hs : IS .i64 0 w S_ n1 c1 (batS a M xs (ys.take r))) => Lib.hid (show Calls _ _ _ _ _ from by have T := rhas9_any hs (by omega) v; rw [hu] at T; exact T)
      replace hv := Lib.hid hv
      replace hy1 := Lib.hid hy1
      replace HI := HI.out
      replace HR := HR.out
      have G_0 := G.at_ (v := .int .i64 4) 0 rfl
      have G_1 := G.at_ (v := .int .u32 (X : Int)) 1 rfl
      have G_2 := G.at_ (v := .slice (some ⟨b, o, none⟩) q f) 2 rfl
      have G_z := G.lt
      go_wp2
      clear G_0 G_1 G_2 G_z
      refine wp_region_held_drew (S := fun w' => Below w.heap.size w w' ∧ Bk w' gH 27 #[.int .u32 (a : Int), .int .i64 p, .slice A n c, .int .i64 sh, .int .i64 wo, .int .i64 qu, .int .i64 tr] ∧ Bk w' gG 30 #[.int .i64 4, .int .u32 (X : Int), .slice (some ⟨b, o, none⟩) q f] ∧ Bk w' gR 34 #[.int .i64 0, .int .u32 0, .bool false, .slice none 0 0, .slice none 0 0] ∧ True) (by kernel_rfl) ⟨K.drew, H.below ((Below.refl _ _).drew), G.below ((Below.refl _ _).drew), R.below ((Below.refl _ _).drew), trivial⟩ (fun hHeld => ?_)
      replace HI := HI.below ((Below.refl _ _).drew)
      replace HR := HR.below ((Below.refl _ _).drew)
      replace Kr := Below.then_ Kr ((Below.refl _ _).drew)
      generalize wr.drew = v4 at hHeld HI HR Kr ⊢
      refine wpAnyH_take (i := 0) (oi := ⟨some 104, _, _, _, _, _⟩) (v := ?_) rfl (by kernel_rfl) (by kernel_rfl) (by kernel_rfl) (fun _ _ _ h => h) (Or.inl ⟨by rfl, ?_⟩) hHeld ?_
      rotate_left
      · intro ww hSw
        try dsimp only at hSw
        go_simp
        try with_reducible rfl
        try omega
      try simp only [Act.put, List.setIfInBounds_toArray, List.set_cons_zero, List.set_cons_succ]
      refine wpAnyH_take (i := 1) (oi := ⟨some 105, _, _, _, _, _⟩) (v := ?_) rfl (by kernel_rfl) (by kernel_rfl) (by kernel_rfl) (fun _ _ _ h => h) (Or.inl ⟨by rfl, ?_⟩) hHeld ?_
      rotate_left
      · intro ww hSw
        try dsimp only at hSw
        have H_0 := (hSw.2.1).at_ (v := .int .u32 (a : Int)) 0 rfl
        have H_1 := (hSw.2.1).at_ (v := .int .i64 p) 1 rfl
        have H_2 := (hSw.2.1).at_ (v := .slice A n c) 2 rfl
        have H_3 := (hSw.2.1).at_ (v := .int .i64 sh) 3 rfl
        have H_4 := (hSw.2.1).at_ (v := .int .i64 wo) 4 rfl
        have H_5 := (hSw.2.1).at_ (v := .int .i64 qu) 5 rfl
        have H_6 := (hSw.2.1).at_ (v := .int .i64 tr) 6 rfl
        have H_z := (hSw.2.1).lt
        have G_0 := (hSw.2.2.1).at_ (v := .int .i64 4) 0 rfl
        have G_1 := (hSw.2.2.1).at_ (v := .int .u32 (X : Int)) 1 rfl
        have G_2 := (hSw.2.2.1).at_ (v := .slice (some ⟨b, o, none⟩) q f) 2 rfl
        have G_z := (hSw.2.2.1).lt
        have hce := (hy0.below hSw.1).here (j := r) hlt
        rw [hy1.out] at hce
        go_simp
        try with_reducible rfl
        try omega
      try simp only [Act.put, List.setIfInBounds_toArray, List.set_cons_zero, List.set_cons_succ]
      refine wpAnyH_take (i := 2) (oi := ⟨some 106, _, _, _, _, _⟩) (v := ?_) rfl (by kernel_rfl) (by kernel_rfl) (by kernel_rfl) (fun _ _ _ h => h) (Or.inl ⟨by rfl, ?_⟩) hHeld ?_
      rotate_left
      · intro ww hSw
        try dsimp only at hSw
        go_simp
        try with_reducible rfl
        try omega
      try simp only [Act.put, List.setIfInBounds_toArray, List.set_cons_zero, List.set_cons_succ]
      refine wpAnyH_take (i := 3) (oi := ⟨some 107, _, _, _, _, _⟩) (v := ?_) rfl (by kernel_rfl) (by kernel_rfl) (by kernel_rfl) (fun _ _ _ h => h) (Or.inl ⟨by rfl, ?_⟩) hHeld ?_
      rotate_left
      · intro ww hSw
        try dsimp only at hSw
        have H_0 := (hSw.2.1).at_ (v := .int .u32 (a : Int)) 0 rfl
        have H_1 := (hSw.2.1).at_ (v := .int .i64 p) 1 rfl
        have H_2 := (hSw.2.1).at_ (v := .slice A n c) 2 rfl
        have H_3 := (hSw.2.1).at_ (v := .int .i64 sh) 3 rfl
        have H_4 := (hSw.2.1).at_ (v := .int .i64 wo) 4 rfl
        have H_5 := (hSw.2.1).at_ (v := .int .i64 qu) 5 rfl
        have H_6 := (hSw.2.1).at_ (v := .int .i64 tr) 6 rfl
        have H_z := (hSw.2.1).lt
        have G_0 := (hSw.2.2.1).at_ (v := .int .i64 4) 0 rfl
        have G_1 := (hSw.2.2.1).at_ (v := .int .u32 (X : Int)) 1 rfl
        have G_2 := (hSw.2.2.1).at_ (v := .slice (some ⟨b, o, none⟩) q f) 2 rfl
        have G_z := (hSw.2.2.1).lt
        have hce := (hy0.below hSw.1).here (j := r) hlt
        rw [hy1.out] at hce
        go_simp
        try with_reducible rfl
        try omega
      try simp only [Act.put, List.setIfInBounds_toArray, List.set_cons_zero, List.set_cons_succ]
      refine wpAnyH_take (i := 4) (oi := ⟨some 108, _, _, _, _, _⟩) (v := ?_) rfl (by kernel_rfl) (by kernel_rfl) (by kernel_rfl) (fun _ _ _ h => h) (Or.inl ⟨by rfl, ?_⟩) hHeld ?_
      rotate_left
      · intro ww hSw
        try dsimp only at hSw
        go_simp
        try with_reducible rfl
        try omega
      try simp only [Act.put, List.setIfInBounds_toArray, List.set_cons_zero, List.set_cons_succ]
      refine wpAnyH_take (i := 5) (oi := ⟨some 109, _, _, _, _, _⟩) (v := ?_) rfl (by kernel_rfl) (by kernel_rfl) (by kernel_rfl) (fun _ _ _ h => h) (Or.inl ⟨by rfl, ?_⟩) hHeld ?_
      rotate_left
      · intro ww hSw
        try dsimp only at hSw
        go_simp
        try with_reducible rfl
        try omega
      try simp only [Act.put, List.setIfInBounds_toArray, List.set_cons_zero, List.set_cons_succ]
      refine wpAnyH_take (i := 6) (oi := ⟨some 110, _, _, _, _, _⟩) (v := ?_) rfl (by kernel_rfl) (by kernel_rfl) (by kernel_rfl) (fun _ _ _ h => h) (Or.inl ⟨by rfl, ?_⟩) hHeld ?_
      rotate_left
      · intro ww hSw
        try dsimp only at hSw
        have H_0 := (hSw.2.1).at_ (v := .int .u32 (a : Int)) 0 rfl
        have H_1 := (hSw.2.1).at_ (v := .int .i64 p) 1 rfl
        have H_2 := (hSw.2.1).at_ (v := .slice A n c) 2 rfl
        have H_3 := (hSw.2.1).at_ (v := .int .i64 sh) 3 rfl
        have H_4 := (hSw.2.1).at_ (v := .int .i64 wo) 4 rfl
        have H_5 := (hSw.2.1).at_ (v := .int .i64 qu) 5 rfl
        have H_6 := (hSw.2.1).at_ (v := .int .i64 tr) 6 rfl
        have H_z := (hSw.2.1).lt
        have G_0 := (hSw.2.2.1).at_ (v := .int .i64 4) 0 rfl
        have G_1 := (hSw.2.2.1).at_ (v := .int .u32 (X : Int)) 1 rfl
        have G_2 := (hSw.2.2.1).at_ (v := .slice (some ⟨b, o, none⟩) q f) 2 rfl
        have G_z := (hSw.2.2.1).lt
        have hce := (hy0.below hSw.1).here (j := r) hlt
        rw [hy1.out] at hce
        go_simp
        try with_reducible rfl
        try omega
      try simp only [Act.put, List.setIfInBounds_toArray, List.set_cons_zero, List.set_cons_succ]
      refine wpAnyH_ready (rs := [7]) (by kernel_rfl) (by simp) ?_
      refine AllReadyH.cons (o := ⟨some 111, _, _, _, _, _⟩) rfl (fun K0 hK => ?_) AllReadyH.nil
      go_simp
      refine ((TO _).out).mono ?_
      rintro e v5 ⟨rfl, K'⟩
      refine hK.out _ _ ⟨Below.then_ hHeld.1 K', hHeld.2.1.below K', hHeld.2.2.1.below K', hHeld.2.2.2.1.below K', trivial⟩ (fun hHeld' => ?_)
      replace HI := HI.below K'
      replace HR := HR.below K'
      replace Kr := Below.then_ Kr K'
      clear hHeld K' hK K0
      have hHeld := hHeld'
      clear hHeld'
      try simp only [Act.put, List.setIfInBounds_toArray, List.set_cons_zero, List.set_cons_succ]
      refine wpAnyH_take (i := 8) (oi := ⟨some 103, _, _, _, _, _⟩) (v := ?_) rfl (by kernel_rfl) (by kernel_rfl) (by kernel_rfl) (fun _ _ _ h => h) (Or.inl ⟨by rfl, ?_⟩) hHeld ?_
      rotate_left
      · intro ww hSw
        try dsimp only at hSw
        go_simp
        try with_reducible rfl
        try omega
      try simp only [Act.put, List.setIfInBounds_toArray, List.set_cons_zero, List.set_cons_succ]
      refine wpAnyH_take (i := 9) (oi := ⟨some 112, _, _, _, _, _⟩) (v := ?_) rfl (by kernel_rfl) (by kernel_rfl) (by kernel_rfl) (fun _ _ _ h => h) (Or.inl ⟨by rfl, ?_⟩) hHeld ?_
      rotate_left
      · intro ww hSw
        try dsimp only at hSw
        go_simp
        try with_reducible rfl
        try omega
      try simp only [Act.put, List.setIfInBounds_toArray, List.set_cons_zero, List.set_cons_succ]
      refine wpAnyH_take (i := 10) (oi := ⟨some 113, _, _, _, _, _⟩) (v := ?_) rfl (by kernel_rfl) (by kernel_rfl) (by kernel_rfl) (fun _ _ _ h => h) (Or.inl ⟨by rfl, ?_⟩) hHeld ?_
      rotate_left
      · intro ww hSw
        try dsimp only at hSw
        go_simp
        try with_reducible rfl
        try omega
      try simp only [Act.put, List.setIfInBounds_toArray, List.set_cons_zero, List.set_cons_succ]
      refine wpAnyH_take (i := 11) (oi := ⟨some 19, _, _, _, _, _⟩) (v := ?_) rfl (by kernel_rfl) (by kernel_rfl) (by kernel_rfl) (fun _ _ _ h => h) (Or.inl ⟨by rfl, ?_⟩) hHeld ?_
      rotate_left
      · intro ww hSw
        try dsimp only at hSw
        go_simp
        try with_reducible rfl
        try omega
      try simp only [Act.put, List.setIfInBounds_toArray, List.set_cons_zero, List.set_cons_succ]
      refine wpAnyH_take (i := 12) (oi := ⟨some 20, _, _, _, _, _⟩) (v := ?_) rfl (by kernel_rfl) (by kernel_rfl) (by kernel_rfl) (fun _ _ _ h => h) (Or.inl ⟨by rfl, ?_⟩) hHeld ?_
      rotate_left
      · intro ww hSw
        try dsimp only at hSw
        go_simp
        try with_reducible rfl
        try omega
      try simp only [Act.put, List.setIfInBounds_toArray, List.set_cons_zero, List.set_cons_succ]
      refine wpAnyH_done (by kernel_rfl) ?_ _
      replace K := hHeld.1
      replace H := hHeld.2.1
      replace G := hHeld.2.2.1
      replace R := hHeld.2.2.2.1
      clear hHeld
      replace h := h0.below K
      replace hy := hy0.below K
      clear TO
      cases u with
      | true =>
        go_wp2_with fail
        refine (TH _ HI).out.mono ?_
        rintro e _ ⟨rfl, rfl⟩
        clear TH
        obtain ⟨L2, e2, wap, hap, HR2, K5, HI2, HV2⟩ := run_app1k (P := Tryd.prog) (x := 0) Tryd.underlying32 hi hz0 hz1 hz2 HR (by omega) Kr.size 32 HI HV.out
        have HA := Lib.hid hap
        rw [← (show batE a M xs (ys.take (r + 1)) = batE a M xs (ys.take r) ++ [0] from hte.out)] at HR2
        replace Kr := Kr.trans K5
        replace HR2 := Lib.hid HR2
        clear hap HI HR K5 h hy K
        go_wp2_with (at_builtin; refine wpList_append_run rfl (.tmp 117) (.tmp 119) 32 rfl _ _ _ _ rfl rfl HA.out ?_)
        clear HA
        refine (rwithout_new HI2 (by omega) v).mono ?_
        rintro e wap2 ⟨IA, In, Ic, rfl, I, K'⟩
        rw [← htk.out] at I
        have HV3 := HR2.out.av_new I
        have HO3 : Hid (∀ g, g < w3.heap.size → Av g B m → Av g IA In) := Lib.hid (fun g hg _ => I.av (Nat.lt_of_lt_of_le hg Kr.size))
        replace I := I.lower (Nat.zero_le _)
        replace Kr := Below.then_ Kr K'
        have HR3 := HR2.out.below K'
        clear HR2
        go_wp2
        go_roundw
        case rel => exact ⟨r + 1, _, _, _, _, _, by omega, by go_num, rfl, rfl, Lib.hid I, Lib.hid HV3, HO3, Lib.hid HR3, Kr⟩
        case measure => simp [intOf]; omega
      | false =>
        go_wp2_with fail
        refine (TH _ HI).out.mono ?_
        rintro e _ ⟨rfl, rfl⟩
        clear TH
        obtain ⟨L2, e2, wap, hap, HR2, K5, HI2, HV2⟩ := run_app1k (P := Tryd.prog) (x := 6) Tryd.underlying32 hi hz0 hz1 hz2 HR (by omega) Kr.size 32 HI HV.out
        have HA := Lib.hid hap
        rw [← (show batE a M xs (ys.take (r + 1)) = batE a M xs (ys.take r) ++ [6] from hte.out)] at HR2
        replace Kr := Kr.trans K5
        replace HR2 := Lib.hid HR2
        clear hap HI HR K5 h hy K
        go_wp2_with (at_builtin; refine wpList_append_run rfl (.tmp 117) (.tmp 119) 32 rfl _ _ _ _ rfl rfl HA.out ?_)
        clear HA
        refine (rwithout_new HI2 (by omega) v).mono ?_
        rintro e wap2 ⟨IA, In, Ic, rfl, I, K'⟩
        rw [← htk.out] at I
        have HV3 := HR2.out.av_new I
        have HO3 : Hid (∀ g, g < w3.heap.size → Av g B m → Av g IA In) := Lib.hid (fun g hg _ => I.av (Nat.lt_of_lt_of_le hg Kr.size))
        replace I := I.lower (Nat.zero_le _)
        replace Kr := Below.then_ Kr K'
        have HR3 := HR2.out.below K'
        clear HR2
        go_wp2
        go_roundw
        case rel => exact ⟨r + 1, _, _, _, _, _, by omega, by go_num, rfl, rfl, Lib.hid I, Lib.hid HV3, HO3, Lib.hid HR3, Kr⟩
        case measure => simp [intOf]; omega
    · obtain rfl : q = r := by omega
      have E5 := HR.out.is
      have S := HI.out
      rw [List.take_of_length_le (by have := hl.out; omega)] at E5 S
      clear HR HI HV RS RL Kr
      have E5_R := E5.av R_lW
      have S_R := HO.out gR R_lW (hs0.av_old R_b)
      replace E5 := E5.lower KW
      go_wp2_with (refine wpList_store_row rfl 34 (.tmp 7) (.tmp 126) rfl gR _ rfl (show _ = Value.agg #[.int .i64 0, .int .u32 0, .bool false, .slice none 0 0, .slice L q e1] from rfl) _ _ R an_sz rfl (by simp [Value.oneCell']) ?_)
      replace H := H.row_far ne_H_R #[.int .i64 0, .int .u32 0, .bool false, .slice none 0 0, .slice L q e1]
      replace G := G.row_far ne_G_R #[.int .i64 0, .int .u32 0, .bool false, .slice none 0 0, .slice L q e1]
      replace R := R.row #[.int .i64 0, .int .u32 0, .bool false, .slice none 0 0, .slice L q e1]
      replace E5 := E5.row_av E5_R #[.int .i64 0, .int .u32 0, .bool false, .slice none 0 0, .slice L q e1]
      replace S := S.row_av S_R #[.int .i64 0, .int .u32 0, .bool false, .slice none 0 0, .slice L q e1]
      replace K := below_setRow K R_b #[.int .i64 0, .int .u32 0, .bool false, .slice none 0 0, .slice L q e1]
      replace h := h0.below K
      replace hy := hy0.below K
      generalize wr.setRow gR #[.int .i64 0, .int .u32 0, .bool false, .slice none 0 0, .slice L q e1] = w4 at H G R h hy E5 S K ⊢
      refine bodyPost_ret (v := .tuple #[.slice S_ n1 c1, .agg #[.int .i64 0, .int .u32 0, .bool false, .slice none 0 0, .slice L q e1]]) ?_ rfl ?_
      · exact results_tc (fn := Tryd.f16) Tryd.results16 _ _ gR _ _ (0, 0) _ rfl R Tryd.underlying34 rfl an_sz
      exact ⟨_, _, _, _, _, _, _, _, _, rfl, S, (fun g hg => HO.out g (Nat.lt_of_lt_of_le hg KW)), IS.none_ _ _ _, E5, K⟩
theorem rsome_any (ha : a < 4294967296) (hM : Much a p M) (h0 : IS .i64 lo w A n c zs) (hn : n ≤ 65536) (hs0 : IS .i64 lo2 w B m d xs) (hm : m ≤ 60000) (hx : mayR M zs 0 xs = true) (hX : X < 4294967296) (hy0 : IS .u32 lo3 w C q f ys) (hq : q ≤ 60000) (hw : W32 ys) :
    Calls Tryd.prog 16 #[.agg #[.int .u32 (a : Int), .int .i64 p, .slice A n c, .int .i64 sh, .int .i64 wo, .int .i64 qu, .int .i64 tr], .slice B m d, .agg #[.int .i64 k, .int .u32 (X : Int), .slice C q f]] w (RetSA B m (someS a M zs xs k X ys).1 (someS a M zs xs k X ys).2 w) := by
  have hris := (mayR_iff.1 hx).1
  unfold someS
  by_cases he : askE a M zs k X ys = 0
  · rw [if_pos he]
    obtain ⟨k1, k7, -, -⟩ := askE_ok he
    obtain rfl | rfl | rfl | rfl | rfl | rfl | rfl : k = 1 ∨ k = 2 ∨ k = 3 ∨ k = 4 ∨ k = 5 ∨ k = 6 ∨ k = 7 := by omega
    · exact rsome_1 ha hM h0 hn hs0 hm hx hX hy0 hq hw he
    · rw [doS_2]
      cases hb : hasB xs (ofO a M X) with
      | true => simp only [if_true]; exact rsome_2in ha hM h0 hn hs0 hm hx hX hy0 hq hw he rfl hb
      | false => simp only [Bool.false_eq_true, if_false]; exact rsome_2out ha hM h0 hn hs0 hm hx hX hy0 hq hw he rfl hb
    · rw [doS_3]
      unfold reE
      cases hb : hasB xs (ofO a M X) with
      | true => simp only [if_true]; exact rsome_3in ha hM h0 hn hs0 hm hx hX hy0 hq hw he rfl hb
      | false => simp only [Bool.false_eq_true, if_false]; rw [del_out hris hb]; exact rsome_3out ha hM h0 hn hs0 hm hx hX hy0 hq hw he rfl hb
    · rw [doS_4]; exact rsome_4 ha hM h0 hn hs0 hm hx hX hy0 hq hw he
    · rw [doS_5]; exact rsome_5 ha hM h0 hn hs0 hm hx hX hy0 hq hw he rfl
    · rw [doS_6]; exact rsome_6 ha hM h0 hn hs0 hm hx hX hy0 hq hw he
    · rw [doS_7]; exact rsome_7 ha hM h0 hn hs0 hm hx hX hy0 hq hw he
  · rw [if_neg he]
    exact rsome_wrong ha hM h0 hn hs0 hm hx hX hy0 hq hw rfl he
end
end Go.Proofs.YtmakbmmnjbnfiaaDoor
