/-
  What Some answers: the set then, and an answer that is right. Conditions: a configuration and a set that may be; at most 60000 addresses in the request.
-/
import Derived.Test.YtmakbmmnjbnfiaaDoorSpecBatch
namespace Go.Proofs.YtmakbmmnjbnfiaaDoor
open Go.RowKit
set_option linter.unusedVariables false
section
variable {w : World} {lo lo2 lo3 a M m d q f X : Nat} {p sh wo qu tr k : Int} {A B C : Option Addr} {n c : Nat} {zs xs ys : List Int}
set_option maxRecDepth 100000 in
set_option maxHeartbeats 4000000 in
theorem some_wrong (hL0 : Laid w) (ha : a < 4294967296) (hM : Much a p M) (h0 : IS .i64 lo w A n c zs) (hn : n ≤ 65536) (hs0 : IS .i64 lo2 w B m d xs) (hm : m ≤ 60000) (hx : mayR M zs 0 xs = true) (hX : X < 4294967296) (hy0 : IS .u32 lo3 w C q f ys) (hq : q ≤ 60000) (hw : W32 ys) {E : Int} (hE : askE a M zs k X ys = E) (h0E : E ≠ 0) :
    Calls Tryd.prog 15 #[.agg #[.int .u32 (a : Int), .int .i64 p, .slice A n c, .int .i64 sh, .int .i64 wo, .int .i64 qu, .int .i64 tr], .slice B m d, .agg #[.int .i64 k, .int .u32 (X : Int), .slice C q f]] w (RetSA B m xs (an0 E) w) := by
  have hL := hL0
  have h := h0
  have hs := hs0
  have hy := hy0
  have K := Below.refl w.heap.size w
  go_enter Tryd.func15, Tryd.ntmps15
  go_upto_region 1 with (fail)
  have KS := K.size
  replace hL := hL.below (below_alloc _ (.cells #[.int .u32 (a : Int), .int .i64 p, .slice A n c, .int .i64 sh, .int .i64 wo, .int .i64 qu, .int .i64 tr] 27))
  replace h := h.below (below_alloc _ (.cells #[.int .u32 (a : Int), .int .i64 p, .slice A n c, .int .i64 sh, .int .i64 wo, .int .i64 qu, .int .i64 tr] 27))
  replace hs := hs.below (below_alloc _ (.cells #[.int .u32 (a : Int), .int .i64 p, .slice A n c, .int .i64 sh, .int .i64 wo, .int .i64 qu, .int .i64 tr] 27))
  replace hy := hy.below (below_alloc _ (.cells #[.int .u32 (a : Int), .int .i64 p, .slice A n c, .int .i64 sh, .int .i64 wo, .int .i64 qu, .int .i64 tr] 27))
  replace K := Below.then_ K (below_alloc _ (.cells #[.int .u32 (a : Int), .int .i64 p, .slice A n c, .int .i64 sh, .int .i64 wo, .int .i64 qu, .int .i64 tr] 27))
  have H := Bk.new (w) #[.int .u32 (a : Int), .int .i64 p, .slice A n c, .int .i64 sh, .int .i64 wo, .int .i64 qu, .int .i64 tr] 27
  replace H := H.alloc (.cells #[.int .i64 k, .int .u32 (X : Int), .slice C q f] 30)
  replace hL := hL.below (below_alloc _ (.cells #[.int .i64 k, .int .u32 (X : Int), .slice C q f] 30))
  replace h := h.below (below_alloc _ (.cells #[.int .i64 k, .int .u32 (X : Int), .slice C q f] 30))
  replace hs := hs.below (below_alloc _ (.cells #[.int .i64 k, .int .u32 (X : Int), .slice C q f] 30))
  replace hy := hy.below (below_alloc _ (.cells #[.int .i64 k, .int .u32 (X : Int), .slice C q f] 30))
  replace K := Below.then_ K (below_alloc _ (.cells #[.int .i64 k, .int .u32 (X : Int), .slice C q f] 30))
  have G := Bk.new ((w).alloc (.cells #[.int .u32 (a : Int), .int .i64 p, .slice A n c, .int .i64 sh, .int .i64 wo, .int .i64 qu, .int .i64 tr] 27)) #[.int .i64 k, .int .u32 (X : Int), .slice C q f] 30
  replace H := H.alloc (.cells #[.int .i64 0, .int .u32 0, .bool false, .slice none 0 0, .slice none 0 0] 34)
  replace G := G.alloc (.cells #[.int .i64 0, .int .u32 0, .bool false, .slice none 0 0, .slice none 0 0] 34)
  replace hL := hL.below (below_alloc _ (.cells #[.int .i64 0, .int .u32 0, .bool false, .slice none 0 0, .slice none 0 0] 34))
  replace h := h.below (below_alloc _ (.cells #[.int .i64 0, .int .u32 0, .bool false, .slice none 0 0, .slice none 0 0] 34))
  replace hs := hs.below (below_alloc _ (.cells #[.int .i64 0, .int .u32 0, .bool false, .slice none 0 0, .slice none 0 0] 34))
  replace hy := hy.below (below_alloc _ (.cells #[.int .i64 0, .int .u32 0, .bool false, .slice none 0 0, .slice none 0 0] 34))
  replace K := Below.then_ K (below_alloc _ (.cells #[.int .i64 0, .int .u32 0, .bool false, .slice none 0 0, .slice none 0 0] 34))
  have R := Bk.new (((w).alloc (.cells #[.int .u32 (a : Int), .int .i64 p, .slice A n c, .int .i64 sh, .int .i64 wo, .int .i64 qu, .int .i64 tr] 27)).alloc (.cells #[.int .i64 k, .int .u32 (X : Int), .slice C q f] 30)) #[.int .i64 0, .int .u32 0, .bool false, .slice none 0 0, .slice none 0 0] 34
  try simp only [World.size_alloc] at H G R
  generalize (((w).alloc (.cells #[.int .u32 (a : Int), .int .i64 p, .slice A n c, .int .i64 sh, .int .i64 wo, .int .i64 qu, .int .i64 tr] 27)).alloc (.cells #[.int .i64 k, .int .u32 (X : Int), .slice C q f] 30)).alloc (.cells #[.int .i64 0, .int .u32 0, .bool false, .slice none 0 0, .slice none 0 0] 34) = w1 at H G R hL h hs hy K ⊢
  generalize hgR : w.heap.size + 1 + 1 = gR at H G R ⊢
  generalize hgG : w.heap.size + 1 = gG at H G R ⊢
  generalize hgH : w.heap.size = gH at H G R ⊢
  have H_b : w.heap.size ≤ gH := by omega
  have G_b : w.heap.size ≤ gG := by omega
  have R_b : w.heap.size ≤ gR := by omega
  have ne_H_G : gH ≠ gG := by omega
  have ne_H_R : gH ≠ gR := by omega
  have ne_G_R : gG ≠ gR := by omega
  clear KS hgH hgG hgR 
  have e1 : (E != 0) = true := by simp [h0E]
  replace hE := Lib.hid hE
  clear h0E
  have H_0 := H.at_ (v := .int .u32 (a : Int)) 0 rfl
  have H_1 := H.at_ (v := .int .i64 p) 1 rfl
  have H_2 := H.at_ (v := .slice A n c) 2 rfl
  have H_3 := H.at_ (v := .int .i64 sh) 3 rfl
  have H_4 := H.at_ (v := .int .i64 wo) 4 rfl
  have H_5 := H.at_ (v := .int .i64 qu) 5 rfl
  have H_6 := H.at_ (v := .int .i64 tr) 6 rfl
  have H_z := H.lt
  have G_0 := G.at_ (v := .int .i64 k) 0 rfl
  have G_1 := G.at_ (v := .int .u32 (X : Int)) 1 rfl
  have G_2 := G.at_ (v := .slice C q f) 2 rfl
  have G_z := G.lt
  go_wp2_with fail
  refine (check_is (k := k) (X := X) (v := E) hL ha hM h hn hy hq hX hw hE.out).mono ?_
  rintro e w2 ⟨rfl, K'⟩
  clear H_0 H_1 H_2 H_3 H_4 H_5 H_6 H_z
  clear G_0 G_1 G_2 G_z
  replace H := H.below K'
  replace G := G.below K'
  replace R := R.below K'
  replace hL := hL.below K'
  replace h := h.below K'
  replace hs := hs.below K'
  replace hy := hy.below K'
  replace K := Below.then_ K K'
  clear K'
  go_wp2_with (refine wpList_store_row rfl 34 (.tmp 7) (.tmp 16) rfl gR _ rfl (show _ = Value.agg #[.int .i64 E, .int .u32 0, .bool false, .slice none 0 0, .slice none 0 0] from rfl) _ _ R an_sz rfl (by simp [Value.oneCell']) ?_)
  replace H := H.row_far ne_H_R #[.int .i64 E, .int .u32 0, .bool false, .slice none 0 0, .slice none 0 0]
  replace G := G.row_far ne_G_R #[.int .i64 E, .int .u32 0, .bool false, .slice none 0 0, .slice none 0 0]
  replace R := R.row #[.int .i64 E, .int .u32 0, .bool false, .slice none 0 0, .slice none 0 0]
  replace K := below_setRow K R_b #[.int .i64 E, .int .u32 0, .bool false, .slice none 0 0, .slice none 0 0]
  replace hL := hL0.below K
  replace h := h0.below K
  replace hs := hs0.below K
  replace hy := hy0.below K
  generalize w2.setRow gR #[.int .i64 E, .int .u32 0, .bool false, .slice none 0 0, .slice none 0 0] = w3 at H G R hL h hs hy K ⊢
  refine bodyPost_ret (v := .tuple #[.slice B m d, .agg #[.int .i64 E, .int .u32 0, .bool false, .slice none 0 0, .slice none 0 0]]) ?_ rfl ?_
  · exact results_tc (fn := Tryd.f15) Tryd.results15 _ _ gR _ _ (0, 0) _ rfl R Tryd.underlying34 rfl an_sz
  exact ⟨_, _, _, _, _, _, _, _, _, rfl, hs.lower (Nat.zero_le _), (fun _ _ h => h), IS.none_ _ _ _, IS.none_ _ _ _, K⟩
set_option maxRecDepth 100000 in
set_option maxHeartbeats 4000000 in
theorem some_1 (hL0 : Laid w) (ha : a < 4294967296) (hM : Much a p M) (h0 : IS .i64 lo w A n c zs) (hn : n ≤ 65536) (hs0 : IS .i64 lo2 w B m d xs) (hm : m ≤ 60000) (hx : mayR M zs 0 xs = true) (hX : X < 4294967296) (hy0 : IS .u32 lo3 w C q f ys) (hq : q ≤ 60000) (hw : W32 ys) {r : List Int × An} (hE : askE a M zs 1 X ys = 0) (hdo : doS a M zs xs 1 X ys = r) :
    Calls Tryd.prog 15 #[.agg #[.int .u32 (a : Int), .int .i64 p, .slice A n c, .int .i64 sh, .int .i64 wo, .int .i64 qu, .int .i64 tr], .slice B m d, .agg #[.int .i64 1, .int .u32 (X : Int), .slice C q f]] w (RetSA B m r.1 r.2 w) := by
  obtain ⟨hr_, hb_⟩ := mayR_iff.1 hx
  have hr := Lib.hid hr_
  have hMm := hM.most
  have hb1 := Lib.hid (fun x hx => (hb_ x hx).1)
  have hb2 : Hid (∀ x ∈ xs, 0 ≤ x ∧ x ≤ 65536) := Lib.hid (fun x hx => ⟨(hb_ x hx).1, by have := (hb_ x hx).2.1; omega⟩)
  clear hr_ hb_ hx
  replace hE := Lib.hid hE
  replace hdo := Lib.hid hdo
  have hL := hL0
  have h := h0
  have hs := hs0
  have hy := hy0
  have K := Below.refl w.heap.size w
  go_enter Tryd.func15, Tryd.ntmps15
  go_upto_region 1 with (fail)
  have KS := K.size
  replace hL := hL.below (below_alloc _ (.cells #[.int .u32 (a : Int), .int .i64 p, .slice A n c, .int .i64 sh, .int .i64 wo, .int .i64 qu, .int .i64 tr] 27))
  replace h := h.below (below_alloc _ (.cells #[.int .u32 (a : Int), .int .i64 p, .slice A n c, .int .i64 sh, .int .i64 wo, .int .i64 qu, .int .i64 tr] 27))
  replace hs := hs.below (below_alloc _ (.cells #[.int .u32 (a : Int), .int .i64 p, .slice A n c, .int .i64 sh, .int .i64 wo, .int .i64 qu, .int .i64 tr] 27))
  replace hy := hy.below (below_alloc _ (.cells #[.int .u32 (a : Int), .int .i64 p, .slice A n c, .int .i64 sh, .int .i64 wo, .int .i64 qu, .int .i64 tr] 27))
  replace K := Below.then_ K (below_alloc _ (.cells #[.int .u32 (a : Int), .int .i64 p, .slice A n c, .int .i64 sh, .int .i64 wo, .int .i64 qu, .int .i64 tr] 27))
  have H := Bk.new (w) #[.int .u32 (a : Int), .int .i64 p, .slice A n c, .int .i64 sh, .int .i64 wo, .int .i64 qu, .int .i64 tr] 27
  replace H := H.alloc (.cells #[.int .i64 1, .int .u32 (X : Int), .slice C q f] 30)
  replace hL := hL.below (below_alloc _ (.cells #[.int .i64 1, .int .u32 (X : Int), .slice C q f] 30))
  replace h := h.below (below_alloc _ (.cells #[.int .i64 1, .int .u32 (X : Int), .slice C q f] 30))
  replace hs := hs.below (below_alloc _ (.cells #[.int .i64 1, .int .u32 (X : Int), .slice C q f] 30))
  replace hy := hy.below (below_alloc _ (.cells #[.int .i64 1, .int .u32 (X : Int), .slice C q f] 30))
  replace K := Below.then_ K (below_alloc _ (.cells #[.int .i64 1, .int .u32 (X : Int), .slice C q f] 30))
  have G := Bk.new ((w).alloc (.cells #[.int .u32 (a : Int), .int .i64 p, .slice A n c, .int .i64 sh, .int .i64 wo, .int .i64 qu, .int .i64 tr] 27)) #[.int .i64 1, .int .u32 (X : Int), .slice C q f] 30
  replace H := H.alloc (.cells #[.int .i64 0, .int .u32 0, .bool false, .slice none 0 0, .slice none 0 0] 34)
  replace G := G.alloc (.cells #[.int .i64 0, .int .u32 0, .bool false, .slice none 0 0, .slice none 0 0] 34)
  replace hL := hL.below (below_alloc _ (.cells #[.int .i64 0, .int .u32 0, .bool false, .slice none 0 0, .slice none 0 0] 34))
  replace h := h.below (below_alloc _ (.cells #[.int .i64 0, .int .u32 0, .bool false, .slice none 0 0, .slice none 0 0] 34))
  replace hs := hs.below (below_alloc _ (.cells #[.int .i64 0, .int .u32 0, .bool false, .slice none 0 0, .slice none 0 0] 34))
  replace hy := hy.below (below_alloc _ (.cells #[.int .i64 0, .int .u32 0, .bool false, .slice none 0 0, .slice none 0 0] 34))
  replace K := Below.then_ K (below_alloc _ (.cells #[.int .i64 0, .int .u32 0, .bool false, .slice none 0 0, .slice none 0 0] 34))
  have R := Bk.new (((w).alloc (.cells #[.int .u32 (a : Int), .int .i64 p, .slice A n c, .int .i64 sh, .int .i64 wo, .int .i64 qu, .int .i64 tr] 27)).alloc (.cells #[.int .i64 1, .int .u32 (X : Int), .slice C q f] 30)) #[.int .i64 0, .int .u32 0, .bool false, .slice none 0 0, .slice none 0 0] 34
  try simp only [World.size_alloc] at H G R
  generalize (((w).alloc (.cells #[.int .u32 (a : Int), .int .i64 p, .slice A n c, .int .i64 sh, .int .i64 wo, .int .i64 qu, .int .i64 tr] 27)).alloc (.cells #[.int .i64 1, .int .u32 (X : Int), .slice C q f] 30)).alloc (.cells #[.int .i64 0, .int .u32 0, .bool false, .slice none 0 0, .slice none 0 0] 34) = w1 at H G R hL h hs hy K ⊢
  generalize hgR : w.heap.size + 1 + 1 = gR at H G R ⊢
  generalize hgG : w.heap.size + 1 = gG at H G R ⊢
  generalize hgH : w.heap.size = gH at H G R ⊢
  have H_b : w.heap.size ≤ gH := by omega
  have G_b : w.heap.size ≤ gG := by omega
  have R_b : w.heap.size ≤ gR := by omega
  have ne_H_G : gH ≠ gG := by omega
  have ne_H_R : gH ≠ gR := by omega
  have ne_G_R : gG ≠ gR := by omega
  clear KS hgH hgG hgR 
  have H_0 := H.at_ (v := .int .u32 (a : Int)) 0 rfl
  have H_1 := H.at_ (v := .int .i64 p) 1 rfl
  have H_2 := H.at_ (v := .slice A n c) 2 rfl
  have H_3 := H.at_ (v := .int .i64 sh) 3 rfl
  have H_4 := H.at_ (v := .int .i64 wo) 4 rfl
  have H_5 := H.at_ (v := .int .i64 qu) 5 rfl
  have H_6 := H.at_ (v := .int .i64 tr) 6 rfl
  have H_z := H.lt
  have G_0 := G.at_ (v := .int .i64 1) 0 rfl
  have G_1 := G.at_ (v := .int .u32 (X : Int)) 1 rfl
  have G_2 := G.at_ (v := .slice C q f) 2 rfl
  have G_z := G.lt
  go_wp2_with fail
  refine (check_is (k := 1) (X := X) (v := 0) hL ha hM h hn hy hq hX hw hE.out).mono ?_
  rintro e w2 ⟨rfl, K'⟩
  clear H_0 H_1 H_2 H_3 H_4 H_5 H_6 H_z
  clear G_0 G_1 G_2 G_z
  replace H := H.below K'
  replace G := G.below K'
  replace R := R.below K'
  replace hL := hL.below K'
  replace h := h.below K'
  replace hs := hs.below K'
  replace hy := hy.below K'
  replace K := Below.then_ K K'
  clear K'
  go_wp2
  have TD := fun w (h0 : IS .i64 lo w A n c zs) (hs0 : IS .i64 lo2 w B m d xs) (hy0 : IS .u32 lo3 w C q f ys) => Lib.hid (show Calls _ _ _ w (RetSA B m r.1 r.2 w) from by rw [← hdo.out]; exact grant_any (k := 1) (C := C) (q := q) (f := f) (ys := ys) (sh := sh) (wo := wo) (qu := qu) (tr := tr) ha hM (h0) hn (hs0) hm hr.out hX hb1.out)
  refine wp_region_held_drew (S := fun w' => Below w.heap.size w w' ∧ Bk w' gH 27 #[.int .u32 (a : Int), .int .i64 p, .slice A n c, .int .i64 sh, .int .i64 wo, .int .i64 qu, .int .i64 tr] ∧ Bk w' gG 30 #[.int .i64 1, .int .u32 (X : Int), .slice C q f] ∧ (∃ v : Array Value, v.size = 5 ∧ Bk w' gR 34 v) ∧ True) (by kernel_rfl) ⟨K.drew, H.below ((Below.refl _ _).drew), G.below ((Below.refl _ _).drew), ⟨_, rfl, R.below ((Below.refl _ _).drew)⟩, trivial⟩ (fun hHeld => ?_)
  generalize w2.drew = v3 at hHeld  ⊢
  refine wpAnyH_take (i := 1) (oi := ⟨some 18, _, _, _, _, _⟩) (v := ?_) rfl (by kernel_rfl) (by kernel_rfl) (by kernel_rfl) (fun _ _ _ h => h) (Or.inl ⟨by rfl, ?_⟩) hHeld ?_
  rotate_left
  · intro ww hSw
    try dsimp only at hSw
    go_simp
    try with_reducible rfl
    try omega
  try simp only [Act.put, List.setIfInBounds_toArray, List.set_cons_zero, List.set_cons_succ]
  refine wpAnyH_take (i := 2) (oi := ⟨some 19, _, _, _, _, _⟩) (v := .int .i64 1) rfl (by kernel_rfl) (by kernel_rfl) (by kernel_rfl) (fun _ _ _ h => h) (Or.inl ⟨by rfl, ?_⟩) hHeld ?_
  · intro ww hSw
    try dsimp only at hSw
    have H_0 := (hSw.2.1).at_ (v := .int .u32 (a : Int)) 0 rfl
    have H_1 := (hSw.2.1).at_ (v := .int .i64 p) 1 rfl
    have H_2 := (hSw.2.1).at_ (v := .slice A n c) 2 rfl
    have H_3 := (hSw.2.1).at_ (v := .int .i64 sh) 3 rfl
    have H_4 := (hSw.2.1).at_ (v := .int .i64 wo) 4 rfl
    have H_5 := (hSw.2.1).at_ (v := .int .i64 qu) 5 rfl
    have H_6 := (hSw.2.1).at_ (v := .int .i64 tr) 6 rfl
    have H_z := (hSw.2.1).lt
    have G_0 := (hSw.2.2.1).at_ (v := .int .i64 1) 0 rfl
    have G_1 := (hSw.2.2.1).at_ (v := .int .u32 (X : Int)) 1 rfl
    have G_2 := (hSw.2.2.1).at_ (v := .slice C q f) 2 rfl
    have G_z := (hSw.2.2.1).lt
    go_simp
    try with_reducible rfl
    try omega
  try simp only [Act.put, List.setIfInBounds_toArray, List.set_cons_zero, List.set_cons_succ]
  refine wpAnyH_take (i := 4) (oi := ⟨some 21, _, _, _, _, _⟩) (v := ?_) rfl (by kernel_rfl) (by kernel_rfl) (by kernel_rfl) (fun _ _ _ h => h) (Or.inl ⟨by rfl, ?_⟩) hHeld ?_
  rotate_left
  · intro ww hSw
    try dsimp only at hSw
    have H_0 := (hSw.2.1).at_ (v := .int .u32 (a : Int)) 0 rfl
    have H_1 := (hSw.2.1).at_ (v := .int .i64 p) 1 rfl
    have H_2 := (hSw.2.1).at_ (v := .slice A n c) 2 rfl
    have H_3 := (hSw.2.1).at_ (v := .int .i64 sh) 3 rfl
    have H_4 := (hSw.2.1).at_ (v := .int .i64 wo) 4 rfl
    have H_5 := (hSw.2.1).at_ (v := .int .i64 qu) 5 rfl
    have H_6 := (hSw.2.1).at_ (v := .int .i64 tr) 6 rfl
    have H_z := (hSw.2.1).lt
    have G_0 := (hSw.2.2.1).at_ (v := .int .i64 1) 0 rfl
    have G_1 := (hSw.2.2.1).at_ (v := .int .u32 (X : Int)) 1 rfl
    have G_2 := (hSw.2.2.1).at_ (v := .slice C q f) 2 rfl
    have G_z := (hSw.2.2.1).lt
    go_simp
    try with_reducible rfl
    try omega
  try simp only [Act.put, List.setIfInBounds_toArray, List.set_cons_zero, List.set_cons_succ]
  refine wpAnyH_take (i := 5) (oi := ⟨some 22, _, _, _, _, _⟩) (v := ?_) rfl (by kernel_rfl) (by kernel_rfl) (by kernel_rfl) (fun _ _ _ h => h) (Or.inl ⟨by rfl, ?_⟩) hHeld ?_
  rotate_left
  · intro ww hSw
    try dsimp only at hSw
    go_simp
    try with_reducible rfl
    try omega
  try simp only [Act.put, List.setIfInBounds_toArray, List.set_cons_zero, List.set_cons_succ]
  refine wpAnyH_take (i := 6) (oi := ⟨some 23, _, _, _, _, _⟩) (v := ?_) rfl (by kernel_rfl) (by kernel_rfl) (by kernel_rfl) (fun _ _ _ h => h) (Or.inl ⟨by rfl, ?_⟩) hHeld ?_
  rotate_left
  · intro ww hSw
    try dsimp only at hSw
    have H_0 := (hSw.2.1).at_ (v := .int .u32 (a : Int)) 0 rfl
    have H_1 := (hSw.2.1).at_ (v := .int .i64 p) 1 rfl
    have H_2 := (hSw.2.1).at_ (v := .slice A n c) 2 rfl
    have H_3 := (hSw.2.1).at_ (v := .int .i64 sh) 3 rfl
    have H_4 := (hSw.2.1).at_ (v := .int .i64 wo) 4 rfl
    have H_5 := (hSw.2.1).at_ (v := .int .i64 qu) 5 rfl
    have H_6 := (hSw.2.1).at_ (v := .int .i64 tr) 6 rfl
    have H_z := (hSw.2.1).lt
    have G_0 := (hSw.2.2.1).at_ (v := .int .i64 1) 0 rfl
    have G_1 := (hSw.2.2.1).at_ (v := .int .u32 (X : Int)) 1 rfl
    have G_2 := (hSw.2.2.1).at_ (v := .slice C q f) 2 rfl
    have G_z := (hSw.2.2.1).lt
    go_simp
    try with_reducible rfl
    try omega
  try simp only [Act.put, List.setIfInBounds_toArray, List.set_cons_zero, List.set_cons_succ]
  refine wpAnyH_ready (rs := [0]) (by kernel_rfl) (by simp) ?_
  refine AllReadyH.cons (o := ⟨some 17, _, _, _, _, _⟩) rfl (fun K0 hK => ?_) AllReadyH.nil
  go_simp
  refine (kinds_any _).mono ?_
  rintro e v4 ⟨gm, rfl, hmap, K'⟩
  refine hK.out _ _ ⟨Below.then_ hHeld.1 K', hHeld.2.1.below K', hHeld.2.2.1.below K', ⟨_, hHeld.2.2.2.1.choose_spec.1, hHeld.2.2.2.1.choose_spec.2.below K'⟩, trivial⟩ (fun hHeld' => ?_)
  clear hHeld K' hK K0
  have hHeld := hHeld'
  clear hHeld'
  try simp only [Act.put, List.setIfInBounds_toArray, List.set_cons_zero, List.set_cons_succ]
  refine wpAnyH_ready (rs := [3]) (by kernel_rfl) (by simp) ?_
  refine AllReadyH.cons (o := ⟨some 20, _, _, _, _, _⟩) rfl (fun K0 hK => ?_) AllReadyH.nil
  have hrun := hmap.look (k := 1) (by omega) (by omega)
  rw [show fnOf 1 = 49 from rfl] at hrun
  go_simp
  refine hK.out _ _ hHeld (fun hHeld' => ?_)
  clear hHeld hK K0 hrun hmap
  have hHeld := hHeld'
  clear hHeld'
  try simp only [Act.put, List.setIfInBounds_toArray, List.set_cons_zero, List.set_cons_succ]
  refine wpAnyH_ready (rs := [7]) (by kernel_rfl) (by simp) ?_
  refine AllReadyH.cons (o := ⟨some 24, _, _, _, _, _⟩) rfl (fun K0 hK => ?_) AllReadyH.nil
  go_simp
  refine ((TD _ (h0.below hHeld.1) (hs0.below hHeld.1) (hy0.below hHeld.1)).out).mono ?_
  have H_l := (hHeld.2.1).lt
  have G_l := (hHeld.2.2.1).lt
  have R_l := (hHeld.2.2.2.1.choose_spec.2).lt
  rintro e v5 ⟨SA, Sn, Sc, DA, Dn, Dc, EA, En, Ec, rfl, S, hav, D, E, K'⟩
  have S_R := hav gR R_l (hs0.av_old R_b)
  have D_R := D.av R_l
  have E_R := E.av R_l
  have hav0 : ∀ g, g < w.heap.size → Av g B m → Av g SA Sn := fun g hg => hav g (Nat.lt_of_lt_of_le hg (Below.size hHeld.1))
  replace D := D.lower (Below.size hHeld.1)
  replace E := E.lower (Below.size hHeld.1)
  clear hav TD
  refine hK.out _ _ ⟨Below.then_ hHeld.1 K', hHeld.2.1.below K', hHeld.2.2.1.below K', ⟨_, hHeld.2.2.2.1.choose_spec.1, hHeld.2.2.2.1.choose_spec.2.below K'⟩, trivial⟩ (fun hHeld' => ?_)
  clear hHeld K' hK K0
  clear H_l G_l R_l
  have hHeld := hHeld'
  clear hHeld'
  try simp only [Act.put, List.setIfInBounds_toArray, List.set_cons_zero, List.set_cons_succ]
  refine wpAnyH_take (i := 8) (oi := ⟨some 25, _, _, _, _, _⟩) (v := ?_) rfl (by kernel_rfl) (by kernel_rfl) (by kernel_rfl) (fun _ _ _ h => h) (Or.inl ⟨by rfl, ?_⟩) hHeld ?_
  rotate_left
  · intro ww hSw
    try dsimp only at hSw
    go_simp
    try with_reducible rfl
    try omega
  try simp only [Act.put, List.setIfInBounds_toArray, List.set_cons_zero, List.set_cons_succ]
  refine wpAnyH_take (i := 9) (oi := ⟨some 26, _, _, _, _, _⟩) (v := ?_) rfl (by kernel_rfl) (by kernel_rfl) (by kernel_rfl) (fun _ _ _ h => h) (Or.inl ⟨by rfl, ?_⟩) hHeld ?_
  rotate_left
  · intro ww hSw
    try dsimp only at hSw
    go_simp
    try with_reducible rfl
    try omega
  try simp only [Act.put, List.setIfInBounds_toArray, List.set_cons_zero, List.set_cons_succ]
  refine wpAnyH_take (i := 10) (oi := ⟨some 6, _, _, _, _, _⟩) (v := ?_) rfl (by kernel_rfl) (by kernel_rfl) (by kernel_rfl) (fun _ _ _ h => h) (Or.inl ⟨by rfl, ?_⟩) hHeld ?_
  rotate_left
  · intro ww hSw
    try dsimp only at hSw
    go_simp
    try with_reducible rfl
    try omega
  try simp only [Act.put, List.setIfInBounds_toArray, List.set_cons_zero, List.set_cons_succ]
  refine wpAnyH_ready (rs := [11]) (by kernel_rfl) (by simp) ?_
  refine AllReadyH.cons (o := ⟨none, _, _, _, _, _⟩) rfl (fun K0 hK => ?_) AllReadyH.nil
  rw [if_pos (by rfl)]
  refine wp_store_row 34 (.tmp 7) (.tmp 26) rfl gR _ rfl (show _ = Value.agg #[.int .i64 r.2.1, .int .u32 r.2.2.1, .bool r.2.2.2.1, .slice DA Dn Dc, .slice EA En Ec] from rfl) _ _ hHeld.2.2.2.1.choose_spec.2 an_sz hHeld.2.2.2.1.choose_spec.1 (by simp [Value.oneCell']) ?_
  have new_R := Bk.row hHeld.2.2.2.1.choose_spec.2 #[.int .i64 r.2.1, .int .u32 r.2.2.1, .bool r.2.2.2.1, .slice DA Dn Dc, .slice EA En Ec]
  refine hK.out _ _ ⟨below_setRow hHeld.1 R_b _, hHeld.2.1.row_far ne_H_R _, hHeld.2.2.1.row_far ne_G_R _, ⟨_, rfl, new_R⟩, trivial⟩ (fun hHeld' => ?_)
  replace S := S.row_av S_R #[.int .i64 r.2.1, .int .u32 r.2.2.1, .bool r.2.2.2.1, .slice DA Dn Dc, .slice EA En Ec]
  replace D := D.row_av D_R #[.int .i64 r.2.1, .int .u32 r.2.2.1, .bool r.2.2.2.1, .slice DA Dn Dc, .slice EA En Ec]
  replace E := E.row_av E_R #[.int .i64 r.2.1, .int .u32 r.2.2.1, .bool r.2.2.2.1, .slice DA Dn Dc, .slice EA En Ec]
  clear hHeld hK K0
  have hHeld := hHeld'
  clear hHeld'
  generalize v5.setRow gR #[.int .i64 r.2.1, .int .u32 r.2.2.1, .bool r.2.2.2.1, .slice DA Dn Dc, .slice EA En Ec] = v6 at hHeld new_R S D E ⊢
  try simp only [Act.put]
  refine wpAnyH_done (by kernel_rfl) ?_ _
  replace K := hHeld.1
  replace H := hHeld.2.1
  replace G := hHeld.2.2.1
  replace R := new_R
  clear new_R
  clear hHeld
  replace hL := hL0.below K
  replace h := h0.below K
  replace hs := hs0.below K
  replace hy := hy0.below K
  go_wp2
  refine bodyPost_ret (v := .tuple #[.slice SA Sn Sc, .agg #[.int .i64 r.2.1, .int .u32 r.2.2.1, .bool r.2.2.2.1, .slice DA Dn Dc, .slice EA En Ec]]) ?_ rfl ?_
  · exact results_tc (fn := Tryd.f15) Tryd.results15 _ _ gR _ _ (0, 0) _ rfl R Tryd.underlying34 rfl an_sz
  exact ⟨_, _, _, _, _, _, _, _, _, rfl, S, hav0, D, E, K⟩
set_option maxRecDepth 100000 in
set_option maxHeartbeats 4000000 in
theorem some_2 (hL0 : Laid w) (ha : a < 4294967296) (hM : Much a p M) (h0 : IS .i64 lo w A n c zs) (hn : n ≤ 65536) (hs0 : IS .i64 lo2 w B m d xs) (hm : m ≤ 60000) (hx : mayR M zs 0 xs = true) (hX : X < 4294967296) (hy0 : IS .u32 lo3 w C q f ys) (hq : q ≤ 60000) (hw : W32 ys) {r : List Int × An} (hE : askE a M zs 2 X ys = 0) (hdo : doS a M zs xs 2 X ys = r) :
    Calls Tryd.prog 15 #[.agg #[.int .u32 (a : Int), .int .i64 p, .slice A n c, .int .i64 sh, .int .i64 wo, .int .i64 qu, .int .i64 tr], .slice B m d, .agg #[.int .i64 2, .int .u32 (X : Int), .slice C q f]] w (RetSA B m r.1 r.2 w) := by
  obtain ⟨hr_, hb_⟩ := mayR_iff.1 hx
  have hr := Lib.hid hr_
  have hMm := hM.most
  have hb1 := Lib.hid (fun x hx => (hb_ x hx).1)
  have hb2 : Hid (∀ x ∈ xs, 0 ≤ x ∧ x ≤ 65536) := Lib.hid (fun x hx => ⟨(hb_ x hx).1, by have := (hb_ x hx).2.1; omega⟩)
  clear hr_ hb_ hx
  replace hE := Lib.hid hE
  replace hdo := Lib.hid hdo
  have hL := hL0
  have h := h0
  have hs := hs0
  have hy := hy0
  have K := Below.refl w.heap.size w
  go_enter Tryd.func15, Tryd.ntmps15
  go_upto_region 1 with (fail)
  have KS := K.size
  replace hL := hL.below (below_alloc _ (.cells #[.int .u32 (a : Int), .int .i64 p, .slice A n c, .int .i64 sh, .int .i64 wo, .int .i64 qu, .int .i64 tr] 27))
  replace h := h.below (below_alloc _ (.cells #[.int .u32 (a : Int), .int .i64 p, .slice A n c, .int .i64 sh, .int .i64 wo, .int .i64 qu, .int .i64 tr] 27))
  replace hs := hs.below (below_alloc _ (.cells #[.int .u32 (a : Int), .int .i64 p, .slice A n c, .int .i64 sh, .int .i64 wo, .int .i64 qu, .int .i64 tr] 27))
  replace hy := hy.below (below_alloc _ (.cells #[.int .u32 (a : Int), .int .i64 p, .slice A n c, .int .i64 sh, .int .i64 wo, .int .i64 qu, .int .i64 tr] 27))
  replace K := Below.then_ K (below_alloc _ (.cells #[.int .u32 (a : Int), .int .i64 p, .slice A n c, .int .i64 sh, .int .i64 wo, .int .i64 qu, .int .i64 tr] 27))
  have H := Bk.new (w) #[.int .u32 (a : Int), .int .i64 p, .slice A n c, .int .i64 sh, .int .i64 wo, .int .i64 qu, .int .i64 tr] 27
  replace H := H.alloc (.cells #[.int .i64 2, .int .u32 (X : Int), .slice C q f] 30)
  replace hL := hL.below (below_alloc _ (.cells #[.int .i64 2, .int .u32 (X : Int), .slice C q f] 30))
  replace h := h.below (below_alloc _ (.cells #[.int .i64 2, .int .u32 (X : Int), .slice C q f] 30))
  replace hs := hs.below (below_alloc _ (.cells #[.int .i64 2, .int .u32 (X : Int), .slice C q f] 30))
  replace hy := hy.below (below_alloc _ (.cells #[.int .i64 2, .int .u32 (X : Int), .slice C q f] 30))
  replace K := Below.then_ K (below_alloc _ (.cells #[.int .i64 2, .int .u32 (X : Int), .slice C q f] 30))
  have G := Bk.new ((w).alloc (.cells #[.int .u32 (a : Int), .int .i64 p, .slice A n c, .int .i64 sh, .int .i64 wo, .int .i64 qu, .int .i64 tr] 27)) #[.int .i64 2, .int .u32 (X : Int), .slice C q f] 30
  replace H := H.alloc (.cells #[.int .i64 0, .int .u32 0, .bool false, .slice none 0 0, .slice none 0 0] 34)
  replace G := G.alloc (.cells #[.int .i64 0, .int .u32 0, .bool false, .slice none 0 0, .slice none 0 0] 34)
  replace hL := hL.below (below_alloc _ (.cells #[.int .i64 0, .int .u32 0, .bool false, .slice none 0 0, .slice none 0 0] 34))
  replace h := h.below (below_alloc _ (.cells #[.int .i64 0, .int .u32 0, .bool false, .slice none 0 0, .slice none 0 0] 34))
  replace hs := hs.below (below_alloc _ (.cells #[.int .i64 0, .int .u32 0, .bool false, .slice none 0 0, .slice none 0 0] 34))
  replace hy := hy.below (below_alloc _ (.cells #[.int .i64 0, .int .u32 0, .bool false, .slice none 0 0, .slice none 0 0] 34))
  replace K := Below.then_ K (below_alloc _ (.cells #[.int .i64 0, .int .u32 0, .bool false, .slice none 0 0, .slice none 0 0] 34))
  have R := Bk.new (((w).alloc (.cells #[.int .u32 (a : Int), .int .i64 p, .slice A n c, .int .i64 sh, .int .i64 wo, .int .i64 qu, .int .i64 tr] 27)).alloc (.cells #[.int .i64 2, .int .u32 (X : Int), .slice C q f] 30)) #[.int .i64 0, .int .u32 0, .bool false, .slice none 0 0, .slice none 0 0] 34
  try simp only [World.size_alloc] at H G R
  generalize (((w).alloc (.cells #[.int .u32 (a : Int), .int .i64 p, .slice A n c, .int .i64 sh, .int .i64 wo, .int .i64 qu, .int .i64 tr] 27)).alloc (.cells #[.int .i64 2, .int .u32 (X : Int), .slice C q f] 30)).alloc (.cells #[.int .i64 0, .int .u32 0, .bool false, .slice none 0 0, .slice none 0 0] 34) = w1 at H G R hL h hs hy K ⊢
  generalize hgR : w.heap.size + 1 + 1 = gR at H G R ⊢
  generalize hgG : w.heap.size + 1 = gG at H G R ⊢
  generalize hgH : w.heap.size = gH at H G R ⊢
  have H_b : w.heap.size ≤ gH := by omega
  have G_b : w.heap.size ≤ gG := by omega
  have R_b : w.heap.size ≤ gR := by omega
  have ne_H_G : gH ≠ gG := by omega
  have ne_H_R : gH ≠ gR := by omega
  have ne_G_R : gG ≠ gR := by omega
  clear KS hgH hgG hgR 
  have H_0 := H.at_ (v := .int .u32 (a : Int)) 0 rfl
  have H_1 := H.at_ (v := .int .i64 p) 1 rfl
  have H_2 := H.at_ (v := .slice A n c) 2 rfl
  have H_3 := H.at_ (v := .int .i64 sh) 3 rfl
  have H_4 := H.at_ (v := .int .i64 wo) 4 rfl
  have H_5 := H.at_ (v := .int .i64 qu) 5 rfl
  have H_6 := H.at_ (v := .int .i64 tr) 6 rfl
  have H_z := H.lt
  have G_0 := G.at_ (v := .int .i64 2) 0 rfl
  have G_1 := G.at_ (v := .int .u32 (X : Int)) 1 rfl
  have G_2 := G.at_ (v := .slice C q f) 2 rfl
  have G_z := G.lt
  go_wp2_with fail
  refine (check_is (k := 2) (X := X) (v := 0) hL ha hM h hn hy hq hX hw hE.out).mono ?_
  rintro e w2 ⟨rfl, K'⟩
  clear H_0 H_1 H_2 H_3 H_4 H_5 H_6 H_z
  clear G_0 G_1 G_2 G_z
  replace H := H.below K'
  replace G := G.below K'
  replace R := R.below K'
  replace hL := hL.below K'
  replace h := h.below K'
  replace hs := hs.below K'
  replace hy := hy.below K'
  replace K := Below.then_ K K'
  clear K'
  go_wp2
  have TD := fun w (h0 : IS .i64 lo w A n c zs) (hs0 : IS .i64 lo2 w B m d xs) (hy0 : IS .u32 lo3 w C q f ys) => Lib.hid (show Calls _ _ _ w (RetSA B m r.1 r.2 w) from by rw [← hdo.out]; exact exact_any (k := 2) (C := C) (q := q) (f := f) (ys := ys) (sh := sh) (wo := wo) (qu := qu) (tr := tr) ha hM (h0) hn (hs0) hm hr.out hX)
  refine wp_region_held_drew (S := fun w' => Below w.heap.size w w' ∧ Bk w' gH 27 #[.int .u32 (a : Int), .int .i64 p, .slice A n c, .int .i64 sh, .int .i64 wo, .int .i64 qu, .int .i64 tr] ∧ Bk w' gG 30 #[.int .i64 2, .int .u32 (X : Int), .slice C q f] ∧ (∃ v : Array Value, v.size = 5 ∧ Bk w' gR 34 v) ∧ True) (by kernel_rfl) ⟨K.drew, H.below ((Below.refl _ _).drew), G.below ((Below.refl _ _).drew), ⟨_, rfl, R.below ((Below.refl _ _).drew)⟩, trivial⟩ (fun hHeld => ?_)
  generalize w2.drew = v3 at hHeld  ⊢
  refine wpAnyH_take (i := 1) (oi := ⟨some 18, _, _, _, _, _⟩) (v := ?_) rfl (by kernel_rfl) (by kernel_rfl) (by kernel_rfl) (fun _ _ _ h => h) (Or.inl ⟨by rfl, ?_⟩) hHeld ?_
  rotate_left
  · intro ww hSw
    try dsimp only at hSw
    go_simp
    try with_reducible rfl
    try omega
  try simp only [Act.put, List.setIfInBounds_toArray, List.set_cons_zero, List.set_cons_succ]
  refine wpAnyH_take (i := 2) (oi := ⟨some 19, _, _, _, _, _⟩) (v := .int .i64 2) rfl (by kernel_rfl) (by kernel_rfl) (by kernel_rfl) (fun _ _ _ h => h) (Or.inl ⟨by rfl, ?_⟩) hHeld ?_
  · intro ww hSw
    try dsimp only at hSw
    have H_0 := (hSw.2.1).at_ (v := .int .u32 (a : Int)) 0 rfl
    have H_1 := (hSw.2.1).at_ (v := .int .i64 p) 1 rfl
    have H_2 := (hSw.2.1).at_ (v := .slice A n c) 2 rfl
    have H_3 := (hSw.2.1).at_ (v := .int .i64 sh) 3 rfl
    have H_4 := (hSw.2.1).at_ (v := .int .i64 wo) 4 rfl
    have H_5 := (hSw.2.1).at_ (v := .int .i64 qu) 5 rfl
    have H_6 := (hSw.2.1).at_ (v := .int .i64 tr) 6 rfl
    have H_z := (hSw.2.1).lt
    have G_0 := (hSw.2.2.1).at_ (v := .int .i64 2) 0 rfl
    have G_1 := (hSw.2.2.1).at_ (v := .int .u32 (X : Int)) 1 rfl
    have G_2 := (hSw.2.2.1).at_ (v := .slice C q f) 2 rfl
    have G_z := (hSw.2.2.1).lt
    go_simp
    try with_reducible rfl
    try omega
  try simp only [Act.put, List.setIfInBounds_toArray, List.set_cons_zero, List.set_cons_succ]
  refine wpAnyH_take (i := 4) (oi := ⟨some 21, _, _, _, _, _⟩) (v := ?_) rfl (by kernel_rfl) (by kernel_rfl) (by kernel_rfl) (fun _ _ _ h => h) (Or.inl ⟨by rfl, ?_⟩) hHeld ?_
  rotate_left
  · intro ww hSw
    try dsimp only at hSw
    have H_0 := (hSw.2.1).at_ (v := .int .u32 (a : Int)) 0 rfl
    have H_1 := (hSw.2.1).at_ (v := .int .i64 p) 1 rfl
    have H_2 := (hSw.2.1).at_ (v := .slice A n c) 2 rfl
    have H_3 := (hSw.2.1).at_ (v := .int .i64 sh) 3 rfl
    have H_4 := (hSw.2.1).at_ (v := .int .i64 wo) 4 rfl
    have H_5 := (hSw.2.1).at_ (v := .int .i64 qu) 5 rfl
    have H_6 := (hSw.2.1).at_ (v := .int .i64 tr) 6 rfl
    have H_z := (hSw.2.1).lt
    have G_0 := (hSw.2.2.1).at_ (v := .int .i64 2) 0 rfl
    have G_1 := (hSw.2.2.1).at_ (v := .int .u32 (X : Int)) 1 rfl
    have G_2 := (hSw.2.2.1).at_ (v := .slice C q f) 2 rfl
    have G_z := (hSw.2.2.1).lt
    go_simp
    try with_reducible rfl
    try omega
  try simp only [Act.put, List.setIfInBounds_toArray, List.set_cons_zero, List.set_cons_succ]
  refine wpAnyH_take (i := 5) (oi := ⟨some 22, _, _, _, _, _⟩) (v := ?_) rfl (by kernel_rfl) (by kernel_rfl) (by kernel_rfl) (fun _ _ _ h => h) (Or.inl ⟨by rfl, ?_⟩) hHeld ?_
  rotate_left
  · intro ww hSw
    try dsimp only at hSw
    go_simp
    try with_reducible rfl
    try omega
  try simp only [Act.put, List.setIfInBounds_toArray, List.set_cons_zero, List.set_cons_succ]
  refine wpAnyH_take (i := 6) (oi := ⟨some 23, _, _, _, _, _⟩) (v := ?_) rfl (by kernel_rfl) (by kernel_rfl) (by kernel_rfl) (fun _ _ _ h => h) (Or.inl ⟨by rfl, ?_⟩) hHeld ?_
  rotate_left
  · intro ww hSw
    try dsimp only at hSw
    have H_0 := (hSw.2.1).at_ (v := .int .u32 (a : Int)) 0 rfl
    have H_1 := (hSw.2.1).at_ (v := .int .i64 p) 1 rfl
    have H_2 := (hSw.2.1).at_ (v := .slice A n c) 2 rfl
    have H_3 := (hSw.2.1).at_ (v := .int .i64 sh) 3 rfl
    have H_4 := (hSw.2.1).at_ (v := .int .i64 wo) 4 rfl
    have H_5 := (hSw.2.1).at_ (v := .int .i64 qu) 5 rfl
    have H_6 := (hSw.2.1).at_ (v := .int .i64 tr) 6 rfl
    have H_z := (hSw.2.1).lt
    have G_0 := (hSw.2.2.1).at_ (v := .int .i64 2) 0 rfl
    have G_1 := (hSw.2.2.1).at_ (v := .int .u32 (X : Int)) 1 rfl
    have G_2 := (hSw.2.2.1).at_ (v := .slice C q f) 2 rfl
    have G_z := (hSw.2.2.1).lt
    go_simp
    try with_reducible rfl
    try omega
  try simp only [Act.put, List.setIfInBounds_toArray, List.set_cons_zero, List.set_cons_succ]
  refine wpAnyH_ready (rs := [0]) (by kernel_rfl) (by simp) ?_
  refine AllReadyH.cons (o := ⟨some 17, _, _, _, _, _⟩) rfl (fun K0 hK => ?_) AllReadyH.nil
  go_simp
  refine (kinds_any _).mono ?_
  rintro e v4 ⟨gm, rfl, hmap, K'⟩
  refine hK.out _ _ ⟨Below.then_ hHeld.1 K', hHeld.2.1.below K', hHeld.2.2.1.below K', ⟨_, hHeld.2.2.2.1.choose_spec.1, hHeld.2.2.2.1.choose_spec.2.below K'⟩, trivial⟩ (fun hHeld' => ?_)
  clear hHeld K' hK K0
  have hHeld := hHeld'
  clear hHeld'
  try simp only [Act.put, List.setIfInBounds_toArray, List.set_cons_zero, List.set_cons_succ]
  refine wpAnyH_ready (rs := [3]) (by kernel_rfl) (by simp) ?_
  refine AllReadyH.cons (o := ⟨some 20, _, _, _, _, _⟩) rfl (fun K0 hK => ?_) AllReadyH.nil
  have hrun := hmap.look (k := 2) (by omega) (by omega)
  rw [show fnOf 2 = 50 from rfl] at hrun
  go_simp
  refine hK.out _ _ hHeld (fun hHeld' => ?_)
  clear hHeld hK K0 hrun hmap
  have hHeld := hHeld'
  clear hHeld'
  try simp only [Act.put, List.setIfInBounds_toArray, List.set_cons_zero, List.set_cons_succ]
  refine wpAnyH_ready (rs := [7]) (by kernel_rfl) (by simp) ?_
  refine AllReadyH.cons (o := ⟨some 24, _, _, _, _, _⟩) rfl (fun K0 hK => ?_) AllReadyH.nil
  go_simp
  refine ((TD _ (h0.below hHeld.1) (hs0.below hHeld.1) (hy0.below hHeld.1)).out).mono ?_
  have H_l := (hHeld.2.1).lt
  have G_l := (hHeld.2.2.1).lt
  have R_l := (hHeld.2.2.2.1.choose_spec.2).lt
  rintro e v5 ⟨SA, Sn, Sc, DA, Dn, Dc, EA, En, Ec, rfl, S, hav, D, E, K'⟩
  have S_R := hav gR R_l (hs0.av_old R_b)
  have D_R := D.av R_l
  have E_R := E.av R_l
  have hav0 : ∀ g, g < w.heap.size → Av g B m → Av g SA Sn := fun g hg => hav g (Nat.lt_of_lt_of_le hg (Below.size hHeld.1))
  replace D := D.lower (Below.size hHeld.1)
  replace E := E.lower (Below.size hHeld.1)
  clear hav TD
  refine hK.out _ _ ⟨Below.then_ hHeld.1 K', hHeld.2.1.below K', hHeld.2.2.1.below K', ⟨_, hHeld.2.2.2.1.choose_spec.1, hHeld.2.2.2.1.choose_spec.2.below K'⟩, trivial⟩ (fun hHeld' => ?_)
  clear hHeld K' hK K0
  clear H_l G_l R_l
  have hHeld := hHeld'
  clear hHeld'
  try simp only [Act.put, List.setIfInBounds_toArray, List.set_cons_zero, List.set_cons_succ]
  refine wpAnyH_take (i := 8) (oi := ⟨some 25, _, _, _, _, _⟩) (v := ?_) rfl (by kernel_rfl) (by kernel_rfl) (by kernel_rfl) (fun _ _ _ h => h) (Or.inl ⟨by rfl, ?_⟩) hHeld ?_
  rotate_left
  · intro ww hSw
    try dsimp only at hSw
    go_simp
    try with_reducible rfl
    try omega
  try simp only [Act.put, List.setIfInBounds_toArray, List.set_cons_zero, List.set_cons_succ]
  refine wpAnyH_take (i := 9) (oi := ⟨some 26, _, _, _, _, _⟩) (v := ?_) rfl (by kernel_rfl) (by kernel_rfl) (by kernel_rfl) (fun _ _ _ h => h) (Or.inl ⟨by rfl, ?_⟩) hHeld ?_
  rotate_left
  · intro ww hSw
    try dsimp only at hSw
    go_simp
    try with_reducible rfl
    try omega
  try simp only [Act.put, List.setIfInBounds_toArray, List.set_cons_zero, List.set_cons_succ]
  refine wpAnyH_take (i := 10) (oi := ⟨some 6, _, _, _, _, _⟩) (v := ?_) rfl (by kernel_rfl) (by kernel_rfl) (by kernel_rfl) (fun _ _ _ h => h) (Or.inl ⟨by rfl, ?_⟩) hHeld ?_
  rotate_left
  · intro ww hSw
    try dsimp only at hSw
    go_simp
    try with_reducible rfl
    try omega
  try simp only [Act.put, List.setIfInBounds_toArray, List.set_cons_zero, List.set_cons_succ]
  refine wpAnyH_ready (rs := [11]) (by kernel_rfl) (by simp) ?_
  refine AllReadyH.cons (o := ⟨none, _, _, _, _, _⟩) rfl (fun K0 hK => ?_) AllReadyH.nil
  rw [if_pos (by rfl)]
  refine wp_store_row 34 (.tmp 7) (.tmp 26) rfl gR _ rfl (show _ = Value.agg #[.int .i64 r.2.1, .int .u32 r.2.2.1, .bool r.2.2.2.1, .slice DA Dn Dc, .slice EA En Ec] from rfl) _ _ hHeld.2.2.2.1.choose_spec.2 an_sz hHeld.2.2.2.1.choose_spec.1 (by simp [Value.oneCell']) ?_
  have new_R := Bk.row hHeld.2.2.2.1.choose_spec.2 #[.int .i64 r.2.1, .int .u32 r.2.2.1, .bool r.2.2.2.1, .slice DA Dn Dc, .slice EA En Ec]
  refine hK.out _ _ ⟨below_setRow hHeld.1 R_b _, hHeld.2.1.row_far ne_H_R _, hHeld.2.2.1.row_far ne_G_R _, ⟨_, rfl, new_R⟩, trivial⟩ (fun hHeld' => ?_)
  replace S := S.row_av S_R #[.int .i64 r.2.1, .int .u32 r.2.2.1, .bool r.2.2.2.1, .slice DA Dn Dc, .slice EA En Ec]
  replace D := D.row_av D_R #[.int .i64 r.2.1, .int .u32 r.2.2.1, .bool r.2.2.2.1, .slice DA Dn Dc, .slice EA En Ec]
  replace E := E.row_av E_R #[.int .i64 r.2.1, .int .u32 r.2.2.1, .bool r.2.2.2.1, .slice DA Dn Dc, .slice EA En Ec]
  clear hHeld hK K0
  have hHeld := hHeld'
  clear hHeld'
  generalize v5.setRow gR #[.int .i64 r.2.1, .int .u32 r.2.2.1, .bool r.2.2.2.1, .slice DA Dn Dc, .slice EA En Ec] = v6 at hHeld new_R S D E ⊢
  try simp only [Act.put]
  refine wpAnyH_done (by kernel_rfl) ?_ _
  replace K := hHeld.1
  replace H := hHeld.2.1
  replace G := hHeld.2.2.1
  replace R := new_R
  clear new_R
  clear hHeld
  replace hL := hL0.below K
  replace h := h0.below K
  replace hs := hs0.below K
  replace hy := hy0.below K
  go_wp2
  refine bodyPost_ret (v := .tuple #[.slice SA Sn Sc, .agg #[.int .i64 r.2.1, .int .u32 r.2.2.1, .bool r.2.2.2.1, .slice DA Dn Dc, .slice EA En Ec]]) ?_ rfl ?_
  · exact results_tc (fn := Tryd.f15) Tryd.results15 _ _ gR _ _ (0, 0) _ rfl R Tryd.underlying34 rfl an_sz
  exact ⟨_, _, _, _, _, _, _, _, _, rfl, S, hav0, D, E, K⟩
set_option maxRecDepth 100000 in
set_option maxHeartbeats 4000000 in
theorem some_3 (hL0 : Laid w) (ha : a < 4294967296) (hM : Much a p M) (h0 : IS .i64 lo w A n c zs) (hn : n ≤ 65536) (hs0 : IS .i64 lo2 w B m d xs) (hm : m ≤ 60000) (hx : mayR M zs 0 xs = true) (hX : X < 4294967296) (hy0 : IS .u32 lo3 w C q f ys) (hq : q ≤ 60000) (hw : W32 ys) {r : List Int × An} (hE : askE a M zs 3 X ys = 0) (hdo : doS a M zs xs 3 X ys = r) :
    Calls Tryd.prog 15 #[.agg #[.int .u32 (a : Int), .int .i64 p, .slice A n c, .int .i64 sh, .int .i64 wo, .int .i64 qu, .int .i64 tr], .slice B m d, .agg #[.int .i64 3, .int .u32 (X : Int), .slice C q f]] w (RetSA B m r.1 r.2 w) := by
  obtain ⟨hr_, hb_⟩ := mayR_iff.1 hx
  have hr := Lib.hid hr_
  have hMm := hM.most
  have hb1 := Lib.hid (fun x hx => (hb_ x hx).1)
  have hb2 : Hid (∀ x ∈ xs, 0 ≤ x ∧ x ≤ 65536) := Lib.hid (fun x hx => ⟨(hb_ x hx).1, by have := (hb_ x hx).2.1; omega⟩)
  clear hr_ hb_ hx
  replace hE := Lib.hid hE
  replace hdo := Lib.hid hdo
  have hL := hL0
  have h := h0
  have hs := hs0
  have hy := hy0
  have K := Below.refl w.heap.size w
  go_enter Tryd.func15, Tryd.ntmps15
  go_upto_region 1 with (fail)
  have KS := K.size
  replace hL := hL.below (below_alloc _ (.cells #[.int .u32 (a : Int), .int .i64 p, .slice A n c, .int .i64 sh, .int .i64 wo, .int .i64 qu, .int .i64 tr] 27))
  replace h := h.below (below_alloc _ (.cells #[.int .u32 (a : Int), .int .i64 p, .slice A n c, .int .i64 sh, .int .i64 wo, .int .i64 qu, .int .i64 tr] 27))
  replace hs := hs.below (below_alloc _ (.cells #[.int .u32 (a : Int), .int .i64 p, .slice A n c, .int .i64 sh, .int .i64 wo, .int .i64 qu, .int .i64 tr] 27))
  replace hy := hy.below (below_alloc _ (.cells #[.int .u32 (a : Int), .int .i64 p, .slice A n c, .int .i64 sh, .int .i64 wo, .int .i64 qu, .int .i64 tr] 27))
  replace K := Below.then_ K (below_alloc _ (.cells #[.int .u32 (a : Int), .int .i64 p, .slice A n c, .int .i64 sh, .int .i64 wo, .int .i64 qu, .int .i64 tr] 27))
  have H := Bk.new (w) #[.int .u32 (a : Int), .int .i64 p, .slice A n c, .int .i64 sh, .int .i64 wo, .int .i64 qu, .int .i64 tr] 27
  replace H := H.alloc (.cells #[.int .i64 3, .int .u32 (X : Int), .slice C q f] 30)
  replace hL := hL.below (below_alloc _ (.cells #[.int .i64 3, .int .u32 (X : Int), .slice C q f] 30))
  replace h := h.below (below_alloc _ (.cells #[.int .i64 3, .int .u32 (X : Int), .slice C q f] 30))
  replace hs := hs.below (below_alloc _ (.cells #[.int .i64 3, .int .u32 (X : Int), .slice C q f] 30))
  replace hy := hy.below (below_alloc _ (.cells #[.int .i64 3, .int .u32 (X : Int), .slice C q f] 30))
  replace K := Below.then_ K (below_alloc _ (.cells #[.int .i64 3, .int .u32 (X : Int), .slice C q f] 30))
  have G := Bk.new ((w).alloc (.cells #[.int .u32 (a : Int), .int .i64 p, .slice A n c, .int .i64 sh, .int .i64 wo, .int .i64 qu, .int .i64 tr] 27)) #[.int .i64 3, .int .u32 (X : Int), .slice C q f] 30
  replace H := H.alloc (.cells #[.int .i64 0, .int .u32 0, .bool false, .slice none 0 0, .slice none 0 0] 34)
  replace G := G.alloc (.cells #[.int .i64 0, .int .u32 0, .bool false, .slice none 0 0, .slice none 0 0] 34)
  replace hL := hL.below (below_alloc _ (.cells #[.int .i64 0, .int .u32 0, .bool false, .slice none 0 0, .slice none 0 0] 34))
  replace h := h.below (below_alloc _ (.cells #[.int .i64 0, .int .u32 0, .bool false, .slice none 0 0, .slice none 0 0] 34))
  replace hs := hs.below (below_alloc _ (.cells #[.int .i64 0, .int .u32 0, .bool false, .slice none 0 0, .slice none 0 0] 34))
  replace hy := hy.below (below_alloc _ (.cells #[.int .i64 0, .int .u32 0, .bool false, .slice none 0 0, .slice none 0 0] 34))
  replace K := Below.then_ K (below_alloc _ (.cells #[.int .i64 0, .int .u32 0, .bool false, .slice none 0 0, .slice none 0 0] 34))
  have R := Bk.new (((w).alloc (.cells #[.int .u32 (a : Int), .int .i64 p, .slice A n c, .int .i64 sh, .int .i64 wo, .int .i64 qu, .int .i64 tr] 27)).alloc (.cells #[.int .i64 3, .int .u32 (X : Int), .slice C q f] 30)) #[.int .i64 0, .int .u32 0, .bool false, .slice none 0 0, .slice none 0 0] 34
  try simp only [World.size_alloc] at H G R
  generalize (((w).alloc (.cells #[.int .u32 (a : Int), .int .i64 p, .slice A n c, .int .i64 sh, .int .i64 wo, .int .i64 qu, .int .i64 tr] 27)).alloc (.cells #[.int .i64 3, .int .u32 (X : Int), .slice C q f] 30)).alloc (.cells #[.int .i64 0, .int .u32 0, .bool false, .slice none 0 0, .slice none 0 0] 34) = w1 at H G R hL h hs hy K ⊢
  generalize hgR : w.heap.size + 1 + 1 = gR at H G R ⊢
  generalize hgG : w.heap.size + 1 = gG at H G R ⊢
  generalize hgH : w.heap.size = gH at H G R ⊢
  have H_b : w.heap.size ≤ gH := by omega
  have G_b : w.heap.size ≤ gG := by omega
  have R_b : w.heap.size ≤ gR := by omega
  have ne_H_G : gH ≠ gG := by omega
  have ne_H_R : gH ≠ gR := by omega
  have ne_G_R : gG ≠ gR := by omega
  clear KS hgH hgG hgR 
  have H_0 := H.at_ (v := .int .u32 (a : Int)) 0 rfl
  have H_1 := H.at_ (v := .int .i64 p) 1 rfl
  have H_2 := H.at_ (v := .slice A n c) 2 rfl
  have H_3 := H.at_ (v := .int .i64 sh) 3 rfl
  have H_4 := H.at_ (v := .int .i64 wo) 4 rfl
  have H_5 := H.at_ (v := .int .i64 qu) 5 rfl
  have H_6 := H.at_ (v := .int .i64 tr) 6 rfl
  have H_z := H.lt
  have G_0 := G.at_ (v := .int .i64 3) 0 rfl
  have G_1 := G.at_ (v := .int .u32 (X : Int)) 1 rfl
  have G_2 := G.at_ (v := .slice C q f) 2 rfl
  have G_z := G.lt
  go_wp2_with fail
  refine (check_is (k := 3) (X := X) (v := 0) hL ha hM h hn hy hq hX hw hE.out).mono ?_
  rintro e w2 ⟨rfl, K'⟩
  clear H_0 H_1 H_2 H_3 H_4 H_5 H_6 H_z
  clear G_0 G_1 G_2 G_z
  replace H := H.below K'
  replace G := G.below K'
  replace R := R.below K'
  replace hL := hL.below K'
  replace h := h.below K'
  replace hs := hs.below K'
  replace hy := hy.below K'
  replace K := Below.then_ K K'
  clear K'
  go_wp2
  have TD := fun w (h0 : IS .i64 lo w A n c zs) (hs0 : IS .i64 lo2 w B m d xs) (hy0 : IS .u32 lo3 w C q f ys) => Lib.hid (show Calls _ _ _ w (RetSA B m r.1 r.2 w) from by rw [← hdo.out]; exact release_any (k := 3) (C := C) (q := q) (f := f) (ys := ys) (sh := sh) (wo := wo) (qu := qu) (tr := tr) ha hM (h0) hn (hs0) hm hr.out hX)
  refine wp_region_held_drew (S := fun w' => Below w.heap.size w w' ∧ Bk w' gH 27 #[.int .u32 (a : Int), .int .i64 p, .slice A n c, .int .i64 sh, .int .i64 wo, .int .i64 qu, .int .i64 tr] ∧ Bk w' gG 30 #[.int .i64 3, .int .u32 (X : Int), .slice C q f] ∧ (∃ v : Array Value, v.size = 5 ∧ Bk w' gR 34 v) ∧ True) (by kernel_rfl) ⟨K.drew, H.below ((Below.refl _ _).drew), G.below ((Below.refl _ _).drew), ⟨_, rfl, R.below ((Below.refl _ _).drew)⟩, trivial⟩ (fun hHeld => ?_)
  generalize w2.drew = v3 at hHeld  ⊢
  refine wpAnyH_take (i := 1) (oi := ⟨some 18, _, _, _, _, _⟩) (v := ?_) rfl (by kernel_rfl) (by kernel_rfl) (by kernel_rfl) (fun _ _ _ h => h) (Or.inl ⟨by rfl, ?_⟩) hHeld ?_
  rotate_left
  · intro ww hSw
    try dsimp only at hSw
    go_simp
    try with_reducible rfl
    try omega
  try simp only [Act.put, List.setIfInBounds_toArray, List.set_cons_zero, List.set_cons_succ]
  refine wpAnyH_take (i := 2) (oi := ⟨some 19, _, _, _, _, _⟩) (v := .int .i64 3) rfl (by kernel_rfl) (by kernel_rfl) (by kernel_rfl) (fun _ _ _ h => h) (Or.inl ⟨by rfl, ?_⟩) hHeld ?_
  · intro ww hSw
    try dsimp only at hSw
    have H_0 := (hSw.2.1).at_ (v := .int .u32 (a : Int)) 0 rfl
    have H_1 := (hSw.2.1).at_ (v := .int .i64 p) 1 rfl
    have H_2 := (hSw.2.1).at_ (v := .slice A n c) 2 rfl
    have H_3 := (hSw.2.1).at_ (v := .int .i64 sh) 3 rfl
    have H_4 := (hSw.2.1).at_ (v := .int .i64 wo) 4 rfl
    have H_5 := (hSw.2.1).at_ (v := .int .i64 qu) 5 rfl
    have H_6 := (hSw.2.1).at_ (v := .int .i64 tr) 6 rfl
    have H_z := (hSw.2.1).lt
    have G_0 := (hSw.2.2.1).at_ (v := .int .i64 3) 0 rfl
    have G_1 := (hSw.2.2.1).at_ (v := .int .u32 (X : Int)) 1 rfl
    have G_2 := (hSw.2.2.1).at_ (v := .slice C q f) 2 rfl
    have G_z := (hSw.2.2.1).lt
    go_simp
    try with_reducible rfl
    try omega
  try simp only [Act.put, List.setIfInBounds_toArray, List.set_cons_zero, List.set_cons_succ]
  refine wpAnyH_take (i := 4) (oi := ⟨some 21, _, _, _, _, _⟩) (v := ?_) rfl (by kernel_rfl) (by kernel_rfl) (by kernel_rfl) (fun _ _ _ h => h) (Or.inl ⟨by rfl, ?_⟩) hHeld ?_
  rotate_left
  · intro ww hSw
    try dsimp only at hSw
    have H_0 := (hSw.2.1).at_ (v := .int .u32 (a : Int)) 0 rfl
    have H_1 := (hSw.2.1).at_ (v := .int .i64 p) 1 rfl
    have H_2 := (hSw.2.1).at_ (v := .slice A n c) 2 rfl
    have H_3 := (hSw.2.1).at_ (v := .int .i64 sh) 3 rfl
    have H_4 := (hSw.2.1).at_ (v := .int .i64 wo) 4 rfl
    have H_5 := (hSw.2.1).at_ (v := .int .i64 qu) 5 rfl
    have H_6 := (hSw.2.1).at_ (v := .int .i64 tr) 6 rfl
    have H_z := (hSw.2.1).lt
    have G_0 := (hSw.2.2.1).at_ (v := .int .i64 3) 0 rfl
    have G_1 := (hSw.2.2.1).at_ (v := .int .u32 (X : Int)) 1 rfl
    have G_2 := (hSw.2.2.1).at_ (v := .slice C q f) 2 rfl
    have G_z := (hSw.2.2.1).lt
    go_simp
    try with_reducible rfl
    try omega
  try simp only [Act.put, List.setIfInBounds_toArray, List.set_cons_zero, List.set_cons_succ]
  refine wpAnyH_take (i := 5) (oi := ⟨some 22, _, _, _, _, _⟩) (v := ?_) rfl (by kernel_rfl) (by kernel_rfl) (by kernel_rfl) (fun _ _ _ h => h) (Or.inl ⟨by rfl, ?_⟩) hHeld ?_
  rotate_left
  · intro ww hSw
    try dsimp only at hSw
    go_simp
    try with_reducible rfl
    try omega
  try simp only [Act.put, List.setIfInBounds_toArray, List.set_cons_zero, List.set_cons_succ]
  refine wpAnyH_take (i := 6) (oi := ⟨some 23, _, _, _, _, _⟩) (v := ?_) rfl (by kernel_rfl) (by kernel_rfl) (by kernel_rfl) (fun _ _ _ h => h) (Or.inl ⟨by rfl, ?_⟩) hHeld ?_
  rotate_left
  · intro ww hSw
    try dsimp only at hSw
    have H_0 := (hSw.2.1).at_ (v := .int .u32 (a : Int)) 0 rfl
    have H_1 := (hSw.2.1).at_ (v := .int .i64 p) 1 rfl
    have H_2 := (hSw.2.1).at_ (v := .slice A n c) 2 rfl
    have H_3 := (hSw.2.1).at_ (v := .int .i64 sh) 3 rfl
    have H_4 := (hSw.2.1).at_ (v := .int .i64 wo) 4 rfl
    have H_5 := (hSw.2.1).at_ (v := .int .i64 qu) 5 rfl
    have H_6 := (hSw.2.1).at_ (v := .int .i64 tr) 6 rfl
    have H_z := (hSw.2.1).lt
    have G_0 := (hSw.2.2.1).at_ (v := .int .i64 3) 0 rfl
    have G_1 := (hSw.2.2.1).at_ (v := .int .u32 (X : Int)) 1 rfl
    have G_2 := (hSw.2.2.1).at_ (v := .slice C q f) 2 rfl
    have G_z := (hSw.2.2.1).lt
    go_simp
    try with_reducible rfl
    try omega
  try simp only [Act.put, List.setIfInBounds_toArray, List.set_cons_zero, List.set_cons_succ]
  refine wpAnyH_ready (rs := [0]) (by kernel_rfl) (by simp) ?_
  refine AllReadyH.cons (o := ⟨some 17, _, _, _, _, _⟩) rfl (fun K0 hK => ?_) AllReadyH.nil
  go_simp
  refine (kinds_any _).mono ?_
  rintro e v4 ⟨gm, rfl, hmap, K'⟩
  refine hK.out _ _ ⟨Below.then_ hHeld.1 K', hHeld.2.1.below K', hHeld.2.2.1.below K', ⟨_, hHeld.2.2.2.1.choose_spec.1, hHeld.2.2.2.1.choose_spec.2.below K'⟩, trivial⟩ (fun hHeld' => ?_)
  clear hHeld K' hK K0
  have hHeld := hHeld'
  clear hHeld'
  try simp only [Act.put, List.setIfInBounds_toArray, List.set_cons_zero, List.set_cons_succ]
  refine wpAnyH_ready (rs := [3]) (by kernel_rfl) (by simp) ?_
  refine AllReadyH.cons (o := ⟨some 20, _, _, _, _, _⟩) rfl (fun K0 hK => ?_) AllReadyH.nil
  have hrun := hmap.look (k := 3) (by omega) (by omega)
  rw [show fnOf 3 = 51 from rfl] at hrun
  go_simp
  refine hK.out _ _ hHeld (fun hHeld' => ?_)
  clear hHeld hK K0 hrun hmap
  have hHeld := hHeld'
  clear hHeld'
  try simp only [Act.put, List.setIfInBounds_toArray, List.set_cons_zero, List.set_cons_succ]
  refine wpAnyH_ready (rs := [7]) (by kernel_rfl) (by simp) ?_
  refine AllReadyH.cons (o := ⟨some 24, _, _, _, _, _⟩) rfl (fun K0 hK => ?_) AllReadyH.nil
  go_simp
  refine ((TD _ (h0.below hHeld.1) (hs0.below hHeld.1) (hy0.below hHeld.1)).out).mono ?_
  have H_l := (hHeld.2.1).lt
  have G_l := (hHeld.2.2.1).lt
  have R_l := (hHeld.2.2.2.1.choose_spec.2).lt
  rintro e v5 ⟨SA, Sn, Sc, DA, Dn, Dc, EA, En, Ec, rfl, S, hav, D, E, K'⟩
  have S_R := hav gR R_l (hs0.av_old R_b)
  have D_R := D.av R_l
  have E_R := E.av R_l
  have hav0 : ∀ g, g < w.heap.size → Av g B m → Av g SA Sn := fun g hg => hav g (Nat.lt_of_lt_of_le hg (Below.size hHeld.1))
  replace D := D.lower (Below.size hHeld.1)
  replace E := E.lower (Below.size hHeld.1)
  clear hav TD
  refine hK.out _ _ ⟨Below.then_ hHeld.1 K', hHeld.2.1.below K', hHeld.2.2.1.below K', ⟨_, hHeld.2.2.2.1.choose_spec.1, hHeld.2.2.2.1.choose_spec.2.below K'⟩, trivial⟩ (fun hHeld' => ?_)
  clear hHeld K' hK K0
  clear H_l G_l R_l
  have hHeld := hHeld'
  clear hHeld'
  try simp only [Act.put, List.setIfInBounds_toArray, List.set_cons_zero, List.set_cons_succ]
  refine wpAnyH_take (i := 8) (oi := ⟨some 25, _, _, _, _, _⟩) (v := ?_) rfl (by kernel_rfl) (by kernel_rfl) (by kernel_rfl) (fun _ _ _ h => h) (Or.inl ⟨by rfl, ?_⟩) hHeld ?_
  rotate_left
  · intro ww hSw
    try dsimp only at hSw
    go_simp
    try with_reducible rfl
    try omega
  try simp only [Act.put, List.setIfInBounds_toArray, List.set_cons_zero, List.set_cons_succ]
  refine wpAnyH_take (i := 9) (oi := ⟨some 26, _, _, _, _, _⟩) (v := ?_) rfl (by kernel_rfl) (by kernel_rfl) (by kernel_rfl) (fun _ _ _ h => h) (Or.inl ⟨by rfl, ?_⟩) hHeld ?_
  rotate_left
  · intro ww hSw
    try dsimp only at hSw
    go_simp
    try with_reducible rfl
    try omega
  try simp only [Act.put, List.setIfInBounds_toArray, List.set_cons_zero, List.set_cons_succ]
  refine wpAnyH_take (i := 10) (oi := ⟨some 6, _, _, _, _, _⟩) (v := ?_) rfl (by kernel_rfl) (by kernel_rfl) (by kernel_rfl) (fun _ _ _ h => h) (Or.inl ⟨by rfl, ?_⟩) hHeld ?_
  rotate_left
  · intro ww hSw
    try dsimp only at hSw
    go_simp
    try with_reducible rfl
    try omega
  try simp only [Act.put, List.setIfInBounds_toArray, List.set_cons_zero, List.set_cons_succ]
  refine wpAnyH_ready (rs := [11]) (by kernel_rfl) (by simp) ?_
  refine AllReadyH.cons (o := ⟨none, _, _, _, _, _⟩) rfl (fun K0 hK => ?_) AllReadyH.nil
  rw [if_pos (by rfl)]
  refine wp_store_row 34 (.tmp 7) (.tmp 26) rfl gR _ rfl (show _ = Value.agg #[.int .i64 r.2.1, .int .u32 r.2.2.1, .bool r.2.2.2.1, .slice DA Dn Dc, .slice EA En Ec] from rfl) _ _ hHeld.2.2.2.1.choose_spec.2 an_sz hHeld.2.2.2.1.choose_spec.1 (by simp [Value.oneCell']) ?_
  have new_R := Bk.row hHeld.2.2.2.1.choose_spec.2 #[.int .i64 r.2.1, .int .u32 r.2.2.1, .bool r.2.2.2.1, .slice DA Dn Dc, .slice EA En Ec]
  refine hK.out _ _ ⟨below_setRow hHeld.1 R_b _, hHeld.2.1.row_far ne_H_R _, hHeld.2.2.1.row_far ne_G_R _, ⟨_, rfl, new_R⟩, trivial⟩ (fun hHeld' => ?_)
  replace S := S.row_av S_R #[.int .i64 r.2.1, .int .u32 r.2.2.1, .bool r.2.2.2.1, .slice DA Dn Dc, .slice EA En Ec]
  replace D := D.row_av D_R #[.int .i64 r.2.1, .int .u32 r.2.2.1, .bool r.2.2.2.1, .slice DA Dn Dc, .slice EA En Ec]
  replace E := E.row_av E_R #[.int .i64 r.2.1, .int .u32 r.2.2.1, .bool r.2.2.2.1, .slice DA Dn Dc, .slice EA En Ec]
  clear hHeld hK K0
  have hHeld := hHeld'
  clear hHeld'
  generalize v5.setRow gR #[.int .i64 r.2.1, .int .u32 r.2.2.1, .bool r.2.2.2.1, .slice DA Dn Dc, .slice EA En Ec] = v6 at hHeld new_R S D E ⊢
  try simp only [Act.put]
  refine wpAnyH_done (by kernel_rfl) ?_ _
  replace K := hHeld.1
  replace H := hHeld.2.1
  replace G := hHeld.2.2.1
  replace R := new_R
  clear new_R
  clear hHeld
  replace hL := hL0.below K
  replace h := h0.below K
  replace hs := hs0.below K
  replace hy := hy0.below K
  go_wp2
  refine bodyPost_ret (v := .tuple #[.slice SA Sn Sc, .agg #[.int .i64 r.2.1, .int .u32 r.2.2.1, .bool r.2.2.2.1, .slice DA Dn Dc, .slice EA En Ec]]) ?_ rfl ?_
  · exact results_tc (fn := Tryd.f15) Tryd.results15 _ _ gR _ _ (0, 0) _ rfl R Tryd.underlying34 rfl an_sz
  exact ⟨_, _, _, _, _, _, _, _, _, rfl, S, hav0, D, E, K⟩
set_option maxRecDepth 100000 in
set_option maxHeartbeats 4000000 in
theorem some_4 (hL0 : Laid w) (ha : a < 4294967296) (hM : Much a p M) (h0 : IS .i64 lo w A n c zs) (hn : n ≤ 65536) (hs0 : IS .i64 lo2 w B m d xs) (hm : m ≤ 60000) (hx : mayR M zs 0 xs = true) (hX : X < 4294967296) (hy0 : IS .u32 lo3 w C q f ys) (hq : q ≤ 60000) (hw : W32 ys) {r : List Int × An} (hE : askE a M zs 4 X ys = 0) (hdo : doS a M zs xs 4 X ys = r) :
    Calls Tryd.prog 15 #[.agg #[.int .u32 (a : Int), .int .i64 p, .slice A n c, .int .i64 sh, .int .i64 wo, .int .i64 qu, .int .i64 tr], .slice B m d, .agg #[.int .i64 4, .int .u32 (X : Int), .slice C q f]] w (RetSA B m r.1 r.2 w) := by
  obtain ⟨hr_, hb_⟩ := mayR_iff.1 hx
  have hr := Lib.hid hr_
  have hMm := hM.most
  have hb1 := Lib.hid (fun x hx => (hb_ x hx).1)
  have hb2 : Hid (∀ x ∈ xs, 0 ≤ x ∧ x ≤ 65536) := Lib.hid (fun x hx => ⟨(hb_ x hx).1, by have := (hb_ x hx).2.1; omega⟩)
  clear hr_ hb_ hx
  replace hE := Lib.hid hE
  replace hdo := Lib.hid hdo
  have hL := hL0
  have h := h0
  have hs := hs0
  have hy := hy0
  have K := Below.refl w.heap.size w
  go_enter Tryd.func15, Tryd.ntmps15
  go_upto_region 1 with (fail)
  have KS := K.size
  replace hL := hL.below (below_alloc _ (.cells #[.int .u32 (a : Int), .int .i64 p, .slice A n c, .int .i64 sh, .int .i64 wo, .int .i64 qu, .int .i64 tr] 27))
  replace h := h.below (below_alloc _ (.cells #[.int .u32 (a : Int), .int .i64 p, .slice A n c, .int .i64 sh, .int .i64 wo, .int .i64 qu, .int .i64 tr] 27))
  replace hs := hs.below (below_alloc _ (.cells #[.int .u32 (a : Int), .int .i64 p, .slice A n c, .int .i64 sh, .int .i64 wo, .int .i64 qu, .int .i64 tr] 27))
  replace hy := hy.below (below_alloc _ (.cells #[.int .u32 (a : Int), .int .i64 p, .slice A n c, .int .i64 sh, .int .i64 wo, .int .i64 qu, .int .i64 tr] 27))
  replace K := Below.then_ K (below_alloc _ (.cells #[.int .u32 (a : Int), .int .i64 p, .slice A n c, .int .i64 sh, .int .i64 wo, .int .i64 qu, .int .i64 tr] 27))
  have H := Bk.new (w) #[.int .u32 (a : Int), .int .i64 p, .slice A n c, .int .i64 sh, .int .i64 wo, .int .i64 qu, .int .i64 tr] 27
  replace H := H.alloc (.cells #[.int .i64 4, .int .u32 (X : Int), .slice C q f] 30)
  replace hL := hL.below (below_alloc _ (.cells #[.int .i64 4, .int .u32 (X : Int), .slice C q f] 30))
  replace h := h.below (below_alloc _ (.cells #[.int .i64 4, .int .u32 (X : Int), .slice C q f] 30))
  replace hs := hs.below (below_alloc _ (.cells #[.int .i64 4, .int .u32 (X : Int), .slice C q f] 30))
  replace hy := hy.below (below_alloc _ (.cells #[.int .i64 4, .int .u32 (X : Int), .slice C q f] 30))
  replace K := Below.then_ K (below_alloc _ (.cells #[.int .i64 4, .int .u32 (X : Int), .slice C q f] 30))
  have G := Bk.new ((w).alloc (.cells #[.int .u32 (a : Int), .int .i64 p, .slice A n c, .int .i64 sh, .int .i64 wo, .int .i64 qu, .int .i64 tr] 27)) #[.int .i64 4, .int .u32 (X : Int), .slice C q f] 30
  replace H := H.alloc (.cells #[.int .i64 0, .int .u32 0, .bool false, .slice none 0 0, .slice none 0 0] 34)
  replace G := G.alloc (.cells #[.int .i64 0, .int .u32 0, .bool false, .slice none 0 0, .slice none 0 0] 34)
  replace hL := hL.below (below_alloc _ (.cells #[.int .i64 0, .int .u32 0, .bool false, .slice none 0 0, .slice none 0 0] 34))
  replace h := h.below (below_alloc _ (.cells #[.int .i64 0, .int .u32 0, .bool false, .slice none 0 0, .slice none 0 0] 34))
  replace hs := hs.below (below_alloc _ (.cells #[.int .i64 0, .int .u32 0, .bool false, .slice none 0 0, .slice none 0 0] 34))
  replace hy := hy.below (below_alloc _ (.cells #[.int .i64 0, .int .u32 0, .bool false, .slice none 0 0, .slice none 0 0] 34))
  replace K := Below.then_ K (below_alloc _ (.cells #[.int .i64 0, .int .u32 0, .bool false, .slice none 0 0, .slice none 0 0] 34))
  have R := Bk.new (((w).alloc (.cells #[.int .u32 (a : Int), .int .i64 p, .slice A n c, .int .i64 sh, .int .i64 wo, .int .i64 qu, .int .i64 tr] 27)).alloc (.cells #[.int .i64 4, .int .u32 (X : Int), .slice C q f] 30)) #[.int .i64 0, .int .u32 0, .bool false, .slice none 0 0, .slice none 0 0] 34
  try simp only [World.size_alloc] at H G R
  generalize (((w).alloc (.cells #[.int .u32 (a : Int), .int .i64 p, .slice A n c, .int .i64 sh, .int .i64 wo, .int .i64 qu, .int .i64 tr] 27)).alloc (.cells #[.int .i64 4, .int .u32 (X : Int), .slice C q f] 30)).alloc (.cells #[.int .i64 0, .int .u32 0, .bool false, .slice none 0 0, .slice none 0 0] 34) = w1 at H G R hL h hs hy K ⊢
  generalize hgR : w.heap.size + 1 + 1 = gR at H G R ⊢
  generalize hgG : w.heap.size + 1 = gG at H G R ⊢
  generalize hgH : w.heap.size = gH at H G R ⊢
  have H_b : w.heap.size ≤ gH := by omega
  have G_b : w.heap.size ≤ gG := by omega
  have R_b : w.heap.size ≤ gR := by omega
  have ne_H_G : gH ≠ gG := by omega
  have ne_H_R : gH ≠ gR := by omega
  have ne_G_R : gG ≠ gR := by omega
  clear KS hgH hgG hgR 
  have H_0 := H.at_ (v := .int .u32 (a : Int)) 0 rfl
  have H_1 := H.at_ (v := .int .i64 p) 1 rfl
  have H_2 := H.at_ (v := .slice A n c) 2 rfl
  have H_3 := H.at_ (v := .int .i64 sh) 3 rfl
  have H_4 := H.at_ (v := .int .i64 wo) 4 rfl
  have H_5 := H.at_ (v := .int .i64 qu) 5 rfl
  have H_6 := H.at_ (v := .int .i64 tr) 6 rfl
  have H_z := H.lt
  have G_0 := G.at_ (v := .int .i64 4) 0 rfl
  have G_1 := G.at_ (v := .int .u32 (X : Int)) 1 rfl
  have G_2 := G.at_ (v := .slice C q f) 2 rfl
  have G_z := G.lt
  go_wp2_with fail
  refine (check_is (k := 4) (X := X) (v := 0) hL ha hM h hn hy hq hX hw hE.out).mono ?_
  rintro e w2 ⟨rfl, K'⟩
  clear H_0 H_1 H_2 H_3 H_4 H_5 H_6 H_z
  clear G_0 G_1 G_2 G_z
  replace H := H.below K'
  replace G := G.below K'
  replace R := R.below K'
  replace hL := hL.below K'
  replace h := h.below K'
  replace hs := hs.below K'
  replace hy := hy.below K'
  replace K := Below.then_ K K'
  clear K'
  go_wp2
  have TD := fun w (h0 : IS .i64 lo w A n c zs) (hs0 : IS .i64 lo2 w B m d xs) (hy0 : IS .u32 lo3 w C q f ys) => Lib.hid (show Calls _ _ _ w (RetSA B m r.1 r.2 w) from by rw [← hdo.out]; exact batch_any (k := 4) (sh := sh) (wo := wo) (qu := qu) (tr := tr) ha hM (h0) hn (hs0) hm hr.out hX (hy0) hq hw)
  refine wp_region_held_drew (S := fun w' => Below w.heap.size w w' ∧ Bk w' gH 27 #[.int .u32 (a : Int), .int .i64 p, .slice A n c, .int .i64 sh, .int .i64 wo, .int .i64 qu, .int .i64 tr] ∧ Bk w' gG 30 #[.int .i64 4, .int .u32 (X : Int), .slice C q f] ∧ (∃ v : Array Value, v.size = 5 ∧ Bk w' gR 34 v) ∧ True) (by kernel_rfl) ⟨K.drew, H.below ((Below.refl _ _).drew), G.below ((Below.refl _ _).drew), ⟨_, rfl, R.below ((Below.refl _ _).drew)⟩, trivial⟩ (fun hHeld => ?_)
  generalize w2.drew = v3 at hHeld  ⊢
  refine wpAnyH_take (i := 1) (oi := ⟨some 18, _, _, _, _, _⟩) (v := ?_) rfl (by kernel_rfl) (by kernel_rfl) (by kernel_rfl) (fun _ _ _ h => h) (Or.inl ⟨by rfl, ?_⟩) hHeld ?_
  rotate_left
  · intro ww hSw
    try dsimp only at hSw
    go_simp
    try with_reducible rfl
    try omega
  try simp only [Act.put, List.setIfInBounds_toArray, List.set_cons_zero, List.set_cons_succ]
  refine wpAnyH_take (i := 2) (oi := ⟨some 19, _, _, _, _, _⟩) (v := .int .i64 4) rfl (by kernel_rfl) (by kernel_rfl) (by kernel_rfl) (fun _ _ _ h => h) (Or.inl ⟨by rfl, ?_⟩) hHeld ?_
  · intro ww hSw
    try dsimp only at hSw
    have H_0 := (hSw.2.1).at_ (v := .int .u32 (a : Int)) 0 rfl
    have H_1 := (hSw.2.1).at_ (v := .int .i64 p) 1 rfl
    have H_2 := (hSw.2.1).at_ (v := .slice A n c) 2 rfl
    have H_3 := (hSw.2.1).at_ (v := .int .i64 sh) 3 rfl
    have H_4 := (hSw.2.1).at_ (v := .int .i64 wo) 4 rfl
    have H_5 := (hSw.2.1).at_ (v := .int .i64 qu) 5 rfl
    have H_6 := (hSw.2.1).at_ (v := .int .i64 tr) 6 rfl
    have H_z := (hSw.2.1).lt
    have G_0 := (hSw.2.2.1).at_ (v := .int .i64 4) 0 rfl
    have G_1 := (hSw.2.2.1).at_ (v := .int .u32 (X : Int)) 1 rfl
    have G_2 := (hSw.2.2.1).at_ (v := .slice C q f) 2 rfl
    have G_z := (hSw.2.2.1).lt
    go_simp
    try with_reducible rfl
    try omega
  try simp only [Act.put, List.setIfInBounds_toArray, List.set_cons_zero, List.set_cons_succ]
  refine wpAnyH_take (i := 4) (oi := ⟨some 21, _, _, _, _, _⟩) (v := ?_) rfl (by kernel_rfl) (by kernel_rfl) (by kernel_rfl) (fun _ _ _ h => h) (Or.inl ⟨by rfl, ?_⟩) hHeld ?_
  rotate_left
  · intro ww hSw
    try dsimp only at hSw
    have H_0 := (hSw.2.1).at_ (v := .int .u32 (a : Int)) 0 rfl
    have H_1 := (hSw.2.1).at_ (v := .int .i64 p) 1 rfl
    have H_2 := (hSw.2.1).at_ (v := .slice A n c) 2 rfl
    have H_3 := (hSw.2.1).at_ (v := .int .i64 sh) 3 rfl
    have H_4 := (hSw.2.1).at_ (v := .int .i64 wo) 4 rfl
    have H_5 := (hSw.2.1).at_ (v := .int .i64 qu) 5 rfl
    have H_6 := (hSw.2.1).at_ (v := .int .i64 tr) 6 rfl
    have H_z := (hSw.2.1).lt
    have G_0 := (hSw.2.2.1).at_ (v := .int .i64 4) 0 rfl
    have G_1 := (hSw.2.2.1).at_ (v := .int .u32 (X : Int)) 1 rfl
    have G_2 := (hSw.2.2.1).at_ (v := .slice C q f) 2 rfl
    have G_z := (hSw.2.2.1).lt
    go_simp
    try with_reducible rfl
    try omega
  try simp only [Act.put, List.setIfInBounds_toArray, List.set_cons_zero, List.set_cons_succ]
  refine wpAnyH_take (i := 5) (oi := ⟨some 22, _, _, _, _, _⟩) (v := ?_) rfl (by kernel_rfl) (by kernel_rfl) (by kernel_rfl) (fun _ _ _ h => h) (Or.inl ⟨by rfl, ?_⟩) hHeld ?_
  rotate_left
  · intro ww hSw
    try dsimp only at hSw
    go_simp
    try with_reducible rfl
    try omega
  try simp only [Act.put, List.setIfInBounds_toArray, List.set_cons_zero, List.set_cons_succ]
  refine wpAnyH_take (i := 6) (oi := ⟨some 23, _, _, _, _, _⟩) (v := ?_) rfl (by kernel_rfl) (by kernel_rfl) (by kernel_rfl) (fun _ _ _ h => h) (Or.inl ⟨by rfl, ?_⟩) hHeld ?_
  rotate_left
  · intro ww hSw
    try dsimp only at hSw
    have H_0 := (hSw.2.1).at_ (v := .int .u32 (a : Int)) 0 rfl
    have H_1 := (hSw.2.1).at_ (v := .int .i64 p) 1 rfl
    have H_2 := (hSw.2.1).at_ (v := .slice A n c) 2 rfl
    have H_3 := (hSw.2.1).at_ (v := .int .i64 sh) 3 rfl
    have H_4 := (hSw.2.1).at_ (v := .int .i64 wo) 4 rfl
    have H_5 := (hSw.2.1).at_ (v := .int .i64 qu) 5 rfl
    have H_6 := (hSw.2.1).at_ (v := .int .i64 tr) 6 rfl
    have H_z := (hSw.2.1).lt
    have G_0 := (hSw.2.2.1).at_ (v := .int .i64 4) 0 rfl
    have G_1 := (hSw.2.2.1).at_ (v := .int .u32 (X : Int)) 1 rfl
    have G_2 := (hSw.2.2.1).at_ (v := .slice C q f) 2 rfl
    have G_z := (hSw.2.2.1).lt
    go_simp
    try with_reducible rfl
    try omega
  try simp only [Act.put, List.setIfInBounds_toArray, List.set_cons_zero, List.set_cons_succ]
  refine wpAnyH_ready (rs := [0]) (by kernel_rfl) (by simp) ?_
  refine AllReadyH.cons (o := ⟨some 17, _, _, _, _, _⟩) rfl (fun K0 hK => ?_) AllReadyH.nil
  go_simp
  refine (kinds_any _).mono ?_
  rintro e v4 ⟨gm, rfl, hmap, K'⟩
  refine hK.out _ _ ⟨Below.then_ hHeld.1 K', hHeld.2.1.below K', hHeld.2.2.1.below K', ⟨_, hHeld.2.2.2.1.choose_spec.1, hHeld.2.2.2.1.choose_spec.2.below K'⟩, trivial⟩ (fun hHeld' => ?_)
  clear hHeld K' hK K0
  have hHeld := hHeld'
  clear hHeld'
  try simp only [Act.put, List.setIfInBounds_toArray, List.set_cons_zero, List.set_cons_succ]
  refine wpAnyH_ready (rs := [3]) (by kernel_rfl) (by simp) ?_
  refine AllReadyH.cons (o := ⟨some 20, _, _, _, _, _⟩) rfl (fun K0 hK => ?_) AllReadyH.nil
  have hrun := hmap.look (k := 4) (by omega) (by omega)
  rw [show fnOf 4 = 52 from rfl] at hrun
  go_simp
  refine hK.out _ _ hHeld (fun hHeld' => ?_)
  clear hHeld hK K0 hrun hmap
  have hHeld := hHeld'
  clear hHeld'
  try simp only [Act.put, List.setIfInBounds_toArray, List.set_cons_zero, List.set_cons_succ]
  refine wpAnyH_ready (rs := [7]) (by kernel_rfl) (by simp) ?_
  refine AllReadyH.cons (o := ⟨some 24, _, _, _, _, _⟩) rfl (fun K0 hK => ?_) AllReadyH.nil
  go_simp
  refine ((TD _ (h0.below hHeld.1) (hs0.below hHeld.1) (hy0.below hHeld.1)).out).mono ?_
  have H_l := (hHeld.2.1).lt
  have G_l := (hHeld.2.2.1).lt
  have R_l := (hHeld.2.2.2.1.choose_spec.2).lt
  rintro e v5 ⟨SA, Sn, Sc, DA, Dn, Dc, EA, En, Ec, rfl, S, hav, D, E, K'⟩
  have S_R := hav gR R_l (hs0.av_old R_b)
  have D_R := D.av R_l
  have E_R := E.av R_l
  have hav0 : ∀ g, g < w.heap.size → Av g B m → Av g SA Sn := fun g hg => hav g (Nat.lt_of_lt_of_le hg (Below.size hHeld.1))
  replace D := D.lower (Below.size hHeld.1)
  replace E := E.lower (Below.size hHeld.1)
  clear hav TD
  refine hK.out _ _ ⟨Below.then_ hHeld.1 K', hHeld.2.1.below K', hHeld.2.2.1.below K', ⟨_, hHeld.2.2.2.1.choose_spec.1, hHeld.2.2.2.1.choose_spec.2.below K'⟩, trivial⟩ (fun hHeld' => ?_)
  clear hHeld K' hK K0
  clear H_l G_l R_l
  have hHeld := hHeld'
  clear hHeld'
  try simp only [Act.put, List.setIfInBounds_toArray, List.set_cons_zero, List.set_cons_succ]
  refine wpAnyH_take (i := 8) (oi := ⟨some 25, _, _, _, _, _⟩) (v := ?_) rfl (by kernel_rfl) (by kernel_rfl) (by kernel_rfl) (fun _ _ _ h => h) (Or.inl ⟨by rfl, ?_⟩) hHeld ?_
  rotate_left
  · intro ww hSw
    try dsimp only at hSw
    go_simp
    try with_reducible rfl
    try omega
  try simp only [Act.put, List.setIfInBounds_toArray, List.set_cons_zero, List.set_cons_succ]
  refine wpAnyH_take (i := 9) (oi := ⟨some 26, _, _, _, _, _⟩) (v := ?_) rfl (by kernel_rfl) (by kernel_rfl) (by kernel_rfl) (fun _ _ _ h => h) (Or.inl ⟨by rfl, ?_⟩) hHeld ?_
  rotate_left
  · intro ww hSw
    try dsimp only at hSw
    go_simp
    try with_reducible rfl
    try omega
  try simp only [Act.put, List.setIfInBounds_toArray, List.set_cons_zero, List.set_cons_succ]
  refine wpAnyH_take (i := 10) (oi := ⟨some 6, _, _, _, _, _⟩) (v := ?_) rfl (by kernel_rfl) (by kernel_rfl) (by kernel_rfl) (fun _ _ _ h => h) (Or.inl ⟨by rfl, ?_⟩) hHeld ?_
  rotate_left
  · intro ww hSw
    try dsimp only at hSw
    go_simp
    try with_reducible rfl
    try omega
  try simp only [Act.put, List.setIfInBounds_toArray, List.set_cons_zero, List.set_cons_succ]
  refine wpAnyH_ready (rs := [11]) (by kernel_rfl) (by simp) ?_
  refine AllReadyH.cons (o := ⟨none, _, _, _, _, _⟩) rfl (fun K0 hK => ?_) AllReadyH.nil
  rw [if_pos (by rfl)]
  refine wp_store_row 34 (.tmp 7) (.tmp 26) rfl gR _ rfl (show _ = Value.agg #[.int .i64 r.2.1, .int .u32 r.2.2.1, .bool r.2.2.2.1, .slice DA Dn Dc, .slice EA En Ec] from rfl) _ _ hHeld.2.2.2.1.choose_spec.2 an_sz hHeld.2.2.2.1.choose_spec.1 (by simp [Value.oneCell']) ?_
  have new_R := Bk.row hHeld.2.2.2.1.choose_spec.2 #[.int .i64 r.2.1, .int .u32 r.2.2.1, .bool r.2.2.2.1, .slice DA Dn Dc, .slice EA En Ec]
  refine hK.out _ _ ⟨below_setRow hHeld.1 R_b _, hHeld.2.1.row_far ne_H_R _, hHeld.2.2.1.row_far ne_G_R _, ⟨_, rfl, new_R⟩, trivial⟩ (fun hHeld' => ?_)
  replace S := S.row_av S_R #[.int .i64 r.2.1, .int .u32 r.2.2.1, .bool r.2.2.2.1, .slice DA Dn Dc, .slice EA En Ec]
  replace D := D.row_av D_R #[.int .i64 r.2.1, .int .u32 r.2.2.1, .bool r.2.2.2.1, .slice DA Dn Dc, .slice EA En Ec]
  replace E := E.row_av E_R #[.int .i64 r.2.1, .int .u32 r.2.2.1, .bool r.2.2.2.1, .slice DA Dn Dc, .slice EA En Ec]
  clear hHeld hK K0
  have hHeld := hHeld'
  clear hHeld'
  generalize v5.setRow gR #[.int .i64 r.2.1, .int .u32 r.2.2.1, .bool r.2.2.2.1, .slice DA Dn Dc, .slice EA En Ec] = v6 at hHeld new_R S D E ⊢
  try simp only [Act.put]
  refine wpAnyH_done (by kernel_rfl) ?_ _
  replace K := hHeld.1
  replace H := hHeld.2.1
  replace G := hHeld.2.2.1
  replace R := new_R
  clear new_R
  clear hHeld
  replace hL := hL0.below K
  replace h := h0.below K
  replace hs := hs0.below K
  replace hy := hy0.below K
  go_wp2
  refine bodyPost_ret (v := .tuple #[.slice SA Sn Sc, .agg #[.int .i64 r.2.1, .int .u32 r.2.2.1, .bool r.2.2.2.1, .slice DA Dn Dc, .slice EA En Ec]]) ?_ rfl ?_
  · exact results_tc (fn := Tryd.f15) Tryd.results15 _ _ gR _ _ (0, 0) _ rfl R Tryd.underlying34 rfl an_sz
  exact ⟨_, _, _, _, _, _, _, _, _, rfl, S, hav0, D, E, K⟩
set_option maxRecDepth 100000 in
set_option maxHeartbeats 4000000 in
theorem some_5 (hL0 : Laid w) (ha : a < 4294967296) (hM : Much a p M) (h0 : IS .i64 lo w A n c zs) (hn : n ≤ 65536) (hs0 : IS .i64 lo2 w B m d xs) (hm : m ≤ 60000) (hx : mayR M zs 0 xs = true) (hX : X < 4294967296) (hy0 : IS .u32 lo3 w C q f ys) (hq : q ≤ 60000) (hw : W32 ys) {r : List Int × An} (hE : askE a M zs 5 X ys = 0) (hdo : doS a M zs xs 5 X ys = r) :
    Calls Tryd.prog 15 #[.agg #[.int .u32 (a : Int), .int .i64 p, .slice A n c, .int .i64 sh, .int .i64 wo, .int .i64 qu, .int .i64 tr], .slice B m d, .agg #[.int .i64 5, .int .u32 (X : Int), .slice C q f]] w (RetSA B m r.1 r.2 w) := by
  obtain ⟨hr_, hb_⟩ := mayR_iff.1 hx
  have hr := Lib.hid hr_
  have hMm := hM.most
  have hb1 := Lib.hid (fun x hx => (hb_ x hx).1)
  have hb2 : Hid (∀ x ∈ xs, 0 ≤ x ∧ x ≤ 65536) := Lib.hid (fun x hx => ⟨(hb_ x hx).1, by have := (hb_ x hx).2.1; omega⟩)
  clear hr_ hb_ hx
  replace hE := Lib.hid hE
  replace hdo := Lib.hid hdo
  have hL := hL0
  have h := h0
  have hs := hs0
  have hy := hy0
  have K := Below.refl w.heap.size w
  go_enter Tryd.func15, Tryd.ntmps15
  go_upto_region 1 with (fail)
  have KS := K.size
  replace hL := hL.below (below_alloc _ (.cells #[.int .u32 (a : Int), .int .i64 p, .slice A n c, .int .i64 sh, .int .i64 wo, .int .i64 qu, .int .i64 tr] 27))
  replace h := h.below (below_alloc _ (.cells #[.int .u32 (a : Int), .int .i64 p, .slice A n c, .int .i64 sh, .int .i64 wo, .int .i64 qu, .int .i64 tr] 27))
  replace hs := hs.below (below_alloc _ (.cells #[.int .u32 (a : Int), .int .i64 p, .slice A n c, .int .i64 sh, .int .i64 wo, .int .i64 qu, .int .i64 tr] 27))
  replace hy := hy.below (below_alloc _ (.cells #[.int .u32 (a : Int), .int .i64 p, .slice A n c, .int .i64 sh, .int .i64 wo, .int .i64 qu, .int .i64 tr] 27))
  replace K := Below.then_ K (below_alloc _ (.cells #[.int .u32 (a : Int), .int .i64 p, .slice A n c, .int .i64 sh, .int .i64 wo, .int .i64 qu, .int .i64 tr] 27))
  have H := Bk.new (w) #[.int .u32 (a : Int), .int .i64 p, .slice A n c, .int .i64 sh, .int .i64 wo, .int .i64 qu, .int .i64 tr] 27
  replace H := H.alloc (.cells #[.int .i64 5, .int .u32 (X : Int), .slice C q f] 30)
  replace hL := hL.below (below_alloc _ (.cells #[.int .i64 5, .int .u32 (X : Int), .slice C q f] 30))
  replace h := h.below (below_alloc _ (.cells #[.int .i64 5, .int .u32 (X : Int), .slice C q f] 30))
  replace hs := hs.below (below_alloc _ (.cells #[.int .i64 5, .int .u32 (X : Int), .slice C q f] 30))
  replace hy := hy.below (below_alloc _ (.cells #[.int .i64 5, .int .u32 (X : Int), .slice C q f] 30))
  replace K := Below.then_ K (below_alloc _ (.cells #[.int .i64 5, .int .u32 (X : Int), .slice C q f] 30))
  have G := Bk.new ((w).alloc (.cells #[.int .u32 (a : Int), .int .i64 p, .slice A n c, .int .i64 sh, .int .i64 wo, .int .i64 qu, .int .i64 tr] 27)) #[.int .i64 5, .int .u32 (X : Int), .slice C q f] 30
  replace H := H.alloc (.cells #[.int .i64 0, .int .u32 0, .bool false, .slice none 0 0, .slice none 0 0] 34)
  replace G := G.alloc (.cells #[.int .i64 0, .int .u32 0, .bool false, .slice none 0 0, .slice none 0 0] 34)
  replace hL := hL.below (below_alloc _ (.cells #[.int .i64 0, .int .u32 0, .bool false, .slice none 0 0, .slice none 0 0] 34))
  replace h := h.below (below_alloc _ (.cells #[.int .i64 0, .int .u32 0, .bool false, .slice none 0 0, .slice none 0 0] 34))
  replace hs := hs.below (below_alloc _ (.cells #[.int .i64 0, .int .u32 0, .bool false, .slice none 0 0, .slice none 0 0] 34))
  replace hy := hy.below (below_alloc _ (.cells #[.int .i64 0, .int .u32 0, .bool false, .slice none 0 0, .slice none 0 0] 34))
  replace K := Below.then_ K (below_alloc _ (.cells #[.int .i64 0, .int .u32 0, .bool false, .slice none 0 0, .slice none 0 0] 34))
  have R := Bk.new (((w).alloc (.cells #[.int .u32 (a : Int), .int .i64 p, .slice A n c, .int .i64 sh, .int .i64 wo, .int .i64 qu, .int .i64 tr] 27)).alloc (.cells #[.int .i64 5, .int .u32 (X : Int), .slice C q f] 30)) #[.int .i64 0, .int .u32 0, .bool false, .slice none 0 0, .slice none 0 0] 34
  try simp only [World.size_alloc] at H G R
  generalize (((w).alloc (.cells #[.int .u32 (a : Int), .int .i64 p, .slice A n c, .int .i64 sh, .int .i64 wo, .int .i64 qu, .int .i64 tr] 27)).alloc (.cells #[.int .i64 5, .int .u32 (X : Int), .slice C q f] 30)).alloc (.cells #[.int .i64 0, .int .u32 0, .bool false, .slice none 0 0, .slice none 0 0] 34) = w1 at H G R hL h hs hy K ⊢
  generalize hgR : w.heap.size + 1 + 1 = gR at H G R ⊢
  generalize hgG : w.heap.size + 1 = gG at H G R ⊢
  generalize hgH : w.heap.size = gH at H G R ⊢
  have H_b : w.heap.size ≤ gH := by omega
  have G_b : w.heap.size ≤ gG := by omega
  have R_b : w.heap.size ≤ gR := by omega
  have ne_H_G : gH ≠ gG := by omega
  have ne_H_R : gH ≠ gR := by omega
  have ne_G_R : gG ≠ gR := by omega
  clear KS hgH hgG hgR 
  have H_0 := H.at_ (v := .int .u32 (a : Int)) 0 rfl
  have H_1 := H.at_ (v := .int .i64 p) 1 rfl
  have H_2 := H.at_ (v := .slice A n c) 2 rfl
  have H_3 := H.at_ (v := .int .i64 sh) 3 rfl
  have H_4 := H.at_ (v := .int .i64 wo) 4 rfl
  have H_5 := H.at_ (v := .int .i64 qu) 5 rfl
  have H_6 := H.at_ (v := .int .i64 tr) 6 rfl
  have H_z := H.lt
  have G_0 := G.at_ (v := .int .i64 5) 0 rfl
  have G_1 := G.at_ (v := .int .u32 (X : Int)) 1 rfl
  have G_2 := G.at_ (v := .slice C q f) 2 rfl
  have G_z := G.lt
  go_wp2_with fail
  refine (check_is (k := 5) (X := X) (v := 0) hL ha hM h hn hy hq hX hw hE.out).mono ?_
  rintro e w2 ⟨rfl, K'⟩
  clear H_0 H_1 H_2 H_3 H_4 H_5 H_6 H_z
  clear G_0 G_1 G_2 G_z
  replace H := H.below K'
  replace G := G.below K'
  replace R := R.below K'
  replace hL := hL.below K'
  replace h := h.below K'
  replace hs := hs.below K'
  replace hy := hy.below K'
  replace K := Below.then_ K K'
  clear K'
  go_wp2
  have TD := fun w (h0 : IS .i64 lo w A n c zs) (hs0 : IS .i64 lo2 w B m d xs) (hy0 : IS .u32 lo3 w C q f ys) => Lib.hid (show Calls _ _ _ w (RetSA B m r.1 r.2 w) from by rw [← hdo.out]; exact query_any (k := 5) (C := C) (q := q) (f := f) (ys := ys) (sh := sh) (wo := wo) (qu := qu) (tr := tr) ha hM (h0) hn (hs0) hm hr.out hX)
  refine wp_region_held_drew (S := fun w' => Below w.heap.size w w' ∧ Bk w' gH 27 #[.int .u32 (a : Int), .int .i64 p, .slice A n c, .int .i64 sh, .int .i64 wo, .int .i64 qu, .int .i64 tr] ∧ Bk w' gG 30 #[.int .i64 5, .int .u32 (X : Int), .slice C q f] ∧ (∃ v : Array Value, v.size = 5 ∧ Bk w' gR 34 v) ∧ True) (by kernel_rfl) ⟨K.drew, H.below ((Below.refl _ _).drew), G.below ((Below.refl _ _).drew), ⟨_, rfl, R.below ((Below.refl _ _).drew)⟩, trivial⟩ (fun hHeld => ?_)
  generalize w2.drew = v3 at hHeld  ⊢
  refine wpAnyH_take (i := 1) (oi := ⟨some 18, _, _, _, _, _⟩) (v := ?_) rfl (by kernel_rfl) (by kernel_rfl) (by kernel_rfl) (fun _ _ _ h => h) (Or.inl ⟨by rfl, ?_⟩) hHeld ?_
  rotate_left
  · intro ww hSw
    try dsimp only at hSw
    go_simp
    try with_reducible rfl
    try omega
  try simp only [Act.put, List.setIfInBounds_toArray, List.set_cons_zero, List.set_cons_succ]
  refine wpAnyH_take (i := 2) (oi := ⟨some 19, _, _, _, _, _⟩) (v := .int .i64 5) rfl (by kernel_rfl) (by kernel_rfl) (by kernel_rfl) (fun _ _ _ h => h) (Or.inl ⟨by rfl, ?_⟩) hHeld ?_
  · intro ww hSw
    try dsimp only at hSw
    have H_0 := (hSw.2.1).at_ (v := .int .u32 (a : Int)) 0 rfl
    have H_1 := (hSw.2.1).at_ (v := .int .i64 p) 1 rfl
    have H_2 := (hSw.2.1).at_ (v := .slice A n c) 2 rfl
    have H_3 := (hSw.2.1).at_ (v := .int .i64 sh) 3 rfl
    have H_4 := (hSw.2.1).at_ (v := .int .i64 wo) 4 rfl
    have H_5 := (hSw.2.1).at_ (v := .int .i64 qu) 5 rfl
    have H_6 := (hSw.2.1).at_ (v := .int .i64 tr) 6 rfl
    have H_z := (hSw.2.1).lt
    have G_0 := (hSw.2.2.1).at_ (v := .int .i64 5) 0 rfl
    have G_1 := (hSw.2.2.1).at_ (v := .int .u32 (X : Int)) 1 rfl
    have G_2 := (hSw.2.2.1).at_ (v := .slice C q f) 2 rfl
    have G_z := (hSw.2.2.1).lt
    go_simp
    try with_reducible rfl
    try omega
  try simp only [Act.put, List.setIfInBounds_toArray, List.set_cons_zero, List.set_cons_succ]
  refine wpAnyH_take (i := 4) (oi := ⟨some 21, _, _, _, _, _⟩) (v := ?_) rfl (by kernel_rfl) (by kernel_rfl) (by kernel_rfl) (fun _ _ _ h => h) (Or.inl ⟨by rfl, ?_⟩) hHeld ?_
  rotate_left
  · intro ww hSw
    try dsimp only at hSw
    have H_0 := (hSw.2.1).at_ (v := .int .u32 (a : Int)) 0 rfl
    have H_1 := (hSw.2.1).at_ (v := .int .i64 p) 1 rfl
    have H_2 := (hSw.2.1).at_ (v := .slice A n c) 2 rfl
    have H_3 := (hSw.2.1).at_ (v := .int .i64 sh) 3 rfl
    have H_4 := (hSw.2.1).at_ (v := .int .i64 wo) 4 rfl
    have H_5 := (hSw.2.1).at_ (v := .int .i64 qu) 5 rfl
    have H_6 := (hSw.2.1).at_ (v := .int .i64 tr) 6 rfl
    have H_z := (hSw.2.1).lt
    have G_0 := (hSw.2.2.1).at_ (v := .int .i64 5) 0 rfl
    have G_1 := (hSw.2.2.1).at_ (v := .int .u32 (X : Int)) 1 rfl
    have G_2 := (hSw.2.2.1).at_ (v := .slice C q f) 2 rfl
    have G_z := (hSw.2.2.1).lt
    go_simp
    try with_reducible rfl
    try omega
  try simp only [Act.put, List.setIfInBounds_toArray, List.set_cons_zero, List.set_cons_succ]
  refine wpAnyH_take (i := 5) (oi := ⟨some 22, _, _, _, _, _⟩) (v := ?_) rfl (by kernel_rfl) (by kernel_rfl) (by kernel_rfl) (fun _ _ _ h => h) (Or.inl ⟨by rfl, ?_⟩) hHeld ?_
  rotate_left
  · intro ww hSw
    try dsimp only at hSw
    go_simp
    try with_reducible rfl
    try omega
  try simp only [Act.put, List.setIfInBounds_toArray, List.set_cons_zero, List.set_cons_succ]
  refine wpAnyH_take (i := 6) (oi := ⟨some 23, _, _, _, _, _⟩) (v := ?_) rfl (by kernel_rfl) (by kernel_rfl) (by kernel_rfl) (fun _ _ _ h => h) (Or.inl ⟨by rfl, ?_⟩) hHeld ?_
  rotate_left
  · intro ww hSw
    try dsimp only at hSw
    have H_0 := (hSw.2.1).at_ (v := .int .u32 (a : Int)) 0 rfl
    have H_1 := (hSw.2.1).at_ (v := .int .i64 p) 1 rfl
    have H_2 := (hSw.2.1).at_ (v := .slice A n c) 2 rfl
    have H_3 := (hSw.2.1).at_ (v := .int .i64 sh) 3 rfl
    have H_4 := (hSw.2.1).at_ (v := .int .i64 wo) 4 rfl
    have H_5 := (hSw.2.1).at_ (v := .int .i64 qu) 5 rfl
    have H_6 := (hSw.2.1).at_ (v := .int .i64 tr) 6 rfl
    have H_z := (hSw.2.1).lt
    have G_0 := (hSw.2.2.1).at_ (v := .int .i64 5) 0 rfl
    have G_1 := (hSw.2.2.1).at_ (v := .int .u32 (X : Int)) 1 rfl
    have G_2 := (hSw.2.2.1).at_ (v := .slice C q f) 2 rfl
    have G_z := (hSw.2.2.1).lt
    go_simp
    try with_reducible rfl
    try omega
  try simp only [Act.put, List.setIfInBounds_toArray, List.set_cons_zero, List.set_cons_succ]
  refine wpAnyH_ready (rs := [0]) (by kernel_rfl) (by simp) ?_
  refine AllReadyH.cons (o := ⟨some 17, _, _, _, _, _⟩) rfl (fun K0 hK => ?_) AllReadyH.nil
  go_simp
  refine (kinds_any _).mono ?_
  rintro e v4 ⟨gm, rfl, hmap, K'⟩
  refine hK.out _ _ ⟨Below.then_ hHeld.1 K', hHeld.2.1.below K', hHeld.2.2.1.below K', ⟨_, hHeld.2.2.2.1.choose_spec.1, hHeld.2.2.2.1.choose_spec.2.below K'⟩, trivial⟩ (fun hHeld' => ?_)
  clear hHeld K' hK K0
  have hHeld := hHeld'
  clear hHeld'
  try simp only [Act.put, List.setIfInBounds_toArray, List.set_cons_zero, List.set_cons_succ]
  refine wpAnyH_ready (rs := [3]) (by kernel_rfl) (by simp) ?_
  refine AllReadyH.cons (o := ⟨some 20, _, _, _, _, _⟩) rfl (fun K0 hK => ?_) AllReadyH.nil
  have hrun := hmap.look (k := 5) (by omega) (by omega)
  rw [show fnOf 5 = 53 from rfl] at hrun
  go_simp
  refine hK.out _ _ hHeld (fun hHeld' => ?_)
  clear hHeld hK K0 hrun hmap
  have hHeld := hHeld'
  clear hHeld'
  try simp only [Act.put, List.setIfInBounds_toArray, List.set_cons_zero, List.set_cons_succ]
  refine wpAnyH_ready (rs := [7]) (by kernel_rfl) (by simp) ?_
  refine AllReadyH.cons (o := ⟨some 24, _, _, _, _, _⟩) rfl (fun K0 hK => ?_) AllReadyH.nil
  go_simp
  refine ((TD _ (h0.below hHeld.1) (hs0.below hHeld.1) (hy0.below hHeld.1)).out).mono ?_
  have H_l := (hHeld.2.1).lt
  have G_l := (hHeld.2.2.1).lt
  have R_l := (hHeld.2.2.2.1.choose_spec.2).lt
  rintro e v5 ⟨SA, Sn, Sc, DA, Dn, Dc, EA, En, Ec, rfl, S, hav, D, E, K'⟩
  have S_R := hav gR R_l (hs0.av_old R_b)
  have D_R := D.av R_l
  have E_R := E.av R_l
  have hav0 : ∀ g, g < w.heap.size → Av g B m → Av g SA Sn := fun g hg => hav g (Nat.lt_of_lt_of_le hg (Below.size hHeld.1))
  replace D := D.lower (Below.size hHeld.1)
  replace E := E.lower (Below.size hHeld.1)
  clear hav TD
  refine hK.out _ _ ⟨Below.then_ hHeld.1 K', hHeld.2.1.below K', hHeld.2.2.1.below K', ⟨_, hHeld.2.2.2.1.choose_spec.1, hHeld.2.2.2.1.choose_spec.2.below K'⟩, trivial⟩ (fun hHeld' => ?_)
  clear hHeld K' hK K0
  clear H_l G_l R_l
  have hHeld := hHeld'
  clear hHeld'
  try simp only [Act.put, List.setIfInBounds_toArray, List.set_cons_zero, List.set_cons_succ]
  refine wpAnyH_take (i := 8) (oi := ⟨some 25, _, _, _, _, _⟩) (v := ?_) rfl (by kernel_rfl) (by kernel_rfl) (by kernel_rfl) (fun _ _ _ h => h) (Or.inl ⟨by rfl, ?_⟩) hHeld ?_
  rotate_left
  · intro ww hSw
    try dsimp only at hSw
    go_simp
    try with_reducible rfl
    try omega
  try simp only [Act.put, List.setIfInBounds_toArray, List.set_cons_zero, List.set_cons_succ]
  refine wpAnyH_take (i := 9) (oi := ⟨some 26, _, _, _, _, _⟩) (v := ?_) rfl (by kernel_rfl) (by kernel_rfl) (by kernel_rfl) (fun _ _ _ h => h) (Or.inl ⟨by rfl, ?_⟩) hHeld ?_
  rotate_left
  · intro ww hSw
    try dsimp only at hSw
    go_simp
    try with_reducible rfl
    try omega
  try simp only [Act.put, List.setIfInBounds_toArray, List.set_cons_zero, List.set_cons_succ]
  refine wpAnyH_take (i := 10) (oi := ⟨some 6, _, _, _, _, _⟩) (v := ?_) rfl (by kernel_rfl) (by kernel_rfl) (by kernel_rfl) (fun _ _ _ h => h) (Or.inl ⟨by rfl, ?_⟩) hHeld ?_
  rotate_left
  · intro ww hSw
    try dsimp only at hSw
    go_simp
    try with_reducible rfl
    try omega
  try simp only [Act.put, List.setIfInBounds_toArray, List.set_cons_zero, List.set_cons_succ]
  refine wpAnyH_ready (rs := [11]) (by kernel_rfl) (by simp) ?_
  refine AllReadyH.cons (o := ⟨none, _, _, _, _, _⟩) rfl (fun K0 hK => ?_) AllReadyH.nil
  rw [if_pos (by rfl)]
  refine wp_store_row 34 (.tmp 7) (.tmp 26) rfl gR _ rfl (show _ = Value.agg #[.int .i64 r.2.1, .int .u32 r.2.2.1, .bool r.2.2.2.1, .slice DA Dn Dc, .slice EA En Ec] from rfl) _ _ hHeld.2.2.2.1.choose_spec.2 an_sz hHeld.2.2.2.1.choose_spec.1 (by simp [Value.oneCell']) ?_
  have new_R := Bk.row hHeld.2.2.2.1.choose_spec.2 #[.int .i64 r.2.1, .int .u32 r.2.2.1, .bool r.2.2.2.1, .slice DA Dn Dc, .slice EA En Ec]
  refine hK.out _ _ ⟨below_setRow hHeld.1 R_b _, hHeld.2.1.row_far ne_H_R _, hHeld.2.2.1.row_far ne_G_R _, ⟨_, rfl, new_R⟩, trivial⟩ (fun hHeld' => ?_)
  replace S := S.row_av S_R #[.int .i64 r.2.1, .int .u32 r.2.2.1, .bool r.2.2.2.1, .slice DA Dn Dc, .slice EA En Ec]
  replace D := D.row_av D_R #[.int .i64 r.2.1, .int .u32 r.2.2.1, .bool r.2.2.2.1, .slice DA Dn Dc, .slice EA En Ec]
  replace E := E.row_av E_R #[.int .i64 r.2.1, .int .u32 r.2.2.1, .bool r.2.2.2.1, .slice DA Dn Dc, .slice EA En Ec]
  clear hHeld hK K0
  have hHeld := hHeld'
  clear hHeld'
  generalize v5.setRow gR #[.int .i64 r.2.1, .int .u32 r.2.2.1, .bool r.2.2.2.1, .slice DA Dn Dc, .slice EA En Ec] = v6 at hHeld new_R S D E ⊢
  try simp only [Act.put]
  refine wpAnyH_done (by kernel_rfl) ?_ _
  replace K := hHeld.1
  replace H := hHeld.2.1
  replace G := hHeld.2.2.1
  replace R := new_R
  clear new_R
  clear hHeld
  replace hL := hL0.below K
  replace h := h0.below K
  replace hs := hs0.below K
  replace hy := hy0.below K
  go_wp2
  refine bodyPost_ret (v := .tuple #[.slice SA Sn Sc, .agg #[.int .i64 r.2.1, .int .u32 r.2.2.1, .bool r.2.2.2.1, .slice DA Dn Dc, .slice EA En Ec]]) ?_ rfl ?_
  · exact results_tc (fn := Tryd.f15) Tryd.results15 _ _ gR _ _ (0, 0) _ rfl R Tryd.underlying34 rfl an_sz
  exact ⟨_, _, _, _, _, _, _, _, _, rfl, S, hav0, D, E, K⟩
set_option maxRecDepth 100000 in
set_option maxHeartbeats 4000000 in
theorem some_6 (hL0 : Laid w) (ha : a < 4294967296) (hM : Much a p M) (h0 : IS .i64 lo w A n c zs) (hn : n ≤ 65536) (hs0 : IS .i64 lo2 w B m d xs) (hm : m ≤ 60000) (hx : mayR M zs 0 xs = true) (hX : X < 4294967296) (hy0 : IS .u32 lo3 w C q f ys) (hq : q ≤ 60000) (hw : W32 ys) {r : List Int × An} (hE : askE a M zs 6 X ys = 0) (hdo : doS a M zs xs 6 X ys = r) :
    Calls Tryd.prog 15 #[.agg #[.int .u32 (a : Int), .int .i64 p, .slice A n c, .int .i64 sh, .int .i64 wo, .int .i64 qu, .int .i64 tr], .slice B m d, .agg #[.int .i64 6, .int .u32 (X : Int), .slice C q f]] w (RetSA B m r.1 r.2 w) := by
  obtain ⟨hr_, hb_⟩ := mayR_iff.1 hx
  have hr := Lib.hid hr_
  have hMm := hM.most
  have hb1 := Lib.hid (fun x hx => (hb_ x hx).1)
  have hb2 : Hid (∀ x ∈ xs, 0 ≤ x ∧ x ≤ 65536) := Lib.hid (fun x hx => ⟨(hb_ x hx).1, by have := (hb_ x hx).2.1; omega⟩)
  clear hr_ hb_ hx
  replace hE := Lib.hid hE
  replace hdo := Lib.hid hdo
  have hL := hL0
  have h := h0
  have hs := hs0
  have hy := hy0
  have K := Below.refl w.heap.size w
  go_enter Tryd.func15, Tryd.ntmps15
  go_upto_region 1 with (fail)
  have KS := K.size
  replace hL := hL.below (below_alloc _ (.cells #[.int .u32 (a : Int), .int .i64 p, .slice A n c, .int .i64 sh, .int .i64 wo, .int .i64 qu, .int .i64 tr] 27))
  replace h := h.below (below_alloc _ (.cells #[.int .u32 (a : Int), .int .i64 p, .slice A n c, .int .i64 sh, .int .i64 wo, .int .i64 qu, .int .i64 tr] 27))
  replace hs := hs.below (below_alloc _ (.cells #[.int .u32 (a : Int), .int .i64 p, .slice A n c, .int .i64 sh, .int .i64 wo, .int .i64 qu, .int .i64 tr] 27))
  replace hy := hy.below (below_alloc _ (.cells #[.int .u32 (a : Int), .int .i64 p, .slice A n c, .int .i64 sh, .int .i64 wo, .int .i64 qu, .int .i64 tr] 27))
  replace K := Below.then_ K (below_alloc _ (.cells #[.int .u32 (a : Int), .int .i64 p, .slice A n c, .int .i64 sh, .int .i64 wo, .int .i64 qu, .int .i64 tr] 27))
  have H := Bk.new (w) #[.int .u32 (a : Int), .int .i64 p, .slice A n c, .int .i64 sh, .int .i64 wo, .int .i64 qu, .int .i64 tr] 27
  replace H := H.alloc (.cells #[.int .i64 6, .int .u32 (X : Int), .slice C q f] 30)
  replace hL := hL.below (below_alloc _ (.cells #[.int .i64 6, .int .u32 (X : Int), .slice C q f] 30))
  replace h := h.below (below_alloc _ (.cells #[.int .i64 6, .int .u32 (X : Int), .slice C q f] 30))
  replace hs := hs.below (below_alloc _ (.cells #[.int .i64 6, .int .u32 (X : Int), .slice C q f] 30))
  replace hy := hy.below (below_alloc _ (.cells #[.int .i64 6, .int .u32 (X : Int), .slice C q f] 30))
  replace K := Below.then_ K (below_alloc _ (.cells #[.int .i64 6, .int .u32 (X : Int), .slice C q f] 30))
  have G := Bk.new ((w).alloc (.cells #[.int .u32 (a : Int), .int .i64 p, .slice A n c, .int .i64 sh, .int .i64 wo, .int .i64 qu, .int .i64 tr] 27)) #[.int .i64 6, .int .u32 (X : Int), .slice C q f] 30
  replace H := H.alloc (.cells #[.int .i64 0, .int .u32 0, .bool false, .slice none 0 0, .slice none 0 0] 34)
  replace G := G.alloc (.cells #[.int .i64 0, .int .u32 0, .bool false, .slice none 0 0, .slice none 0 0] 34)
  replace hL := hL.below (below_alloc _ (.cells #[.int .i64 0, .int .u32 0, .bool false, .slice none 0 0, .slice none 0 0] 34))
  replace h := h.below (below_alloc _ (.cells #[.int .i64 0, .int .u32 0, .bool false, .slice none 0 0, .slice none 0 0] 34))
  replace hs := hs.below (below_alloc _ (.cells #[.int .i64 0, .int .u32 0, .bool false, .slice none 0 0, .slice none 0 0] 34))
  replace hy := hy.below (below_alloc _ (.cells #[.int .i64 0, .int .u32 0, .bool false, .slice none 0 0, .slice none 0 0] 34))
  replace K := Below.then_ K (below_alloc _ (.cells #[.int .i64 0, .int .u32 0, .bool false, .slice none 0 0, .slice none 0 0] 34))
  have R := Bk.new (((w).alloc (.cells #[.int .u32 (a : Int), .int .i64 p, .slice A n c, .int .i64 sh, .int .i64 wo, .int .i64 qu, .int .i64 tr] 27)).alloc (.cells #[.int .i64 6, .int .u32 (X : Int), .slice C q f] 30)) #[.int .i64 0, .int .u32 0, .bool false, .slice none 0 0, .slice none 0 0] 34
  try simp only [World.size_alloc] at H G R
  generalize (((w).alloc (.cells #[.int .u32 (a : Int), .int .i64 p, .slice A n c, .int .i64 sh, .int .i64 wo, .int .i64 qu, .int .i64 tr] 27)).alloc (.cells #[.int .i64 6, .int .u32 (X : Int), .slice C q f] 30)).alloc (.cells #[.int .i64 0, .int .u32 0, .bool false, .slice none 0 0, .slice none 0 0] 34) = w1 at H G R hL h hs hy K ⊢
  generalize hgR : w.heap.size + 1 + 1 = gR at H G R ⊢
  generalize hgG : w.heap.size + 1 = gG at H G R ⊢
  generalize hgH : w.heap.size = gH at H G R ⊢
  have H_b : w.heap.size ≤ gH := by omega
  have G_b : w.heap.size ≤ gG := by omega
  have R_b : w.heap.size ≤ gR := by omega
  have ne_H_G : gH ≠ gG := by omega
  have ne_H_R : gH ≠ gR := by omega
  have ne_G_R : gG ≠ gR := by omega
  clear KS hgH hgG hgR 
  have H_0 := H.at_ (v := .int .u32 (a : Int)) 0 rfl
  have H_1 := H.at_ (v := .int .i64 p) 1 rfl
  have H_2 := H.at_ (v := .slice A n c) 2 rfl
  have H_3 := H.at_ (v := .int .i64 sh) 3 rfl
  have H_4 := H.at_ (v := .int .i64 wo) 4 rfl
  have H_5 := H.at_ (v := .int .i64 qu) 5 rfl
  have H_6 := H.at_ (v := .int .i64 tr) 6 rfl
  have H_z := H.lt
  have G_0 := G.at_ (v := .int .i64 6) 0 rfl
  have G_1 := G.at_ (v := .int .u32 (X : Int)) 1 rfl
  have G_2 := G.at_ (v := .slice C q f) 2 rfl
  have G_z := G.lt
  go_wp2_with fail
  refine (check_is (k := 6) (X := X) (v := 0) hL ha hM h hn hy hq hX hw hE.out).mono ?_
  rintro e w2 ⟨rfl, K'⟩
  clear H_0 H_1 H_2 H_3 H_4 H_5 H_6 H_z
  clear G_0 G_1 G_2 G_z
  replace H := H.below K'
  replace G := G.below K'
  replace R := R.below K'
  replace hL := hL.below K'
  replace h := h.below K'
  replace hs := hs.below K'
  replace hy := hy.below K'
  replace K := Below.then_ K K'
  clear K'
  go_wp2
  have TD := fun w (h0 : IS .i64 lo w A n c zs) (hs0 : IS .i64 lo2 w B m d xs) (hy0 : IS .u32 lo3 w C q f ys) => Lib.hid (show Calls _ _ _ w (RetSA B m r.1 r.2 w) from by rw [← hdo.out]; exact snapshot_any (k := 6) (C := C) (q := q) (f := f) (ys := ys) (sh := sh) (wo := wo) (qu := qu) (tr := tr) ha hM (h0) hn (hs0) hm hr.out hX hb2.out)
  refine wp_region_held_drew (S := fun w' => Below w.heap.size w w' ∧ Bk w' gH 27 #[.int .u32 (a : Int), .int .i64 p, .slice A n c, .int .i64 sh, .int .i64 wo, .int .i64 qu, .int .i64 tr] ∧ Bk w' gG 30 #[.int .i64 6, .int .u32 (X : Int), .slice C q f] ∧ (∃ v : Array Value, v.size = 5 ∧ Bk w' gR 34 v) ∧ True) (by kernel_rfl) ⟨K.drew, H.below ((Below.refl _ _).drew), G.below ((Below.refl _ _).drew), ⟨_, rfl, R.below ((Below.refl _ _).drew)⟩, trivial⟩ (fun hHeld => ?_)
  generalize w2.drew = v3 at hHeld  ⊢
  refine wpAnyH_take (i := 1) (oi := ⟨some 18, _, _, _, _, _⟩) (v := ?_) rfl (by kernel_rfl) (by kernel_rfl) (by kernel_rfl) (fun _ _ _ h => h) (Or.inl ⟨by rfl, ?_⟩) hHeld ?_
  rotate_left
  · intro ww hSw
    try dsimp only at hSw
    go_simp
    try with_reducible rfl
    try omega
  try simp only [Act.put, List.setIfInBounds_toArray, List.set_cons_zero, List.set_cons_succ]
  refine wpAnyH_take (i := 2) (oi := ⟨some 19, _, _, _, _, _⟩) (v := .int .i64 6) rfl (by kernel_rfl) (by kernel_rfl) (by kernel_rfl) (fun _ _ _ h => h) (Or.inl ⟨by rfl, ?_⟩) hHeld ?_
  · intro ww hSw
    try dsimp only at hSw
    have H_0 := (hSw.2.1).at_ (v := .int .u32 (a : Int)) 0 rfl
    have H_1 := (hSw.2.1).at_ (v := .int .i64 p) 1 rfl
    have H_2 := (hSw.2.1).at_ (v := .slice A n c) 2 rfl
    have H_3 := (hSw.2.1).at_ (v := .int .i64 sh) 3 rfl
    have H_4 := (hSw.2.1).at_ (v := .int .i64 wo) 4 rfl
    have H_5 := (hSw.2.1).at_ (v := .int .i64 qu) 5 rfl
    have H_6 := (hSw.2.1).at_ (v := .int .i64 tr) 6 rfl
    have H_z := (hSw.2.1).lt
    have G_0 := (hSw.2.2.1).at_ (v := .int .i64 6) 0 rfl
    have G_1 := (hSw.2.2.1).at_ (v := .int .u32 (X : Int)) 1 rfl
    have G_2 := (hSw.2.2.1).at_ (v := .slice C q f) 2 rfl
    have G_z := (hSw.2.2.1).lt
    go_simp
    try with_reducible rfl
    try omega
  try simp only [Act.put, List.setIfInBounds_toArray, List.set_cons_zero, List.set_cons_succ]
  refine wpAnyH_take (i := 4) (oi := ⟨some 21, _, _, _, _, _⟩) (v := ?_) rfl (by kernel_rfl) (by kernel_rfl) (by kernel_rfl) (fun _ _ _ h => h) (Or.inl ⟨by rfl, ?_⟩) hHeld ?_
  rotate_left
  · intro ww hSw
    try dsimp only at hSw
    have H_0 := (hSw.2.1).at_ (v := .int .u32 (a : Int)) 0 rfl
    have H_1 := (hSw.2.1).at_ (v := .int .i64 p) 1 rfl
    have H_2 := (hSw.2.1).at_ (v := .slice A n c) 2 rfl
    have H_3 := (hSw.2.1).at_ (v := .int .i64 sh) 3 rfl
    have H_4 := (hSw.2.1).at_ (v := .int .i64 wo) 4 rfl
    have H_5 := (hSw.2.1).at_ (v := .int .i64 qu) 5 rfl
    have H_6 := (hSw.2.1).at_ (v := .int .i64 tr) 6 rfl
    have H_z := (hSw.2.1).lt
    have G_0 := (hSw.2.2.1).at_ (v := .int .i64 6) 0 rfl
    have G_1 := (hSw.2.2.1).at_ (v := .int .u32 (X : Int)) 1 rfl
    have G_2 := (hSw.2.2.1).at_ (v := .slice C q f) 2 rfl
    have G_z := (hSw.2.2.1).lt
    go_simp
    try with_reducible rfl
    try omega
  try simp only [Act.put, List.setIfInBounds_toArray, List.set_cons_zero, List.set_cons_succ]
  refine wpAnyH_take (i := 5) (oi := ⟨some 22, _, _, _, _, _⟩) (v := ?_) rfl (by kernel_rfl) (by kernel_rfl) (by kernel_rfl) (fun _ _ _ h => h) (Or.inl ⟨by rfl, ?_⟩) hHeld ?_
  rotate_left
  · intro ww hSw
    try dsimp only at hSw
    go_simp
    try with_reducible rfl
    try omega
  try simp only [Act.put, List.setIfInBounds_toArray, List.set_cons_zero, List.set_cons_succ]
  refine wpAnyH_take (i := 6) (oi := ⟨some 23, _, _, _, _, _⟩) (v := ?_) rfl (by kernel_rfl) (by kernel_rfl) (by kernel_rfl) (fun _ _ _ h => h) (Or.inl ⟨by rfl, ?_⟩) hHeld ?_
  rotate_left
  · intro ww hSw
    try dsimp only at hSw
    have H_0 := (hSw.2.1).at_ (v := .int .u32 (a : Int)) 0 rfl
    have H_1 := (hSw.2.1).at_ (v := .int .i64 p) 1 rfl
    have H_2 := (hSw.2.1).at_ (v := .slice A n c) 2 rfl
    have H_3 := (hSw.2.1).at_ (v := .int .i64 sh) 3 rfl
    have H_4 := (hSw.2.1).at_ (v := .int .i64 wo) 4 rfl
    have H_5 := (hSw.2.1).at_ (v := .int .i64 qu) 5 rfl
    have H_6 := (hSw.2.1).at_ (v := .int .i64 tr) 6 rfl
    have H_z := (hSw.2.1).lt
    have G_0 := (hSw.2.2.1).at_ (v := .int .i64 6) 0 rfl
    have G_1 := (hSw.2.2.1).at_ (v := .int .u32 (X : Int)) 1 rfl
    have G_2 := (hSw.2.2.1).at_ (v := .slice C q f) 2 rfl
    have G_z := (hSw.2.2.1).lt
    go_simp
    try with_reducible rfl
    try omega
  try simp only [Act.put, List.setIfInBounds_toArray, List.set_cons_zero, List.set_cons_succ]
  refine wpAnyH_ready (rs := [0]) (by kernel_rfl) (by simp) ?_
  refine AllReadyH.cons (o := ⟨some 17, _, _, _, _, _⟩) rfl (fun K0 hK => ?_) AllReadyH.nil
  go_simp
  refine (kinds_any _).mono ?_
  rintro e v4 ⟨gm, rfl, hmap, K'⟩
  refine hK.out _ _ ⟨Below.then_ hHeld.1 K', hHeld.2.1.below K', hHeld.2.2.1.below K', ⟨_, hHeld.2.2.2.1.choose_spec.1, hHeld.2.2.2.1.choose_spec.2.below K'⟩, trivial⟩ (fun hHeld' => ?_)
  clear hHeld K' hK K0
  have hHeld := hHeld'
  clear hHeld'
  try simp only [Act.put, List.setIfInBounds_toArray, List.set_cons_zero, List.set_cons_succ]
  refine wpAnyH_ready (rs := [3]) (by kernel_rfl) (by simp) ?_
  refine AllReadyH.cons (o := ⟨some 20, _, _, _, _, _⟩) rfl (fun K0 hK => ?_) AllReadyH.nil
  have hrun := hmap.look (k := 6) (by omega) (by omega)
  rw [show fnOf 6 = 54 from rfl] at hrun
  go_simp
  refine hK.out _ _ hHeld (fun hHeld' => ?_)
  clear hHeld hK K0 hrun hmap
  have hHeld := hHeld'
  clear hHeld'
  try simp only [Act.put, List.setIfInBounds_toArray, List.set_cons_zero, List.set_cons_succ]
  refine wpAnyH_ready (rs := [7]) (by kernel_rfl) (by simp) ?_
  refine AllReadyH.cons (o := ⟨some 24, _, _, _, _, _⟩) rfl (fun K0 hK => ?_) AllReadyH.nil
  go_simp
  refine ((TD _ (h0.below hHeld.1) (hs0.below hHeld.1) (hy0.below hHeld.1)).out).mono ?_
  have H_l := (hHeld.2.1).lt
  have G_l := (hHeld.2.2.1).lt
  have R_l := (hHeld.2.2.2.1.choose_spec.2).lt
  rintro e v5 ⟨SA, Sn, Sc, DA, Dn, Dc, EA, En, Ec, rfl, S, hav, D, E, K'⟩
  have S_R := hav gR R_l (hs0.av_old R_b)
  have D_R := D.av R_l
  have E_R := E.av R_l
  have hav0 : ∀ g, g < w.heap.size → Av g B m → Av g SA Sn := fun g hg => hav g (Nat.lt_of_lt_of_le hg (Below.size hHeld.1))
  replace D := D.lower (Below.size hHeld.1)
  replace E := E.lower (Below.size hHeld.1)
  clear hav TD
  refine hK.out _ _ ⟨Below.then_ hHeld.1 K', hHeld.2.1.below K', hHeld.2.2.1.below K', ⟨_, hHeld.2.2.2.1.choose_spec.1, hHeld.2.2.2.1.choose_spec.2.below K'⟩, trivial⟩ (fun hHeld' => ?_)
  clear hHeld K' hK K0
  clear H_l G_l R_l
  have hHeld := hHeld'
  clear hHeld'
  try simp only [Act.put, List.setIfInBounds_toArray, List.set_cons_zero, List.set_cons_succ]
  refine wpAnyH_take (i := 8) (oi := ⟨some 25, _, _, _, _, _⟩) (v := ?_) rfl (by kernel_rfl) (by kernel_rfl) (by kernel_rfl) (fun _ _ _ h => h) (Or.inl ⟨by rfl, ?_⟩) hHeld ?_
  rotate_left
  · intro ww hSw
    try dsimp only at hSw
    go_simp
    try with_reducible rfl
    try omega
  try simp only [Act.put, List.setIfInBounds_toArray, List.set_cons_zero, List.set_cons_succ]
  refine wpAnyH_take (i := 9) (oi := ⟨some 26, _, _, _, _, _⟩) (v := ?_) rfl (by kernel_rfl) (by kernel_rfl) (by kernel_rfl) (fun _ _ _ h => h) (Or.inl ⟨by rfl, ?_⟩) hHeld ?_
  rotate_left
  · intro ww hSw
    try dsimp only at hSw
    go_simp
    try with_reducible rfl
    try omega
  try simp only [Act.put, List.setIfInBounds_toArray, List.set_cons_zero, List.set_cons_succ]
  refine wpAnyH_take (i := 10) (oi := ⟨some 6, _, _, _, _, _⟩) (v := ?_) rfl (by kernel_rfl) (by kernel_rfl) (by kernel_rfl) (fun _ _ _ h => h) (Or.inl ⟨by rfl, ?_⟩) hHeld ?_
  rotate_left
  · intro ww hSw
    try dsimp only at hSw
    go_simp
    try with_reducible rfl
    try omega
  try simp only [Act.put, List.setIfInBounds_toArray, List.set_cons_zero, List.set_cons_succ]
  refine wpAnyH_ready (rs := [11]) (by kernel_rfl) (by simp) ?_
  refine AllReadyH.cons (o := ⟨none, _, _, _, _, _⟩) rfl (fun K0 hK => ?_) AllReadyH.nil
  rw [if_pos (by rfl)]
  refine wp_store_row 34 (.tmp 7) (.tmp 26) rfl gR _ rfl (show _ = Value.agg #[.int .i64 r.2.1, .int .u32 r.2.2.1, .bool r.2.2.2.1, .slice DA Dn Dc, .slice EA En Ec] from rfl) _ _ hHeld.2.2.2.1.choose_spec.2 an_sz hHeld.2.2.2.1.choose_spec.1 (by simp [Value.oneCell']) ?_
  have new_R := Bk.row hHeld.2.2.2.1.choose_spec.2 #[.int .i64 r.2.1, .int .u32 r.2.2.1, .bool r.2.2.2.1, .slice DA Dn Dc, .slice EA En Ec]
  refine hK.out _ _ ⟨below_setRow hHeld.1 R_b _, hHeld.2.1.row_far ne_H_R _, hHeld.2.2.1.row_far ne_G_R _, ⟨_, rfl, new_R⟩, trivial⟩ (fun hHeld' => ?_)
  replace S := S.row_av S_R #[.int .i64 r.2.1, .int .u32 r.2.2.1, .bool r.2.2.2.1, .slice DA Dn Dc, .slice EA En Ec]
  replace D := D.row_av D_R #[.int .i64 r.2.1, .int .u32 r.2.2.1, .bool r.2.2.2.1, .slice DA Dn Dc, .slice EA En Ec]
  replace E := E.row_av E_R #[.int .i64 r.2.1, .int .u32 r.2.2.1, .bool r.2.2.2.1, .slice DA Dn Dc, .slice EA En Ec]
  clear hHeld hK K0
  have hHeld := hHeld'
  clear hHeld'
  generalize v5.setRow gR #[.int .i64 r.2.1, .int .u32 r.2.2.1, .bool r.2.2.2.1, .slice DA Dn Dc, .slice EA En Ec] = v6 at hHeld new_R S D E ⊢
  try simp only [Act.put]
  refine wpAnyH_done (by kernel_rfl) ?_ _
  replace K := hHeld.1
  replace H := hHeld.2.1
  replace G := hHeld.2.2.1
  replace R := new_R
  clear new_R
  clear hHeld
  replace hL := hL0.below K
  replace h := h0.below K
  replace hs := hs0.below K
  replace hy := hy0.below K
  go_wp2
  refine bodyPost_ret (v := .tuple #[.slice SA Sn Sc, .agg #[.int .i64 r.2.1, .int .u32 r.2.2.1, .bool r.2.2.2.1, .slice DA Dn Dc, .slice EA En Ec]]) ?_ rfl ?_
  · exact results_tc (fn := Tryd.f15) Tryd.results15 _ _ gR _ _ (0, 0) _ rfl R Tryd.underlying34 rfl an_sz
  exact ⟨_, _, _, _, _, _, _, _, _, rfl, S, hav0, D, E, K⟩
set_option maxRecDepth 100000 in
set_option maxHeartbeats 4000000 in
theorem some_7 (hL0 : Laid w) (ha : a < 4294967296) (hM : Much a p M) (h0 : IS .i64 lo w A n c zs) (hn : n ≤ 65536) (hs0 : IS .i64 lo2 w B m d xs) (hm : m ≤ 60000) (hx : mayR M zs 0 xs = true) (hX : X < 4294967296) (hy0 : IS .u32 lo3 w C q f ys) (hq : q ≤ 60000) (hw : W32 ys) {r : List Int × An} (hE : askE a M zs 7 X ys = 0) (hdo : doS a M zs xs 7 X ys = r) :
    Calls Tryd.prog 15 #[.agg #[.int .u32 (a : Int), .int .i64 p, .slice A n c, .int .i64 sh, .int .i64 wo, .int .i64 qu, .int .i64 tr], .slice B m d, .agg #[.int .i64 7, .int .u32 (X : Int), .slice C q f]] w (RetSA B m r.1 r.2 w) := by
  obtain ⟨hr_, hb_⟩ := mayR_iff.1 hx
  have hr := Lib.hid hr_
  have hMm := hM.most
  have hb1 := Lib.hid (fun x hx => (hb_ x hx).1)
  have hb2 : Hid (∀ x ∈ xs, 0 ≤ x ∧ x ≤ 65536) := Lib.hid (fun x hx => ⟨(hb_ x hx).1, by have := (hb_ x hx).2.1; omega⟩)
  clear hr_ hb_ hx
  replace hE := Lib.hid hE
  replace hdo := Lib.hid hdo
  have hL := hL0
  have h := h0
  have hs := hs0
  have hy := hy0
  have K := Below.refl w.heap.size w
  go_enter Tryd.func15, Tryd.ntmps15
  go_upto_region 1 with (fail)
  have KS := K.size
  replace hL := hL.below (below_alloc _ (.cells #[.int .u32 (a : Int), .int .i64 p, .slice A n c, .int .i64 sh, .int .i64 wo, .int .i64 qu, .int .i64 tr] 27))
  replace h := h.below (below_alloc _ (.cells #[.int .u32 (a : Int), .int .i64 p, .slice A n c, .int .i64 sh, .int .i64 wo, .int .i64 qu, .int .i64 tr] 27))
  replace hs := hs.below (below_alloc _ (.cells #[.int .u32 (a : Int), .int .i64 p, .slice A n c, .int .i64 sh, .int .i64 wo, .int .i64 qu, .int .i64 tr] 27))
  replace hy := hy.below (below_alloc _ (.cells #[.int .u32 (a : Int), .int .i64 p, .slice A n c, .int .i64 sh, .int .i64 wo, .int .i64 qu, .int .i64 tr] 27))
  replace K := Below.then_ K (below_alloc _ (.cells #[.int .u32 (a : Int), .int .i64 p, .slice A n c, .int .i64 sh, .int .i64 wo, .int .i64 qu, .int .i64 tr] 27))
  have H := Bk.new (w) #[.int .u32 (a : Int), .int .i64 p, .slice A n c, .int .i64 sh, .int .i64 wo, .int .i64 qu, .int .i64 tr] 27
  replace H := H.alloc (.cells #[.int .i64 7, .int .u32 (X : Int), .slice C q f] 30)
  replace hL := hL.below (below_alloc _ (.cells #[.int .i64 7, .int .u32 (X : Int), .slice C q f] 30))
  replace h := h.below (below_alloc _ (.cells #[.int .i64 7, .int .u32 (X : Int), .slice C q f] 30))
  replace hs := hs.below (below_alloc _ (.cells #[.int .i64 7, .int .u32 (X : Int), .slice C q f] 30))
  replace hy := hy.below (below_alloc _ (.cells #[.int .i64 7, .int .u32 (X : Int), .slice C q f] 30))
  replace K := Below.then_ K (below_alloc _ (.cells #[.int .i64 7, .int .u32 (X : Int), .slice C q f] 30))
  have G := Bk.new ((w).alloc (.cells #[.int .u32 (a : Int), .int .i64 p, .slice A n c, .int .i64 sh, .int .i64 wo, .int .i64 qu, .int .i64 tr] 27)) #[.int .i64 7, .int .u32 (X : Int), .slice C q f] 30
  replace H := H.alloc (.cells #[.int .i64 0, .int .u32 0, .bool false, .slice none 0 0, .slice none 0 0] 34)
  replace G := G.alloc (.cells #[.int .i64 0, .int .u32 0, .bool false, .slice none 0 0, .slice none 0 0] 34)
  replace hL := hL.below (below_alloc _ (.cells #[.int .i64 0, .int .u32 0, .bool false, .slice none 0 0, .slice none 0 0] 34))
  replace h := h.below (below_alloc _ (.cells #[.int .i64 0, .int .u32 0, .bool false, .slice none 0 0, .slice none 0 0] 34))
  replace hs := hs.below (below_alloc _ (.cells #[.int .i64 0, .int .u32 0, .bool false, .slice none 0 0, .slice none 0 0] 34))
  replace hy := hy.below (below_alloc _ (.cells #[.int .i64 0, .int .u32 0, .bool false, .slice none 0 0, .slice none 0 0] 34))
  replace K := Below.then_ K (below_alloc _ (.cells #[.int .i64 0, .int .u32 0, .bool false, .slice none 0 0, .slice none 0 0] 34))
  have R := Bk.new (((w).alloc (.cells #[.int .u32 (a : Int), .int .i64 p, .slice A n c, .int .i64 sh, .int .i64 wo, .int .i64 qu, .int .i64 tr] 27)).alloc (.cells #[.int .i64 7, .int .u32 (X : Int), .slice C q f] 30)) #[.int .i64 0, .int .u32 0, .bool false, .slice none 0 0, .slice none 0 0] 34
  try simp only [World.size_alloc] at H G R
  generalize (((w).alloc (.cells #[.int .u32 (a : Int), .int .i64 p, .slice A n c, .int .i64 sh, .int .i64 wo, .int .i64 qu, .int .i64 tr] 27)).alloc (.cells #[.int .i64 7, .int .u32 (X : Int), .slice C q f] 30)).alloc (.cells #[.int .i64 0, .int .u32 0, .bool false, .slice none 0 0, .slice none 0 0] 34) = w1 at H G R hL h hs hy K ⊢
  generalize hgR : w.heap.size + 1 + 1 = gR at H G R ⊢
  generalize hgG : w.heap.size + 1 = gG at H G R ⊢
  generalize hgH : w.heap.size = gH at H G R ⊢
  have H_b : w.heap.size ≤ gH := by omega
  have G_b : w.heap.size ≤ gG := by omega
  have R_b : w.heap.size ≤ gR := by omega
  have ne_H_G : gH ≠ gG := by omega
  have ne_H_R : gH ≠ gR := by omega
  have ne_G_R : gG ≠ gR := by omega
  clear KS hgH hgG hgR 
  have H_0 := H.at_ (v := .int .u32 (a : Int)) 0 rfl
  have H_1 := H.at_ (v := .int .i64 p) 1 rfl
  have H_2 := H.at_ (v := .slice A n c) 2 rfl
  have H_3 := H.at_ (v := .int .i64 sh) 3 rfl
  have H_4 := H.at_ (v := .int .i64 wo) 4 rfl
  have H_5 := H.at_ (v := .int .i64 qu) 5 rfl
  have H_6 := H.at_ (v := .int .i64 tr) 6 rfl
  have H_z := H.lt
  have G_0 := G.at_ (v := .int .i64 7) 0 rfl
  have G_1 := G.at_ (v := .int .u32 (X : Int)) 1 rfl
  have G_2 := G.at_ (v := .slice C q f) 2 rfl
  have G_z := G.lt
  go_wp2_with fail
  refine (check_is (k := 7) (X := X) (v := 0) hL ha hM h hn hy hq hX hw hE.out).mono ?_
  rintro e w2 ⟨rfl, K'⟩
  clear H_0 H_1 H_2 H_3 H_4 H_5 H_6 H_z
  clear G_0 G_1 G_2 G_z
  replace H := H.below K'
  replace G := G.below K'
  replace R := R.below K'
  replace hL := hL.below K'
  replace h := h.below K'
  replace hs := hs.below K'
  replace hy := hy.below K'
  replace K := Below.then_ K K'
  clear K'
  go_wp2
  have TD := fun w (h0 : IS .i64 lo w A n c zs) (hs0 : IS .i64 lo2 w B m d xs) (hy0 : IS .u32 lo3 w C q f ys) => Lib.hid (show Calls _ _ _ w (RetSA B m r.1 r.2 w) from by rw [← hdo.out]; exact closing_any (k := 7) (C := C) (q := q) (f := f) (ys := ys) (sh := sh) (wo := wo) (qu := qu) (tr := tr) ha hM (h0) hn (hs0) hm hr.out hX)
  refine wp_region_held_drew (S := fun w' => Below w.heap.size w w' ∧ Bk w' gH 27 #[.int .u32 (a : Int), .int .i64 p, .slice A n c, .int .i64 sh, .int .i64 wo, .int .i64 qu, .int .i64 tr] ∧ Bk w' gG 30 #[.int .i64 7, .int .u32 (X : Int), .slice C q f] ∧ (∃ v : Array Value, v.size = 5 ∧ Bk w' gR 34 v) ∧ True) (by kernel_rfl) ⟨K.drew, H.below ((Below.refl _ _).drew), G.below ((Below.refl _ _).drew), ⟨_, rfl, R.below ((Below.refl _ _).drew)⟩, trivial⟩ (fun hHeld => ?_)
  generalize w2.drew = v3 at hHeld  ⊢
  refine wpAnyH_take (i := 1) (oi := ⟨some 18, _, _, _, _, _⟩) (v := ?_) rfl (by kernel_rfl) (by kernel_rfl) (by kernel_rfl) (fun _ _ _ h => h) (Or.inl ⟨by rfl, ?_⟩) hHeld ?_
  rotate_left
  · intro ww hSw
    try dsimp only at hSw
    go_simp
    try with_reducible rfl
    try omega
  try simp only [Act.put, List.setIfInBounds_toArray, List.set_cons_zero, List.set_cons_succ]
  refine wpAnyH_take (i := 2) (oi := ⟨some 19, _, _, _, _, _⟩) (v := .int .i64 7) rfl (by kernel_rfl) (by kernel_rfl) (by kernel_rfl) (fun _ _ _ h => h) (Or.inl ⟨by rfl, ?_⟩) hHeld ?_
  · intro ww hSw
    try dsimp only at hSw
    have H_0 := (hSw.2.1).at_ (v := .int .u32 (a : Int)) 0 rfl
    have H_1 := (hSw.2.1).at_ (v := .int .i64 p) 1 rfl
    have H_2 := (hSw.2.1).at_ (v := .slice A n c) 2 rfl
    have H_3 := (hSw.2.1).at_ (v := .int .i64 sh) 3 rfl
    have H_4 := (hSw.2.1).at_ (v := .int .i64 wo) 4 rfl
    have H_5 := (hSw.2.1).at_ (v := .int .i64 qu) 5 rfl
    have H_6 := (hSw.2.1).at_ (v := .int .i64 tr) 6 rfl
    have H_z := (hSw.2.1).lt
    have G_0 := (hSw.2.2.1).at_ (v := .int .i64 7) 0 rfl
    have G_1 := (hSw.2.2.1).at_ (v := .int .u32 (X : Int)) 1 rfl
    have G_2 := (hSw.2.2.1).at_ (v := .slice C q f) 2 rfl
    have G_z := (hSw.2.2.1).lt
    go_simp
    try with_reducible rfl
    try omega
  try simp only [Act.put, List.setIfInBounds_toArray, List.set_cons_zero, List.set_cons_succ]
  refine wpAnyH_take (i := 4) (oi := ⟨some 21, _, _, _, _, _⟩) (v := ?_) rfl (by kernel_rfl) (by kernel_rfl) (by kernel_rfl) (fun _ _ _ h => h) (Or.inl ⟨by rfl, ?_⟩) hHeld ?_
  rotate_left
  · intro ww hSw
    try dsimp only at hSw
    have H_0 := (hSw.2.1).at_ (v := .int .u32 (a : Int)) 0 rfl
    have H_1 := (hSw.2.1).at_ (v := .int .i64 p) 1 rfl
    have H_2 := (hSw.2.1).at_ (v := .slice A n c) 2 rfl
    have H_3 := (hSw.2.1).at_ (v := .int .i64 sh) 3 rfl
    have H_4 := (hSw.2.1).at_ (v := .int .i64 wo) 4 rfl
    have H_5 := (hSw.2.1).at_ (v := .int .i64 qu) 5 rfl
    have H_6 := (hSw.2.1).at_ (v := .int .i64 tr) 6 rfl
    have H_z := (hSw.2.1).lt
    have G_0 := (hSw.2.2.1).at_ (v := .int .i64 7) 0 rfl
    have G_1 := (hSw.2.2.1).at_ (v := .int .u32 (X : Int)) 1 rfl
    have G_2 := (hSw.2.2.1).at_ (v := .slice C q f) 2 rfl
    have G_z := (hSw.2.2.1).lt
    go_simp
    try with_reducible rfl
    try omega
  try simp only [Act.put, List.setIfInBounds_toArray, List.set_cons_zero, List.set_cons_succ]
  refine wpAnyH_take (i := 5) (oi := ⟨some 22, _, _, _, _, _⟩) (v := ?_) rfl (by kernel_rfl) (by kernel_rfl) (by kernel_rfl) (fun _ _ _ h => h) (Or.inl ⟨by rfl, ?_⟩) hHeld ?_
  rotate_left
  · intro ww hSw
    try dsimp only at hSw
    go_simp
    try with_reducible rfl
    try omega
  try simp only [Act.put, List.setIfInBounds_toArray, List.set_cons_zero, List.set_cons_succ]
  refine wpAnyH_take (i := 6) (oi := ⟨some 23, _, _, _, _, _⟩) (v := ?_) rfl (by kernel_rfl) (by kernel_rfl) (by kernel_rfl) (fun _ _ _ h => h) (Or.inl ⟨by rfl, ?_⟩) hHeld ?_
  rotate_left
  · intro ww hSw
    try dsimp only at hSw
    have H_0 := (hSw.2.1).at_ (v := .int .u32 (a : Int)) 0 rfl
    have H_1 := (hSw.2.1).at_ (v := .int .i64 p) 1 rfl
    have H_2 := (hSw.2.1).at_ (v := .slice A n c) 2 rfl
    have H_3 := (hSw.2.1).at_ (v := .int .i64 sh) 3 rfl
    have H_4 := (hSw.2.1).at_ (v := .int .i64 wo) 4 rfl
    have H_5 := (hSw.2.1).at_ (v := .int .i64 qu) 5 rfl
    have H_6 := (hSw.2.1).at_ (v := .int .i64 tr) 6 rfl
    have H_z := (hSw.2.1).lt
    have G_0 := (hSw.2.2.1).at_ (v := .int .i64 7) 0 rfl
    have G_1 := (hSw.2.2.1).at_ (v := .int .u32 (X : Int)) 1 rfl
    have G_2 := (hSw.2.2.1).at_ (v := .slice C q f) 2 rfl
    have G_z := (hSw.2.2.1).lt
    go_simp
    try with_reducible rfl
    try omega
  try simp only [Act.put, List.setIfInBounds_toArray, List.set_cons_zero, List.set_cons_succ]
  refine wpAnyH_ready (rs := [0]) (by kernel_rfl) (by simp) ?_
  refine AllReadyH.cons (o := ⟨some 17, _, _, _, _, _⟩) rfl (fun K0 hK => ?_) AllReadyH.nil
  go_simp
  refine (kinds_any _).mono ?_
  rintro e v4 ⟨gm, rfl, hmap, K'⟩
  refine hK.out _ _ ⟨Below.then_ hHeld.1 K', hHeld.2.1.below K', hHeld.2.2.1.below K', ⟨_, hHeld.2.2.2.1.choose_spec.1, hHeld.2.2.2.1.choose_spec.2.below K'⟩, trivial⟩ (fun hHeld' => ?_)
  clear hHeld K' hK K0
  have hHeld := hHeld'
  clear hHeld'
  try simp only [Act.put, List.setIfInBounds_toArray, List.set_cons_zero, List.set_cons_succ]
  refine wpAnyH_ready (rs := [3]) (by kernel_rfl) (by simp) ?_
  refine AllReadyH.cons (o := ⟨some 20, _, _, _, _, _⟩) rfl (fun K0 hK => ?_) AllReadyH.nil
  have hrun := hmap.look (k := 7) (by omega) (by omega)
  rw [show fnOf 7 = 55 from rfl] at hrun
  go_simp
  refine hK.out _ _ hHeld (fun hHeld' => ?_)
  clear hHeld hK K0 hrun hmap
  have hHeld := hHeld'
  clear hHeld'
  try simp only [Act.put, List.setIfInBounds_toArray, List.set_cons_zero, List.set_cons_succ]
  refine wpAnyH_ready (rs := [7]) (by kernel_rfl) (by simp) ?_
  refine AllReadyH.cons (o := ⟨some 24, _, _, _, _, _⟩) rfl (fun K0 hK => ?_) AllReadyH.nil
  go_simp
  refine ((TD _ (h0.below hHeld.1) (hs0.below hHeld.1) (hy0.below hHeld.1)).out).mono ?_
  have H_l := (hHeld.2.1).lt
  have G_l := (hHeld.2.2.1).lt
  have R_l := (hHeld.2.2.2.1.choose_spec.2).lt
  rintro e v5 ⟨SA, Sn, Sc, DA, Dn, Dc, EA, En, Ec, rfl, S, hav, D, E, K'⟩
  have S_R := hav gR R_l (hs0.av_old R_b)
  have D_R := D.av R_l
  have E_R := E.av R_l
  have hav0 : ∀ g, g < w.heap.size → Av g B m → Av g SA Sn := fun g hg => hav g (Nat.lt_of_lt_of_le hg (Below.size hHeld.1))
  replace D := D.lower (Below.size hHeld.1)
  replace E := E.lower (Below.size hHeld.1)
  clear hav TD
  refine hK.out _ _ ⟨Below.then_ hHeld.1 K', hHeld.2.1.below K', hHeld.2.2.1.below K', ⟨_, hHeld.2.2.2.1.choose_spec.1, hHeld.2.2.2.1.choose_spec.2.below K'⟩, trivial⟩ (fun hHeld' => ?_)
  clear hHeld K' hK K0
  clear H_l G_l R_l
  have hHeld := hHeld'
  clear hHeld'
  try simp only [Act.put, List.setIfInBounds_toArray, List.set_cons_zero, List.set_cons_succ]
  refine wpAnyH_take (i := 8) (oi := ⟨some 25, _, _, _, _, _⟩) (v := ?_) rfl (by kernel_rfl) (by kernel_rfl) (by kernel_rfl) (fun _ _ _ h => h) (Or.inl ⟨by rfl, ?_⟩) hHeld ?_
  rotate_left
  · intro ww hSw
    try dsimp only at hSw
    go_simp
    try with_reducible rfl
    try omega
  try simp only [Act.put, List.setIfInBounds_toArray, List.set_cons_zero, List.set_cons_succ]
  refine wpAnyH_take (i := 9) (oi := ⟨some 26, _, _, _, _, _⟩) (v := ?_) rfl (by kernel_rfl) (by kernel_rfl) (by kernel_rfl) (fun _ _ _ h => h) (Or.inl ⟨by rfl, ?_⟩) hHeld ?_
  rotate_left
  · intro ww hSw
    try dsimp only at hSw
    go_simp
    try with_reducible rfl
    try omega
  try simp only [Act.put, List.setIfInBounds_toArray, List.set_cons_zero, List.set_cons_succ]
  refine wpAnyH_take (i := 10) (oi := ⟨some 6, _, _, _, _, _⟩) (v := ?_) rfl (by kernel_rfl) (by kernel_rfl) (by kernel_rfl) (fun _ _ _ h => h) (Or.inl ⟨by rfl, ?_⟩) hHeld ?_
  rotate_left
  · intro ww hSw
    try dsimp only at hSw
    go_simp
    try with_reducible rfl
    try omega
  try simp only [Act.put, List.setIfInBounds_toArray, List.set_cons_zero, List.set_cons_succ]
  refine wpAnyH_ready (rs := [11]) (by kernel_rfl) (by simp) ?_
  refine AllReadyH.cons (o := ⟨none, _, _, _, _, _⟩) rfl (fun K0 hK => ?_) AllReadyH.nil
  rw [if_pos (by rfl)]
  refine wp_store_row 34 (.tmp 7) (.tmp 26) rfl gR _ rfl (show _ = Value.agg #[.int .i64 r.2.1, .int .u32 r.2.2.1, .bool r.2.2.2.1, .slice DA Dn Dc, .slice EA En Ec] from rfl) _ _ hHeld.2.2.2.1.choose_spec.2 an_sz hHeld.2.2.2.1.choose_spec.1 (by simp [Value.oneCell']) ?_
  have new_R := Bk.row hHeld.2.2.2.1.choose_spec.2 #[.int .i64 r.2.1, .int .u32 r.2.2.1, .bool r.2.2.2.1, .slice DA Dn Dc, .slice EA En Ec]
  refine hK.out _ _ ⟨below_setRow hHeld.1 R_b _, hHeld.2.1.row_far ne_H_R _, hHeld.2.2.1.row_far ne_G_R _, ⟨_, rfl, new_R⟩, trivial⟩ (fun hHeld' => ?_)
  replace S := S.row_av S_R #[.int .i64 r.2.1, .int .u32 r.2.2.1, .bool r.2.2.2.1, .slice DA Dn Dc, .slice EA En Ec]
  replace D := D.row_av D_R #[.int .i64 r.2.1, .int .u32 r.2.2.1, .bool r.2.2.2.1, .slice DA Dn Dc, .slice EA En Ec]
  replace E := E.row_av E_R #[.int .i64 r.2.1, .int .u32 r.2.2.1, .bool r.2.2.2.1, .slice DA Dn Dc, .slice EA En Ec]
  clear hHeld hK K0
  have hHeld := hHeld'
  clear hHeld'
  generalize v5.setRow gR #[.int .i64 r.2.1, .int .u32 r.2.2.1, .bool r.2.2.2.1, .slice DA Dn Dc, .slice EA En Ec] = v6 at hHeld new_R S D E ⊢
  try simp only [Act.put]
  refine wpAnyH_done (by kernel_rfl) ?_ _
  replace K := hHeld.1
  replace H := hHeld.2.1
  replace G := hHeld.2.2.1
  replace R := new_R
  clear new_R
  clear hHeld
  replace hL := hL0.below K
  replace h := h0.below K
  replace hs := hs0.below K
  replace hy := hy0.below K
  go_wp2
  refine bodyPost_ret (v := .tuple #[.slice SA Sn Sc, .agg #[.int .i64 r.2.1, .int .u32 r.2.2.1, .bool r.2.2.2.1, .slice DA Dn Dc, .slice EA En Ec]]) ?_ rfl ?_
  · exact results_tc (fn := Tryd.f15) Tryd.results15 _ _ gR _ _ (0, 0) _ rfl R Tryd.underlying34 rfl an_sz
  exact ⟨_, _, _, _, _, _, _, _, _, rfl, S, hav0, D, E, K⟩
theorem some_any (hL0 : Laid w) (ha : a < 4294967296) (hM : Much a p M) (h0 : IS .i64 lo w A n c zs) (hn : n ≤ 65536) (hs0 : IS .i64 lo2 w B m d xs) (hm : m ≤ 60000) (hx : mayR M zs 0 xs = true) (hX : X < 4294967296) (hy0 : IS .u32 lo3 w C q f ys) (hq : q ≤ 60000) (hw : W32 ys) :
    Calls Tryd.prog 15 #[.agg #[.int .u32 (a : Int), .int .i64 p, .slice A n c, .int .i64 sh, .int .i64 wo, .int .i64 qu, .int .i64 tr], .slice B m d, .agg #[.int .i64 k, .int .u32 (X : Int), .slice C q f]] w (RetSA B m (someS a M zs xs k X ys).1 (someS a M zs xs k X ys).2 w) := by
  unfold someS
  by_cases he : askE a M zs k X ys = 0
  · rw [if_pos he]
    obtain ⟨k1, k7, -, -⟩ := askE_ok he
    obtain rfl | rfl | rfl | rfl | rfl | rfl | rfl : k = 1 ∨ k = 2 ∨ k = 3 ∨ k = 4 ∨ k = 5 ∨ k = 6 ∨ k = 7 := by omega
    · exact some_1 hL0 ha hM h0 hn hs0 hm hx hX hy0 hq hw he rfl
    · exact some_2 hL0 ha hM h0 hn hs0 hm hx hX hy0 hq hw he rfl
    · exact some_3 hL0 ha hM h0 hn hs0 hm hx hX hy0 hq hw he rfl
    · exact some_4 hL0 ha hM h0 hn hs0 hm hx hX hy0 hq hw he rfl
    · exact some_5 hL0 ha hM h0 hn hs0 hm hx hX hy0 hq hw he rfl
    · exact some_6 hL0 ha hM h0 hn hs0 hm hx hX hy0 hq hw he rfl
    · exact some_7 hL0 ha hM h0 hn hs0 hm hx hX hy0 hq hw he rfl
  · rw [if_neg he]
    exact some_wrong hL0 ha hM h0 hn hs0 hm hx hX hy0 hq hw rfl he
end
end Go.Proofs.YtmakbmmnjbnfiaaDoor
