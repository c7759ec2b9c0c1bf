/-
  The walk of the law AskChecks: for every configuration and two requests it answers true.
-/
import Derived.Test.YtfjnlackbmdncaaDoorAskOpen
namespace Go.Proofs.YtfjnlackbmdncaaDoor.askChecks
open Go.RowKit
set_option linter.unusedVariables false
section
variable {w : World} {lo lo2 lo3 a m d m2 d2 X X2 : Nat} {p sh wo qu tr k k2 : Int} {A B B2 : Option Addr} {n c : Nat} {zs ys ys2 : List Int}
set_option maxRecDepth 100000 in
set_option maxHeartbeats 4000000 in
theorem main (hL : Laid w) (ha : a < 4294967296) (h : IS .i64 lo w A n c zs) (hs : IS .u32 lo2 w B m d ys) (hX : X < 4294967296) (hw : W32 ys) (hs2 : IS .u32 lo3 w B2 m2 d2 ys2) :
    Calls Tryd.prog 3 #[.agg #[.int .u32 (a : Int), .int .i64 p, .slice A n c, .int .i64 sh, .int .i64 wo, .int .i64 qu, .int .i64 tr], .agg #[.int .i64 k, .int .u32 (X : Int), .slice B m d], .agg #[.int .i64 k2, .int .u32 (X2 : Int), .slice B2 m2 d2]] w (RetBo true w) := by
  have K := Below.refl w.heap.size w
  go_enter Tryd.func3, Tryd.ntmps3
  go_upto_region 1 with (fail)
  replace hL := hL.below (below_alloc _ (.cells #[.int .u32 (a : Int), .int .i64 p, .slice A n c, .int .i64 sh, .int .i64 wo, .int .i64 qu, .int .i64 tr] 27))
  replace h := h.below (below_alloc _ (.cells #[.int .u32 (a : Int), .int .i64 p, .slice A n c, .int .i64 sh, .int .i64 wo, .int .i64 qu, .int .i64 tr] 27))
  replace hs := hs.below (below_alloc _ (.cells #[.int .u32 (a : Int), .int .i64 p, .slice A n c, .int .i64 sh, .int .i64 wo, .int .i64 qu, .int .i64 tr] 27))
  replace hs2 := hs2.below (below_alloc _ (.cells #[.int .u32 (a : Int), .int .i64 p, .slice A n c, .int .i64 sh, .int .i64 wo, .int .i64 qu, .int .i64 tr] 27))
  replace K := Below.then_ K (below_alloc _ (.cells #[.int .u32 (a : Int), .int .i64 p, .slice A n c, .int .i64 sh, .int .i64 wo, .int .i64 qu, .int .i64 tr] 27))
  have H := Bk.new (w) #[.int .u32 (a : Int), .int .i64 p, .slice A n c, .int .i64 sh, .int .i64 wo, .int .i64 qu, .int .i64 tr] 27
  replace H := H.alloc (.cells #[.int .i64 k, .int .u32 (X : Int), .slice B m d] 30)
  replace hL := hL.below (below_alloc _ (.cells #[.int .i64 k, .int .u32 (X : Int), .slice B m d] 30))
  replace h := h.below (below_alloc _ (.cells #[.int .i64 k, .int .u32 (X : Int), .slice B m d] 30))
  replace hs := hs.below (below_alloc _ (.cells #[.int .i64 k, .int .u32 (X : Int), .slice B m d] 30))
  replace hs2 := hs2.below (below_alloc _ (.cells #[.int .i64 k, .int .u32 (X : Int), .slice B m d] 30))
  replace K := Below.then_ K (below_alloc _ (.cells #[.int .i64 k, .int .u32 (X : Int), .slice B m d] 30))
  have G := Bk.new ((w).alloc (.cells #[.int .u32 (a : Int), .int .i64 p, .slice A n c, .int .i64 sh, .int .i64 wo, .int .i64 qu, .int .i64 tr] 27)) #[.int .i64 k, .int .u32 (X : Int), .slice B m d] 30
  replace H := H.alloc (.cells #[.int .i64 k2, .int .u32 (X2 : Int), .slice B2 m2 d2] 30)
  replace G := G.alloc (.cells #[.int .i64 k2, .int .u32 (X2 : Int), .slice B2 m2 d2] 30)
  replace hL := hL.below (below_alloc _ (.cells #[.int .i64 k2, .int .u32 (X2 : Int), .slice B2 m2 d2] 30))
  replace h := h.below (below_alloc _ (.cells #[.int .i64 k2, .int .u32 (X2 : Int), .slice B2 m2 d2] 30))
  replace hs := hs.below (below_alloc _ (.cells #[.int .i64 k2, .int .u32 (X2 : Int), .slice B2 m2 d2] 30))
  replace hs2 := hs2.below (below_alloc _ (.cells #[.int .i64 k2, .int .u32 (X2 : Int), .slice B2 m2 d2] 30))
  replace K := Below.then_ K (below_alloc _ (.cells #[.int .i64 k2, .int .u32 (X2 : Int), .slice B2 m2 d2] 30))
  have J := Bk.new (((w).alloc (.cells #[.int .u32 (a : Int), .int .i64 p, .slice A n c, .int .i64 sh, .int .i64 wo, .int .i64 qu, .int .i64 tr] 27)).alloc (.cells #[.int .i64 k, .int .u32 (X : Int), .slice B m d] 30)) #[.int .i64 k2, .int .u32 (X2 : Int), .slice B2 m2 d2] 30
  try simp only [World.size_alloc] at H G J
  generalize (((w).alloc (.cells #[.int .u32 (a : Int), .int .i64 p, .slice A n c, .int .i64 sh, .int .i64 wo, .int .i64 qu, .int .i64 tr] 27)).alloc (.cells #[.int .i64 k, .int .u32 (X : Int), .slice B m d] 30)).alloc (.cells #[.int .i64 k2, .int .u32 (X2 : Int), .slice B2 m2 d2] 30) = w1 at H G J hL h hs hs2 K ⊢
  generalize w.heap.size + 1 + 1 = gJ at H G J ⊢
  generalize w.heap.size + 1 = gG at H G J ⊢
  generalize w.heap.size = gH at H G J ⊢
  replace hw := Lib.hid hw
  go_wp2_with fail
  refine (awake_any _ hL).mono ?_
  rintro e w2 ⟨rfl, K'⟩
  replace H := H.below K'
  replace G := G.below K'
  replace J := J.below K'
  replace hL := hL.below K'
  replace h := h.below K'
  replace hs := hs.below K'
  replace hs2 := hs2.below K'
  replace K := Below.then_ K K'
  clear K'
  have H_0 := H.at_ (v := .int .u32 (a : Int)) 0 rfl
  have H_1 := H.at_ (v := .int .i64 p) 1 rfl
  have H_2 := H.at_ (v := .slice A n c) 2 rfl
  have H_3 := H.at_ (v := .int .i64 sh) 3 rfl
  have H_4 := H.at_ (v := .int .i64 wo) 4 rfl
  have H_5 := H.at_ (v := .int .i64 qu) 5 rfl
  have H_6 := H.at_ (v := .int .i64 tr) 6 rfl
  have H_z := H.lt
  go_wp2_with fail
  refine (rmay5_any ha h).mono ?_
  rintro e w3 ⟨bo, rfl, hB, K'⟩
  clear H_0 H_1 H_2 H_3 H_4 H_5 H_6 H_z
  replace H := H.below K'
  replace G := G.below K'
  replace J := J.below K'
  replace hL := hL.below K'
  replace h := h.below K'
  replace hs := hs.below K'
  replace hs2 := hs2.below K'
  replace K := Below.then_ K K'
  clear K'
  rcases bo with _ | _
  · clear hB
    go_wp2_with fail
    refine (awake_any _ hL).mono ?_
    rintro e w4 ⟨rfl, K'⟩
    replace H := H.below K'
    replace G := G.below K'
    replace J := J.below K'
    replace hL := hL.below K'
    replace h := h.below K'
    replace hs := hs.below K'
    replace hs2 := hs2.below K'
    replace K := Below.then_ K K'
    clear K'
    go_wp2
    go_ret
    exact ⟨rfl, K⟩
  obtain ⟨M, hC⟩ := hB rfl
  clear hB
  have hM := hC.much
  have hn : n ≤ 65536 := by have := hC.few; omega
  have hMm := hM.most
  have G_0 := G.at_ (v := .int .i64 k) 0 rfl
  have G_1 := G.at_ (v := .int .u32 (X : Int)) 1 rfl
  have G_2 := G.at_ (v := .slice B m d) 2 rfl
  have G_z := G.lt
  rcases Nat.lt_or_ge 100 m with hfG | hfG
  · go_wp2_with fail
    refine (few_no hs (Nat.not_le.2 hfG)).mono ?_
    rintro e w4 ⟨rfl, K'⟩
    replace H := H.below K'
    replace G := G.below K'
    replace J := J.below K'
    replace hL := hL.below K'
    replace h := h.below K'
    replace hs := hs.below K'
    replace hs2 := hs2.below K'
    replace K := Below.then_ K K'
    clear K'
    clear G_0 G_1 G_2 G_z
    go_wp2_with fail
    refine (awake_any _ hL).mono ?_
    rintro e w5 ⟨rfl, K'⟩
    replace H := H.below K'
    replace G := G.below K'
    replace J := J.below K'
    replace hL := hL.below K'
    replace h := h.below K'
    replace hs := hs.below K'
    replace hs2 := hs2.below K'
    replace K := Below.then_ K K'
    clear K'
    go_wp2
    go_ret
    exact ⟨rfl, K⟩
  go_wp2_with fail
  refine (few_yes hs hfG).mono ?_
  rintro e w4 ⟨rfl, K'⟩
  replace H := H.below K'
  replace G := G.below K'
  replace J := J.below K'
  replace hL := hL.below K'
  replace h := h.below K'
  replace hs := hs.below K'
  replace hs2 := hs2.below K'
  replace K := Below.then_ K K'
  clear K'
  clear G_0 G_1 G_2 G_z
  have J_0 := J.at_ (v := .int .i64 k2) 0 rfl
  have J_1 := J.at_ (v := .int .u32 (X2 : Int)) 1 rfl
  have J_2 := J.at_ (v := .slice B2 m2 d2) 2 rfl
  have J_z := J.lt
  rcases Nat.lt_or_ge 100 m2 with hfJ | hfJ
  · go_wp2_with fail
    refine (few_no hs2 (Nat.not_le.2 hfJ)).mono ?_
    rintro e w5 ⟨rfl, K'⟩
    replace H := H.below K'
    replace G := G.below K'
    replace J := J.below K'
    replace hL := hL.below K'
    replace h := h.below K'
    replace hs := hs.below K'
    replace hs2 := hs2.below K'
    replace K := Below.then_ K K'
    clear K'
    clear J_0 J_1 J_2 J_z
    go_wp2_with fail
    refine (awake_any _ hL).mono ?_
    rintro e w6 ⟨rfl, K'⟩
    replace H := H.below K'
    replace G := G.below K'
    replace J := J.below K'
    replace hL := hL.below K'
    replace h := h.below K'
    replace hs := hs.below K'
    replace hs2 := hs2.below K'
    replace K := Below.then_ K K'
    clear K'
    go_wp2
    go_ret
    exact ⟨rfl, K⟩
  go_wp2_with fail
  refine (few_yes hs2 hfJ).mono ?_
  rintro e w5 ⟨rfl, K'⟩
  replace H := H.below K'
  replace G := G.below K'
  replace J := J.below K'
  replace hL := hL.below K'
  replace h := h.below K'
  replace hs := hs.below K'
  replace hs2 := hs2.below K'
  replace K := Below.then_ K K'
  clear K'
  clear J_0 J_1 J_2 J_z
  have hl := Lib.hid hs.len
  obtain ⟨E, hE⟩ : ∃ E, askE a M zs k X ys = E := ⟨_, rfl⟩
  have ee : (E == E) = true := by simp
  generalize hsb : sameB k X ys k2 X2 ys2 = sb
  have es : (sb == sb) = true := by simp
  replace hE := Lib.hid hE
  replace hsb := Lib.hid hsb
  go_wp2_with fail
  refine wp_region_held_drew (S := fun w' => Below w5.heap.size w5 w') (by kernel_rfl) (Below.refl _ _).drew (fun hHeld => ?_)
  refine wpAnyH_take (i := 0) (oi := ⟨some 25, _, _, _, _, _⟩) (v := ?_) rfl (by kernel_rfl) (by kernel_rfl) (by kernel_rfl) (fun _ _ _ h => h) (Or.inl ⟨by rfl, ?_⟩) hHeld ?_
  rotate_left
  · intro ww hSw
    try dsimp only at hSw
    have H_0 := (H.below hSw).at_ (v := .int .u32 (a : Int)) 0 rfl
    have H_1 := (H.below hSw).at_ (v := .int .i64 p) 1 rfl
    have H_2 := (H.below hSw).at_ (v := .slice A n c) 2 rfl
    have H_3 := (H.below hSw).at_ (v := .int .i64 sh) 3 rfl
    have H_4 := (H.below hSw).at_ (v := .int .i64 wo) 4 rfl
    have H_5 := (H.below hSw).at_ (v := .int .i64 qu) 5 rfl
    have H_6 := (H.below hSw).at_ (v := .int .i64 tr) 6 rfl
    have G_0 := (G.below hSw).at_ (v := .int .i64 k) 0 rfl
    have G_1 := (G.below hSw).at_ (v := .int .u32 (X : Int)) 1 rfl
    have G_2 := (G.below hSw).at_ (v := .slice B m d) 2 rfl
    have J_0 := (J.below hSw).at_ (v := .int .i64 k2) 0 rfl
    have J_1 := (J.below hSw).at_ (v := .int .u32 (X2 : Int)) 1 rfl
    have J_2 := (J.below hSw).at_ (v := .slice B2 m2 d2) 2 rfl
    go_simp
    try with_reducible rfl
    try omega
  try simp only [Act.put, List.setIfInBounds_toArray, List.set_cons_zero, List.set_cons_succ]
  refine wpAnyH_take (i := 1) (oi := ⟨some 26, _, _, _, _, _⟩) (v := ?_) rfl (by kernel_rfl) (by kernel_rfl) (by kernel_rfl) (fun _ _ _ h => h) (Or.inl ⟨by rfl, ?_⟩) hHeld ?_
  rotate_left
  · intro ww hSw
    try dsimp only at hSw
    have H_0 := (H.below hSw).at_ (v := .int .u32 (a : Int)) 0 rfl
    have H_1 := (H.below hSw).at_ (v := .int .i64 p) 1 rfl
    have H_2 := (H.below hSw).at_ (v := .slice A n c) 2 rfl
    have H_3 := (H.below hSw).at_ (v := .int .i64 sh) 3 rfl
    have H_4 := (H.below hSw).at_ (v := .int .i64 wo) 4 rfl
    have H_5 := (H.below hSw).at_ (v := .int .i64 qu) 5 rfl
    have H_6 := (H.below hSw).at_ (v := .int .i64 tr) 6 rfl
    have G_0 := (G.below hSw).at_ (v := .int .i64 k) 0 rfl
    have G_1 := (G.below hSw).at_ (v := .int .u32 (X : Int)) 1 rfl
    have G_2 := (G.below hSw).at_ (v := .slice B m d) 2 rfl
    have J_0 := (J.below hSw).at_ (v := .int .i64 k2) 0 rfl
    have J_1 := (J.below hSw).at_ (v := .int .u32 (X2 : Int)) 1 rfl
    have J_2 := (J.below hSw).at_ (v := .slice B2 m2 d2) 2 rfl
    go_simp
    try with_reducible rfl
    try omega
  try simp only [Act.put, List.setIfInBounds_toArray, List.set_cons_zero, List.set_cons_succ]
  refine wpAnyH_take (i := 3) (oi := ⟨some 28, _, _, _, _, _⟩) (v := ?_) rfl (by kernel_rfl) (by kernel_rfl) (by kernel_rfl) (fun _ _ _ h => h) (Or.inl ⟨by rfl, ?_⟩) hHeld ?_
  rotate_left
  · intro ww hSw
    try dsimp only at hSw
    have H_0 := (H.below hSw).at_ (v := .int .u32 (a : Int)) 0 rfl
    have H_1 := (H.below hSw).at_ (v := .int .i64 p) 1 rfl
    have H_2 := (H.below hSw).at_ (v := .slice A n c) 2 rfl
    have H_3 := (H.below hSw).at_ (v := .int .i64 sh) 3 rfl
    have H_4 := (H.below hSw).at_ (v := .int .i64 wo) 4 rfl
    have H_5 := (H.below hSw).at_ (v := .int .i64 qu) 5 rfl
    have H_6 := (H.below hSw).at_ (v := .int .i64 tr) 6 rfl
    have G_0 := (G.below hSw).at_ (v := .int .i64 k) 0 rfl
    have G_1 := (G.below hSw).at_ (v := .int .u32 (X : Int)) 1 rfl
    have G_2 := (G.below hSw).at_ (v := .slice B m d) 2 rfl
    have J_0 := (J.below hSw).at_ (v := .int .i64 k2) 0 rfl
    have J_1 := (J.below hSw).at_ (v := .int .u32 (X2 : Int)) 1 rfl
    have J_2 := (J.below hSw).at_ (v := .slice B2 m2 d2) 2 rfl
    go_simp
    try with_reducible rfl
    try omega
  try simp only [Act.put, List.setIfInBounds_toArray, List.set_cons_zero, List.set_cons_succ]
  refine wpAnyH_take (i := 4) (oi := ⟨some 29, _, _, _, _, _⟩) (v := ?_) rfl (by kernel_rfl) (by kernel_rfl) (by kernel_rfl) (fun _ _ _ h => h) (Or.inl ⟨by rfl, ?_⟩) hHeld ?_
  rotate_left
  · intro ww hSw
    try dsimp only at hSw
    have H_0 := (H.below hSw).at_ (v := .int .u32 (a : Int)) 0 rfl
    have H_1 := (H.below hSw).at_ (v := .int .i64 p) 1 rfl
    have H_2 := (H.below hSw).at_ (v := .slice A n c) 2 rfl
    have H_3 := (H.below hSw).at_ (v := .int .i64 sh) 3 rfl
    have H_4 := (H.below hSw).at_ (v := .int .i64 wo) 4 rfl
    have H_5 := (H.below hSw).at_ (v := .int .i64 qu) 5 rfl
    have H_6 := (H.below hSw).at_ (v := .int .i64 tr) 6 rfl
    have G_0 := (G.below hSw).at_ (v := .int .i64 k) 0 rfl
    have G_1 := (G.below hSw).at_ (v := .int .u32 (X : Int)) 1 rfl
    have G_2 := (G.below hSw).at_ (v := .slice B m d) 2 rfl
    have J_0 := (J.below hSw).at_ (v := .int .i64 k2) 0 rfl
    have J_1 := (J.below hSw).at_ (v := .int .u32 (X2 : Int)) 1 rfl
    have J_2 := (J.below hSw).at_ (v := .slice B2 m2 d2) 2 rfl
    go_simp
    try with_reducible rfl
    try omega
  try simp only [Act.put, List.setIfInBounds_toArray, List.set_cons_zero, List.set_cons_succ]
  refine wpAnyH_ready (rs := [2]) (by kernel_rfl) (by simp) ?_
  refine AllReadyH.cons (o := ⟨some 27, _, _, _, _, _⟩) rfl (fun K0 hK => ?_) AllReadyH.nil
  go_simp
  refine (check_is (k := k) (X := X) (v := E) (hL.below hHeld) ha hM (h.below hHeld) hn (hs.below hHeld) (by omega) hX hw.out hE.out).mono ?_
  rintro e ww ⟨rfl, K'⟩
  refine hK.out _ _ (Below.then_ hHeld K') (fun hHeld' => ?_)
  clear hHeld K' hK K0
  have hHeld := hHeld'
  clear hHeld'
  try simp only [Act.put, List.setIfInBounds_toArray, List.set_cons_zero, List.set_cons_succ]
  refine wpAnyH_ready (rs := [5]) (by kernel_rfl) (by simp) ?_
  refine AllReadyH.cons (o := ⟨some 30, _, _, _, _, _⟩) rfl (fun K0 hK => ?_) AllReadyH.nil
  go_simp
  refine (rcheck_is (k := k) (X := X) (v := E) hM (h.below hHeld) hn (hs.below hHeld) (by omega) hX hw.out hE.out).mono ?_
  rintro e ww ⟨rfl, K'⟩
  refine hK.out _ _ (Below.then_ hHeld K') (fun hHeld' => ?_)
  clear hHeld K' hK K0
  have hHeld := hHeld'
  clear hHeld'
  try simp only [Act.put, List.setIfInBounds_toArray, List.set_cons_zero, List.set_cons_succ]
  refine wpAnyH_take (i := 6) (oi := ⟨some 31, _, _, _, _, _⟩) (v := ?_) rfl (by kernel_rfl) (by kernel_rfl) (by kernel_rfl) (fun _ _ _ h => h) (Or.inl ⟨by rfl, ?_⟩) hHeld ?_
  rotate_left
  · intro ww hSw
    try dsimp only at hSw
    go_simp
    try with_reducible rfl
    try omega
  try simp only [Act.put, List.setIfInBounds_toArray, List.set_cons_zero, List.set_cons_succ]
  refine wpAnyH_take (i := 7) (oi := ⟨some 32, _, _, _, _, _⟩) (v := .bool true) rfl (by kernel_rfl) (by kernel_rfl) (by kernel_rfl) (fun _ _ _ h => h) (Or.inl ⟨by rfl, ?_⟩) hHeld ?_
  · intro ww hSw
    try dsimp only at hSw
    go_simp
    try with_reducible rfl
    try omega
  try simp only [Act.put, List.setIfInBounds_toArray, List.set_cons_zero, List.set_cons_succ]
  refine wpAnyH_take (i := 8) (oi := ⟨some 33, _, _, _, _, _⟩) (v := ?_) rfl (by kernel_rfl) (by kernel_rfl) (by kernel_rfl) (fun _ _ _ h => h) (Or.inl ⟨by rfl, ?_⟩) hHeld ?_
  rotate_left
  · intro ww hSw
    try dsimp only at hSw
    have H_0 := (H.below hSw).at_ (v := .int .u32 (a : Int)) 0 rfl
    have H_1 := (H.below hSw).at_ (v := .int .i64 p) 1 rfl
    have H_2 := (H.below hSw).at_ (v := .slice A n c) 2 rfl
    have H_3 := (H.below hSw).at_ (v := .int .i64 sh) 3 rfl
    have H_4 := (H.below hSw).at_ (v := .int .i64 wo) 4 rfl
    have H_5 := (H.below hSw).at_ (v := .int .i64 qu) 5 rfl
    have H_6 := (H.below hSw).at_ (v := .int .i64 tr) 6 rfl
    have G_0 := (G.below hSw).at_ (v := .int .i64 k) 0 rfl
    have G_1 := (G.below hSw).at_ (v := .int .u32 (X : Int)) 1 rfl
    have G_2 := (G.below hSw).at_ (v := .slice B m d) 2 rfl
    have J_0 := (J.below hSw).at_ (v := .int .i64 k2) 0 rfl
    have J_1 := (J.below hSw).at_ (v := .int .u32 (X2 : Int)) 1 rfl
    have J_2 := (J.below hSw).at_ (v := .slice B2 m2 d2) 2 rfl
    go_simp
    try with_reducible rfl
    try omega
  try simp only [Act.put, List.setIfInBounds_toArray, List.set_cons_zero, List.set_cons_succ]
  refine wpAnyH_take (i := 10) (oi := ⟨some 35, _, _, _, _, _⟩) (v := ?_) rfl (by kernel_rfl) (by kernel_rfl) (by kernel_rfl) (fun _ _ _ h => h) (Or.inl ⟨by rfl, ?_⟩) hHeld ?_
  rotate_left
  · intro ww hSw
    try dsimp only at hSw
    have H_0 := (H.below hSw).at_ (v := .int .u32 (a : Int)) 0 rfl
    have H_1 := (H.below hSw).at_ (v := .int .i64 p) 1 rfl
    have H_2 := (H.below hSw).at_ (v := .slice A n c) 2 rfl
    have H_3 := (H.below hSw).at_ (v := .int .i64 sh) 3 rfl
    have H_4 := (H.below hSw).at_ (v := .int .i64 wo) 4 rfl
    have H_5 := (H.below hSw).at_ (v := .int .i64 qu) 5 rfl
    have H_6 := (H.below hSw).at_ (v := .int .i64 tr) 6 rfl
    have G_0 := (G.below hSw).at_ (v := .int .i64 k) 0 rfl
    have G_1 := (G.below hSw).at_ (v := .int .u32 (X : Int)) 1 rfl
    have G_2 := (G.below hSw).at_ (v := .slice B m d) 2 rfl
    have J_0 := (J.below hSw).at_ (v := .int .i64 k2) 0 rfl
    have J_1 := (J.below hSw).at_ (v := .int .u32 (X2 : Int)) 1 rfl
    have J_2 := (J.below hSw).at_ (v := .slice B2 m2 d2) 2 rfl
    go_simp
    try with_reducible rfl
    try omega
  try simp only [Act.put, List.setIfInBounds_toArray, List.set_cons_zero, List.set_cons_succ]
  refine wpAnyH_ready (rs := [9]) (by kernel_rfl) (by simp) ?_
  refine AllReadyH.cons (o := ⟨some 34, _, _, _, _, _⟩) rfl (fun K0 hK => ?_) AllReadyH.nil
  go_simp
  refine (names_any (k := k) (x := X) (hL.below hHeld) (hs.below hHeld) (by omega)).mono ?_
  rintro e ww ⟨NA, Nn, Nc, rfl, R, K'⟩
  replace R := R.is
  have Nb : Nn ≤ 60000 := by have := R.len; have := nmI_len (k := k) (x := (X : Int)) (ys := ys) (n := 60000) (by have := hl.out; omega) (by omega); omega
  refine hK.out _ _ (Below.then_ hHeld K') (fun hHeld' => ?_)
  clear hHeld K' hK K0
  have hHeld := hHeld'
  clear hHeld'
  try simp only [Act.put, List.setIfInBounds_toArray, List.set_cons_zero, List.set_cons_succ]
  refine wpAnyH_ready (rs := [11]) (by kernel_rfl) (by simp) ?_
  refine AllReadyH.cons (o := ⟨some 36, _, _, _, _, _⟩) rfl (fun K0 hK => ?_) AllReadyH.nil
  go_simp
  refine (rnames_any (k := k) (x := X) (hs.below hHeld) (by omega)).mono ?_
  rintro e ww ⟨PA, Pn, Pc, rfl, P, K'⟩
  replace R := R.below K'
  replace P := P.is
  have Pb : Pn ≤ 60000 := by have := R.len; have := P.len; omega
  refine hK.out _ _ (Below.then_ hHeld K') (fun hHeld' => ?_)
  clear hHeld K' hK K0
  have hHeld := hHeld'
  clear hHeld'
  try simp only [Act.put, List.setIfInBounds_toArray, List.set_cons_zero, List.set_cons_succ]
  refine wpAnyH_ready (rs := [12]) (by kernel_rfl) (by simp) ?_
  refine AllReadyH.cons (o := ⟨some 37, _, _, _, _, _⟩) rfl (fun K0 hK => ?_) AllReadyH.nil
  go_simp
  refine (raddrs_is (b := true) R P (by omega) (by omega) (decide_eq_true rfl)).mono ?_
  rintro e ww ⟨rfl, K'⟩
  refine hK.out _ _ (Below.then_ hHeld K') (fun hHeld' => ?_)
  clear hHeld K' hK K0
  have hHeld := hHeld'
  clear hHeld'
  try simp only [Act.put, List.setIfInBounds_toArray, List.set_cons_zero, List.set_cons_succ]
  refine wpAnyH_take (i := 13) (oi := ⟨some 38, _, _, _, _, _⟩) (v := ?_) rfl (by kernel_rfl) (by kernel_rfl) (by kernel_rfl) (fun _ _ _ h => h) (Or.inl ⟨by rfl, ?_⟩) hHeld ?_
  rotate_left
  · intro ww hSw
    try dsimp only at hSw
    go_simp
    try with_reducible rfl
    try omega
  try simp only [Act.put, List.setIfInBounds_toArray, List.set_cons_zero, List.set_cons_succ]
  refine wpAnyH_take (i := 14) (oi := ⟨some 39, _, _, _, _, _⟩) (v := .bool true) rfl (by kernel_rfl) (by kernel_rfl) (by kernel_rfl) (fun _ _ _ h => h) (Or.inl ⟨by rfl, ?_⟩) hHeld ?_
  · intro ww hSw
    try dsimp only at hSw
    go_simp
    try with_reducible rfl
    try omega
  try simp only [Act.put, List.setIfInBounds_toArray, List.set_cons_zero, List.set_cons_succ]
  refine wpAnyH_take (i := 15) (oi := ⟨some 40, _, _, _, _, _⟩) (v := ?_) rfl (by kernel_rfl) (by kernel_rfl) (by kernel_rfl) (fun _ _ _ h => h) (Or.inl ⟨by rfl, ?_⟩) hHeld ?_
  rotate_left
  · intro ww hSw
    try dsimp only at hSw
    have H_0 := (H.below hSw).at_ (v := .int .u32 (a : Int)) 0 rfl
    have H_1 := (H.below hSw).at_ (v := .int .i64 p) 1 rfl
    have H_2 := (H.below hSw).at_ (v := .slice A n c) 2 rfl
    have H_3 := (H.below hSw).at_ (v := .int .i64 sh) 3 rfl
    have H_4 := (H.below hSw).at_ (v := .int .i64 wo) 4 rfl
    have H_5 := (H.below hSw).at_ (v := .int .i64 qu) 5 rfl
    have H_6 := (H.below hSw).at_ (v := .int .i64 tr) 6 rfl
    have G_0 := (G.below hSw).at_ (v := .int .i64 k) 0 rfl
    have G_1 := (G.below hSw).at_ (v := .int .u32 (X : Int)) 1 rfl
    have G_2 := (G.below hSw).at_ (v := .slice B m d) 2 rfl
    have J_0 := (J.below hSw).at_ (v := .int .i64 k2) 0 rfl
    have J_1 := (J.below hSw).at_ (v := .int .u32 (X2 : Int)) 1 rfl
    have J_2 := (J.below hSw).at_ (v := .slice B2 m2 d2) 2 rfl
    go_simp
    try with_reducible rfl
    try omega
  try simp only [Act.put, List.setIfInBounds_toArray, List.set_cons_zero, List.set_cons_succ]
  refine wpAnyH_take (i := 16) (oi := ⟨some 41, _, _, _, _, _⟩) (v := ?_) rfl (by kernel_rfl) (by kernel_rfl) (by kernel_rfl) (fun _ _ _ h => h) (Or.inl ⟨by rfl, ?_⟩) hHeld ?_
  rotate_left
  · intro ww hSw
    try dsimp only at hSw
    have H_0 := (H.below hSw).at_ (v := .int .u32 (a : Int)) 0 rfl
    have H_1 := (H.below hSw).at_ (v := .int .i64 p) 1 rfl
    have H_2 := (H.below hSw).at_ (v := .slice A n c) 2 rfl
    have H_3 := (H.below hSw).at_ (v := .int .i64 sh) 3 rfl
    have H_4 := (H.below hSw).at_ (v := .int .i64 wo) 4 rfl
    have H_5 := (H.below hSw).at_ (v := .int .i64 qu) 5 rfl
    have H_6 := (H.below hSw).at_ (v := .int .i64 tr) 6 rfl
    have G_0 := (G.below hSw).at_ (v := .int .i64 k) 0 rfl
    have G_1 := (G.below hSw).at_ (v := .int .u32 (X : Int)) 1 rfl
    have G_2 := (G.below hSw).at_ (v := .slice B m d) 2 rfl
    have J_0 := (J.below hSw).at_ (v := .int .i64 k2) 0 rfl
    have J_1 := (J.below hSw).at_ (v := .int .u32 (X2 : Int)) 1 rfl
    have J_2 := (J.below hSw).at_ (v := .slice B2 m2 d2) 2 rfl
    go_simp
    try with_reducible rfl
    try omega
  try simp only [Act.put, List.setIfInBounds_toArray, List.set_cons_zero, List.set_cons_succ]
  refine wpAnyH_take (i := 18) (oi := ⟨some 43, _, _, _, _, _⟩) (v := ?_) rfl (by kernel_rfl) (by kernel_rfl) (by kernel_rfl) (fun _ _ _ h => h) (Or.inl ⟨by rfl, ?_⟩) hHeld ?_
  rotate_left
  · intro ww hSw
    try dsimp only at hSw
    have H_0 := (H.below hSw).at_ (v := .int .u32 (a : Int)) 0 rfl
    have H_1 := (H.below hSw).at_ (v := .int .i64 p) 1 rfl
    have H_2 := (H.below hSw).at_ (v := .slice A n c) 2 rfl
    have H_3 := (H.below hSw).at_ (v := .int .i64 sh) 3 rfl
    have H_4 := (H.below hSw).at_ (v := .int .i64 wo) 4 rfl
    have H_5 := (H.below hSw).at_ (v := .int .i64 qu) 5 rfl
    have H_6 := (H.below hSw).at_ (v := .int .i64 tr) 6 rfl
    have G_0 := (G.below hSw).at_ (v := .int .i64 k) 0 rfl
    have G_1 := (G.below hSw).at_ (v := .int .u32 (X : Int)) 1 rfl
    have G_2 := (G.below hSw).at_ (v := .slice B m d) 2 rfl
    have J_0 := (J.below hSw).at_ (v := .int .i64 k2) 0 rfl
    have J_1 := (J.below hSw).at_ (v := .int .u32 (X2 : Int)) 1 rfl
    have J_2 := (J.below hSw).at_ (v := .slice B2 m2 d2) 2 rfl
    go_simp
    try with_reducible rfl
    try omega
  try simp only [Act.put, List.setIfInBounds_toArray, List.set_cons_zero, List.set_cons_succ]
  refine wpAnyH_take (i := 19) (oi := ⟨some 44, _, _, _, _, _⟩) (v := ?_) rfl (by kernel_rfl) (by kernel_rfl) (by kernel_rfl) (fun _ _ _ h => h) (Or.inl ⟨by rfl, ?_⟩) hHeld ?_
  rotate_left
  · intro ww hSw
    try dsimp only at hSw
    have H_0 := (H.below hSw).at_ (v := .int .u32 (a : Int)) 0 rfl
    have H_1 := (H.below hSw).at_ (v := .int .i64 p) 1 rfl
    have H_2 := (H.below hSw).at_ (v := .slice A n c) 2 rfl
    have H_3 := (H.below hSw).at_ (v := .int .i64 sh) 3 rfl
    have H_4 := (H.below hSw).at_ (v := .int .i64 wo) 4 rfl
    have H_5 := (H.below hSw).at_ (v := .int .i64 qu) 5 rfl
    have H_6 := (H.below hSw).at_ (v := .int .i64 tr) 6 rfl
    have G_0 := (G.below hSw).at_ (v := .int .i64 k) 0 rfl
    have G_1 := (G.below hSw).at_ (v := .int .u32 (X : Int)) 1 rfl
    have G_2 := (G.below hSw).at_ (v := .slice B m d) 2 rfl
    have J_0 := (J.below hSw).at_ (v := .int .i64 k2) 0 rfl
    have J_1 := (J.below hSw).at_ (v := .int .u32 (X2 : Int)) 1 rfl
    have J_2 := (J.below hSw).at_ (v := .slice B2 m2 d2) 2 rfl
    go_simp
    try with_reducible rfl
    try omega
  try simp only [Act.put, List.setIfInBounds_toArray, List.set_cons_zero, List.set_cons_succ]
  refine wpAnyH_ready (rs := [17]) (by kernel_rfl) (by simp) ?_
  refine AllReadyH.cons (o := ⟨some 42, _, _, _, _, _⟩) rfl (fun K0 hK => ?_) AllReadyH.nil
  go_simp
  refine (same_is (hs.below hHeld) (hs2.below hHeld) (by omega) (by omega) hsb.out).mono ?_
  rintro e ww ⟨rfl, K'⟩
  refine hK.out _ _ (Below.then_ hHeld K') (fun hHeld' => ?_)
  clear hHeld K' hK K0
  have hHeld := hHeld'
  clear hHeld'
  try simp only [Act.put, List.setIfInBounds_toArray, List.set_cons_zero, List.set_cons_succ]
  refine wpAnyH_ready (rs := [20]) (by kernel_rfl) (by simp) ?_
  refine AllReadyH.cons (o := ⟨some 45, _, _, _, _, _⟩) rfl (fun K0 hK => ?_) AllReadyH.nil
  go_simp
  refine (asks_is (hs.below hHeld) (hs2.below hHeld) (by omega) (by omega) hsb.out).mono ?_
  rintro e ww ⟨rfl, K'⟩
  refine hK.out _ _ (Below.then_ hHeld K') (fun hHeld' => ?_)
  clear hHeld K' hK K0
  have hHeld := hHeld'
  clear hHeld'
  try simp only [Act.put, List.setIfInBounds_toArray, List.set_cons_zero, List.set_cons_succ]
  refine wpAnyH_take (i := 21) (oi := ⟨some 46, _, _, _, _, _⟩) (v := ?_) rfl (by kernel_rfl) (by kernel_rfl) (by kernel_rfl) (fun _ _ _ h => h) (Or.inl ⟨by rfl, ?_⟩) hHeld ?_
  rotate_left
  · intro ww hSw
    try dsimp only at hSw
    go_simp
    try with_reducible rfl
    try omega
  try simp only [Act.put, List.setIfInBounds_toArray, List.set_cons_zero, List.set_cons_succ]
  refine wpAnyH_take (i := 22) (oi := ⟨some 47, _, _, _, _, _⟩) (v := ?_) rfl (by kernel_rfl) (by kernel_rfl) (by kernel_rfl) (fun _ _ _ h => h) (Or.inl ⟨by rfl, ?_⟩) hHeld ?_
  rotate_left
  · intro ww hSw
    try dsimp only at hSw
    go_simp
    try with_reducible rfl
    try omega
  try simp only [Act.put, List.setIfInBounds_toArray, List.set_cons_zero, List.set_cons_succ]
  refine wpAnyH_take (i := 23) (oi := ⟨some 6, _, _, _, _, _⟩) (v := ?_) rfl (by kernel_rfl) (by kernel_rfl) (by kernel_rfl) (fun _ _ _ h => h) (Or.inl ⟨by rfl, ?_⟩) hHeld ?_
  rotate_left
  · intro ww hSw
    try dsimp only at hSw
    go_simp
    try with_reducible rfl
    try omega
  try simp only [Act.put, List.setIfInBounds_toArray, List.set_cons_zero, List.set_cons_succ]
  refine wpAnyH_done (by kernel_rfl) ?_ _
  replace H := H.below hHeld
  replace G := G.below hHeld
  replace J := J.below hHeld
  replace hL := hL.below hHeld
  replace h := h.below hHeld
  replace hs := hs.below hHeld
  replace hs2 := hs2.below hHeld
  replace K := Below.then_ K hHeld
  clear hHeld
  go_wp2
  go_ret
  exact ⟨rfl, K⟩
theorem walk (a p : Int) (A : Option Addr) (n c : Nat) (z : List Int) (sh wo qu tr k x : Int) (B : Option Addr) (m d : Nat) (y : List Int) (k2 x2 : Int) (B2 : Option Addr) (m2 d2 : Nat) (y2 : List Int) (w : World) (hL : Laid w) (wa : (Lit.int .u32 a).wf = true) (wr : IsRow .i64 w A n c z) (wx : (Lit.int .u32 x).wf = true) (ws : IsRow .u32 w B m d y) (wx2 : (Lit.int .u32 x2).wf = true) (ws2 : IsRow .u32 w B2 m2 d2 y2) :
    Calls Tryd.prog 3 #[.agg #[.int .u32 a, .int .i64 p, .slice A n c, .int .i64 sh, .int .i64 wo, .int .i64 qu, .int .i64 tr], .agg #[.int .i64 k, .int .u32 x, .slice B m d], .agg #[.int .i64 k2, .int .u32 x2, .slice B2 m2 d2]] w fun e w' => e = .returned (.bool true) ∧ Below w.heap.size w w' := by
  obtain ⟨a, rfl, ha⟩ := wf_u32 wa
  obtain ⟨X, rfl, hX⟩ := wf_u32 wx
  obtain ⟨X2, rfl, _⟩ := wf_u32 wx2
  obtain ⟨zs, h, _⟩ := IS.of_row wr
  obtain ⟨ys, hs, hw⟩ := row_u32 ws
  obtain ⟨ys2, hs2, _⟩ := row_u32 ws2
  exact main hL ha h hs hX hw hs2
end
end Go.Proofs.YtfjnlackbmdncaaDoor.askChecks
