/-
  The walk of the law AskOthers: for every configuration, request, address and number it answers true.
-/
import Derived.Test.YtfjnlackbmdncaaDoorAskOpen
namespace Go.Proofs.YtfjnlackbmdncaaDoor.askOthers
open Go.RowKit
set_option linter.unusedVariables false
theorem front {k : IntKind} {lo : Nat} {w : World} {A : Option Addr} {n c : Nat} {xs : List Int} (h : IS k lo w A n c xs) {d : Nat} (hd : d ≤ n) : IS k lo w A d c (xs.take d) :=
  ⟨by rw [List.length_take, h.len]; omega, Nat.le_trans hd h.cap, h.most, h.nil_, fun hn => by
    obtain ⟨b, o, e, hl, hlt, hc⟩ := h.cells (by omega)
    refine ⟨b, o, e, hl, hlt, fun j hj => ?_⟩
    rw [hc j (by omega)]
    have hlen := h.len
    rw [gi_at (xs := xs) (by omega), gi_at (xs := xs.take d) (by rw [List.length_take]; omega), List.getElem_take]⟩
theorem lit_lo {k : IntKind} {w : World} {lo g : Nat} {t : TypeId} (xs : List Int) {n : Nat} (h : Bk w g t (xs.map (iv k)).toArray) (hn : xs.length = n) (hm : n ≤ 65536) (hg : lo ≤ g) : IS k lo w (some ⟨g, 0, none⟩) n n xs :=
  ⟨hn, Nat.le_refl _, by unfold maxLen; omega, (fun e => by cases e), fun _ => ⟨g, 0, rfl, hg, h.lt, fun j hj => by
    rw [Nat.zero_add, h.at_ j (v := .int k (gi xs j)) (by simp [gi_at (xs := xs) (j := j) (by omega), iv, show j < xs.length by omega])]⟩⟩
theorem askE_other {a M : Nat} {zs ys ys' : List Int} {k x x' : Int} (h4 : k ≠ 4) (hx : (k = 2 ∨ k = 3 ∨ k = 5) → x = x') : askE a M zs k x ys = askE a M zs k x' ys' := by
  unfold askE
  by_cases hk : 1 ≤ k ∧ k ≤ 7
  · rw [if_pos hk, if_pos hk, if_neg (fun g => h4 g.1), if_neg (fun g => h4 g.1), if_neg (fun g => h4 g.1), if_neg (fun g => h4 g.1)]
    by_cases h : k = 2 ∨ k = 3 ∨ k = 5
    · rw [nmI_one h, nmI_one h, hx h]
    · rw [nmI_none h h4, nmI_none h h4]
  · rw [if_neg hk, if_neg hk]
theorem W32.take {ys : List Int} (h : W32 ys) (q : Nat) : W32 (ys.take q) := fun y hy => h y (List.mem_of_mem_take hy)
section
variable {w : World} {lo lo2 lo3 a m d m2 d2 X X2 : Nat} {p sh wo qu tr k k2 : Int} {A B B2 : Option Addr} {n c : Nat} {zs ys ys2 : List Int}
set_option maxRecDepth 100000 in
set_option maxHeartbeats 4000000 in
theorem main (hL0 : Laid w) (ha : a < 4294967296) (h0 : IS .i64 lo w A n c zs) (hs0 : IS .u32 lo2 w B m d ys) (hX : X < 4294967296) (hw : W32 ys) {Y cu : Nat} (hY : Y < 4294967296) (hcu : cu < 256) :
    Calls Tryd.prog 5 #[.agg #[.int .u32 (a : Int), .int .i64 p, .slice A n c, .int .i64 sh, .int .i64 wo, .int .i64 qu, .int .i64 tr], .agg #[.int .i64 k, .int .u32 (X : Int), .slice B m d], .int .u32 (Y : Int), .int .u8 (cu : Int)] w (RetBo true w) := by
  have hL := hL0
  have h := h0
  have hs := hs0
  have K := Below.refl w.heap.size w
  go_enter Tryd.func5, Tryd.ntmps5
  go_upto_region 1 with (fail)
  replace hL := hL.below (below_alloc _ (.cells #[.int .u32 (a : Int), .int .i64 p, .slice A n c, .int .i64 sh, .int .i64 wo, .int .i64 qu, .int .i64 tr] 27))
  replace h := h.below (below_alloc _ (.cells #[.int .u32 (a : Int), .int .i64 p, .slice A n c, .int .i64 sh, .int .i64 wo, .int .i64 qu, .int .i64 tr] 27))
  replace hs := hs.below (below_alloc _ (.cells #[.int .u32 (a : Int), .int .i64 p, .slice A n c, .int .i64 sh, .int .i64 wo, .int .i64 qu, .int .i64 tr] 27))
  replace K := Below.then_ K (below_alloc _ (.cells #[.int .u32 (a : Int), .int .i64 p, .slice A n c, .int .i64 sh, .int .i64 wo, .int .i64 qu, .int .i64 tr] 27))
  have H := Bk.new (w) #[.int .u32 (a : Int), .int .i64 p, .slice A n c, .int .i64 sh, .int .i64 wo, .int .i64 qu, .int .i64 tr] 27
  replace H := H.alloc (.cells #[.int .i64 k, .int .u32 (X : Int), .slice B m d] 30)
  replace hL := hL.below (below_alloc _ (.cells #[.int .i64 k, .int .u32 (X : Int), .slice B m d] 30))
  replace h := h.below (below_alloc _ (.cells #[.int .i64 k, .int .u32 (X : Int), .slice B m d] 30))
  replace hs := hs.below (below_alloc _ (.cells #[.int .i64 k, .int .u32 (X : Int), .slice B m d] 30))
  replace K := Below.then_ K (below_alloc _ (.cells #[.int .i64 k, .int .u32 (X : Int), .slice B m d] 30))
  have G := Bk.new ((w).alloc (.cells #[.int .u32 (a : Int), .int .i64 p, .slice A n c, .int .i64 sh, .int .i64 wo, .int .i64 qu, .int .i64 tr] 27)) #[.int .i64 k, .int .u32 (X : Int), .slice B m d] 30
  try simp only [World.size_alloc] at H G
  generalize ((w).alloc (.cells #[.int .u32 (a : Int), .int .i64 p, .slice A n c, .int .i64 sh, .int .i64 wo, .int .i64 qu, .int .i64 tr] 27)).alloc (.cells #[.int .i64 k, .int .u32 (X : Int), .slice B m d] 30) = w1 at H G hL h hs K ⊢
  generalize w.heap.size + 1 = gG at H G ⊢
  generalize w.heap.size = gH at H G ⊢
  have hGH : gH ≠ gG := by intro e; subst e; have := H; unfold Bk at this G; rw [this] at G; cases G
  replace hw := Lib.hid hw
  go_wp2_with fail
  refine (awake_any _ hL).mono ?_
  rintro e w2 ⟨rfl, K'⟩
  replace H := H.below K'
  replace G := G.below K'
  replace hL := hL.below K'
  replace h := h.below K'
  replace hs := hs.below K'
  replace K := Below.then_ K K'
  clear K'
  have H_0 := H.at_ (v := .int .u32 (a : Int)) 0 rfl
  have H_1 := H.at_ (v := .int .i64 p) 1 rfl
  have H_2 := H.at_ (v := .slice A n c) 2 rfl
  have H_3 := H.at_ (v := .int .i64 sh) 3 rfl
  have H_4 := H.at_ (v := .int .i64 wo) 4 rfl
  have H_5 := H.at_ (v := .int .i64 qu) 5 rfl
  have H_6 := H.at_ (v := .int .i64 tr) 6 rfl
  have H_z := H.lt
  go_wp2_with fail
  refine (rmay5_any ha h).mono ?_
  rintro e w3 ⟨bo, rfl, hB, K'⟩
  clear H_0 H_1 H_2 H_3 H_4 H_5 H_6 H_z
  replace H := H.below K'
  replace G := G.below K'
  replace hL := hL.below K'
  replace h := h.below K'
  replace hs := hs.below K'
  replace K := Below.then_ K K'
  clear K'
  rcases bo with _ | _
  · clear hB
    go_wp2_with fail
    refine (awake_any _ hL).mono ?_
    rintro e w4 ⟨rfl, K'⟩
    replace H := H.below K'
    replace G := G.below K'
    replace hL := hL.below K'
    replace h := h.below K'
    replace hs := hs.below K'
    replace K := Below.then_ K K'
    clear K'
    go_wp2
    go_ret
    exact ⟨rfl, K⟩
  obtain ⟨M, hC⟩ := hB rfl
  clear hB
  have hM := hC.much
  have hn : n ≤ 65536 := by have := hC.few; omega
  have hMm := hM.most
  have G_0 := G.at_ (v := .int .i64 k) 0 rfl
  have G_1 := G.at_ (v := .int .u32 (X : Int)) 1 rfl
  have G_2 := G.at_ (v := .slice B m d) 2 rfl
  have G_z := G.lt
  rcases Nat.lt_or_ge 100 m with hfG | hfG
  · go_wp2_with fail
    refine (few_no hs (Nat.not_le.2 hfG)).mono ?_
    rintro e w4 ⟨rfl, K'⟩
    replace H := H.below K'
    replace G := G.below K'
    replace hL := hL.below K'
    replace h := h.below K'
    replace hs := hs.below K'
    replace K := Below.then_ K K'
    clear K'
    clear G_0 G_1 G_2 G_z
    go_wp2_with fail
    refine (awake_any _ hL).mono ?_
    rintro e w5 ⟨rfl, K'⟩
    replace H := H.below K'
    replace G := G.below K'
    replace hL := hL.below K'
    replace h := h.below K'
    replace hs := hs.below K'
    replace K := Below.then_ K K'
    clear K'
    go_wp2
    go_ret
    exact ⟨rfl, K⟩
  go_wp2_with fail
  refine (few_yes hs hfG).mono ?_
  rintro e w4 ⟨rfl, K'⟩
  replace H := H.below K'
  replace G := G.below K'
  replace hL := hL.below K'
  replace h := h.below K'
  replace hs := hs.below K'
  replace K := Below.then_ K K'
  clear K'
  clear G_0 G_1 G_2 G_z
  have hl := Lib.hid hs.len
  obtain ⟨E, hE⟩ : ∃ E, askE a M zs k X ys = E := ⟨_, rfl⟩
  have ee : (E != E) = false := by simp
  replace hE := Lib.hid hE
  have h4 : gH < w4.heap.size := H.lt
  have h5 : gG < w4.heap.size := G.lt
  have h6 := K.size
  have G_0 := G.at_ (v := .int .i64 k) 0 rfl
  have G_1 := G.at_ (v := .int .u32 (X : Int)) 1 rfl
  have G_2 := G.at_ (v := .slice B m d) 2 rfl
  have G_z := G.lt
  go_upto_region 4 with (first | (refine wpList_store_row rfl 30 (.tmp 9) (.tmp 24) rfl _ _ rfl (show _ = Value.agg #[.int .i64 k, .int .u32 (X : Int), .slice B m d] from rfl) _ _ (Bk.new _ _ _) ak_sz rfl (by simp [Value.oneCell']) ?_))
  try rw [World.setRow_alloc_new]
  clear G_0 G_1 G_2 G_z
  replace H := H.alloc (.cells #[.int .i64 k, .int .u32 (X : Int), .slice B m d] 30)
  replace G := G.alloc (.cells #[.int .i64 k, .int .u32 (X : Int), .slice B m d] 30)
  replace hL := hL.below (below_alloc _ (.cells #[.int .i64 k, .int .u32 (X : Int), .slice B m d] 30))
  replace h := h.below (below_alloc _ (.cells #[.int .i64 k, .int .u32 (X : Int), .slice B m d] 30))
  replace hs := hs.below (below_alloc _ (.cells #[.int .i64 k, .int .u32 (X : Int), .slice B m d] 30))
  replace K := Below.then_ K (below_alloc _ (.cells #[.int .i64 k, .int .u32 (X : Int), .slice B m d] 30))
  have J := Bk.new (w4) #[.int .i64 k, .int .u32 (X : Int), .slice B m d] 30
  try simp only [World.size_alloc] at J
  generalize (w4).alloc (.cells #[.int .i64 k, .int .u32 (X : Int), .slice B m d] 30) = w5 at H G J hL h hs K ⊢
  generalize w4.heap.size = gJ at J h4 h5 h6 ⊢
  have hHJ : gH ≠ gJ := by omega
  have hGJ : gG ≠ gJ := by omega
  clear hL h hs
  by_cases n4_ : k = 4
  · subst n4_
    have hEb : askE a M zs 4 Y ys = E := by
      rw [← hE.out]; unfold askE; rw [nmI_all, nmI_all]
    replace hEb := Lib.hid hEb
    have J_f := J.fz 1
    have G_0 := G.at_ (v := .int .i64 4) 0 rfl
    have G_1 := G.at_ (v := .int .u32 (X : Int)) 1 rfl
    have G_2 := G.at_ (v := .slice B m d) 2 rfl
    have G_z := G.lt
    have J_0 := J.at_ (v := .int .i64 4) 0 rfl
    have J_1 := J.at_ (v := .int .u32 (X : Int)) 1 rfl
    have J_2 := J.at_ (v := .slice B m d) 2 rfl
    have J_z := J.lt
    go_upto_region 8 with (fail)
    clear G_0 G_1 G_2 G_z
    clear J_0 J_1 J_2 J_z
    clear J_f
    replace K := K.setCell (p := ⟨gJ, 1, none⟩) h6 (.int .u32 (Y : Int))
    replace H := H.far (p := ⟨gJ, 1, none⟩) hHJ (.int .u32 (Y : Int))
    replace G := G.far (p := ⟨gJ, 1, none⟩) hGJ (.int .u32 (Y : Int))
    replace J : Bk (w5.setCell ⟨gJ, 1, none⟩ (.int .u32 (Y : Int))) gJ 30 #[.int .i64 4, .int .u32 (Y : Int), .slice B m d] := J.set_ 1 (.int .u32 (Y : Int))
    generalize w5.setCell ⟨gJ, 1, none⟩ (.int .u32 (Y : Int)) = w6 at H G J K ⊢
    have hL := hL0.below K
    have h := h0.below K
    have hs := hs0.below K
    go_wp2_with fail
    refine wp_region_held_drew (S := fun w' => Below w6.heap.size w6 w') (by kernel_rfl) (Below.refl _ _).drew (fun hHeld => ?_)
    refine wpAnyH_take (i := 0) (oi := ⟨some 52, _, _, _, _, _⟩) (v := ?_) rfl (by kernel_rfl) (by kernel_rfl) (by kernel_rfl) (fun _ _ _ h => h) (Or.inl ⟨by rfl, ?_⟩) hHeld ?_
    rotate_left
    · intro ww hSw
      try dsimp only at hSw
      have H_0 := (H.below hSw).at_ (v := .int .u32 (a : Int)) 0 rfl
      have H_1 := (H.below hSw).at_ (v := .int .i64 p) 1 rfl
      have H_2 := (H.below hSw).at_ (v := .slice A n c) 2 rfl
      have H_3 := (H.below hSw).at_ (v := .int .i64 sh) 3 rfl
      have H_4 := (H.below hSw).at_ (v := .int .i64 wo) 4 rfl
      have H_5 := (H.below hSw).at_ (v := .int .i64 qu) 5 rfl
      have H_6 := (H.below hSw).at_ (v := .int .i64 tr) 6 rfl
      have G_0 := (G.below hSw).at_ (v := .int .i64 4) 0 rfl
      have G_1 := (G.below hSw).at_ (v := .int .u32 (X : Int)) 1 rfl
      have G_2 := (G.below hSw).at_ (v := .slice B m d) 2 rfl
      have J_0 := (J.below hSw).at_ (v := .int .i64 4) 0 rfl
      have J_1 := (J.below hSw).at_ (v := .int .u32 (Y : Int)) 1 rfl
      have J_2 := (J.below hSw).at_ (v := .slice B m d) 2 rfl
      go_simp
      try with_reducible rfl
      try omega
    try simp only [Act.put, List.setIfInBounds_toArray, List.set_cons_zero, List.set_cons_succ]
    refine wpAnyH_take (i := 1) (oi := ⟨some 53, _, _, _, _, _⟩) (v := ?_) rfl (by kernel_rfl) (by kernel_rfl) (by kernel_rfl) (fun _ _ _ h => h) (Or.inl ⟨by rfl, ?_⟩) hHeld ?_
    rotate_left
    · intro ww hSw
      try dsimp only at hSw
      have H_0 := (H.below hSw).at_ (v := .int .u32 (a : Int)) 0 rfl
      have H_1 := (H.below hSw).at_ (v := .int .i64 p) 1 rfl
      have H_2 := (H.below hSw).at_ (v := .slice A n c) 2 rfl
      have H_3 := (H.below hSw).at_ (v := .int .i64 sh) 3 rfl
      have H_4 := (H.below hSw).at_ (v := .int .i64 wo) 4 rfl
      have H_5 := (H.below hSw).at_ (v := .int .i64 qu) 5 rfl
      have H_6 := (H.below hSw).at_ (v := .int .i64 tr) 6 rfl
      have G_0 := (G.below hSw).at_ (v := .int .i64 4) 0 rfl
      have G_1 := (G.below hSw).at_ (v := .int .u32 (X : Int)) 1 rfl
      have G_2 := (G.below hSw).at_ (v := .slice B m d) 2 rfl
      have J_0 := (J.below hSw).at_ (v := .int .i64 4) 0 rfl
      have J_1 := (J.below hSw).at_ (v := .int .u32 (Y : Int)) 1 rfl
      have J_2 := (J.below hSw).at_ (v := .slice B m d) 2 rfl
      go_simp
      try with_reducible rfl
      try omega
    try simp only [Act.put, List.setIfInBounds_toArray, List.set_cons_zero, List.set_cons_succ]
    refine wpAnyH_take (i := 3) (oi := ⟨some 55, _, _, _, _, _⟩) (v := ?_) rfl (by kernel_rfl) (by kernel_rfl) (by kernel_rfl) (fun _ _ _ h => h) (Or.inl ⟨by rfl, ?_⟩) hHeld ?_
    rotate_left
    · intro ww hSw
      try dsimp only at hSw
      have H_0 := (H.below hSw).at_ (v := .int .u32 (a : Int)) 0 rfl
      have H_1 := (H.below hSw).at_ (v := .int .i64 p) 1 rfl
      have H_2 := (H.below hSw).at_ (v := .slice A n c) 2 rfl
      have H_3 := (H.below hSw).at_ (v := .int .i64 sh) 3 rfl
      have H_4 := (H.below hSw).at_ (v := .int .i64 wo) 4 rfl
      have H_5 := (H.below hSw).at_ (v := .int .i64 qu) 5 rfl
      have H_6 := (H.below hSw).at_ (v := .int .i64 tr) 6 rfl
      have G_0 := (G.below hSw).at_ (v := .int .i64 4) 0 rfl
      have G_1 := (G.below hSw).at_ (v := .int .u32 (X : Int)) 1 rfl
      have G_2 := (G.below hSw).at_ (v := .slice B m d) 2 rfl
      have J_0 := (J.below hSw).at_ (v := .int .i64 4) 0 rfl
      have J_1 := (J.below hSw).at_ (v := .int .u32 (Y : Int)) 1 rfl
      have J_2 := (J.below hSw).at_ (v := .slice B m d) 2 rfl
      go_simp
      try with_reducible rfl
      try omega
    try simp only [Act.put, List.setIfInBounds_toArray, List.set_cons_zero, List.set_cons_succ]
    refine wpAnyH_take (i := 4) (oi := ⟨some 56, _, _, _, _, _⟩) (v := ?_) rfl (by kernel_rfl) (by kernel_rfl) (by kernel_rfl) (fun _ _ _ h => h) (Or.inl ⟨by rfl, ?_⟩) hHeld ?_
    rotate_left
    · intro ww hSw
      try dsimp only at hSw
      have H_0 := (H.below hSw).at_ (v := .int .u32 (a : Int)) 0 rfl
      have H_1 := (H.below hSw).at_ (v := .int .i64 p) 1 rfl
      have H_2 := (H.below hSw).at_ (v := .slice A n c) 2 rfl
      have H_3 := (H.below hSw).at_ (v := .int .i64 sh) 3 rfl
      have H_4 := (H.below hSw).at_ (v := .int .i64 wo) 4 rfl
      have H_5 := (H.below hSw).at_ (v := .int .i64 qu) 5 rfl
      have H_6 := (H.below hSw).at_ (v := .int .i64 tr) 6 rfl
      have G_0 := (G.below hSw).at_ (v := .int .i64 4) 0 rfl
      have G_1 := (G.below hSw).at_ (v := .int .u32 (X : Int)) 1 rfl
      have G_2 := (G.below hSw).at_ (v := .slice B m d) 2 rfl
      have J_0 := (J.below hSw).at_ (v := .int .i64 4) 0 rfl
      have J_1 := (J.below hSw).at_ (v := .int .u32 (Y : Int)) 1 rfl
      have J_2 := (J.below hSw).at_ (v := .slice B m d) 2 rfl
      go_simp
      try with_reducible rfl
      try omega
    try simp only [Act.put, List.setIfInBounds_toArray, List.set_cons_zero, List.set_cons_succ]
    refine wpAnyH_ready (rs := [2]) (by kernel_rfl) (by simp) ?_
    refine AllReadyH.cons (o := ⟨some 54, _, _, _, _, _⟩) rfl (fun K0 hK => ?_) AllReadyH.nil
    go_simp
    refine (check_is (k := 4) (X := X) (v := E) (hL.below hHeld) ha hM (h.below hHeld) hn (hs.below hHeld) (by omega) hX hw.out hE.out).mono ?_
    rintro e ww ⟨rfl, K'⟩
    refine hK.out _ _ (Below.then_ hHeld K') (fun hHeld' => ?_)
    clear hHeld K' hK K0
    have hHeld := hHeld'
    clear hHeld'
    try simp only [Act.put, List.setIfInBounds_toArray, List.set_cons_zero, List.set_cons_succ]
    refine wpAnyH_ready (rs := [5]) (by kernel_rfl) (by simp) ?_
    refine AllReadyH.cons (o := ⟨some 57, _, _, _, _, _⟩) rfl (fun K0 hK => ?_) AllReadyH.nil
    go_simp
    refine (check_is (k := 4) (X := Y) (v := E) (hL.below hHeld) ha hM (h.below hHeld) hn (hs.below hHeld) (by omega) hY hw.out hEb.out).mono ?_
    rintro e ww ⟨rfl, K'⟩
    refine hK.out _ _ (Below.then_ hHeld K') (fun hHeld' => ?_)
    clear hHeld K' hK K0
    have hHeld := hHeld'
    clear hHeld'
    try simp only [Act.put, List.setIfInBounds_toArray, List.set_cons_zero, List.set_cons_succ]
    refine wpAnyH_take (i := 6) (oi := ⟨some 58, _, _, _, _, _⟩) (v := ?_) rfl (by kernel_rfl) (by kernel_rfl) (by kernel_rfl) (fun _ _ _ h => h) (Or.inl ⟨by rfl, ?_⟩) hHeld ?_
    rotate_left
    · intro ww hSw
      try dsimp only at hSw
      go_simp
      try with_reducible rfl
      try omega
    try simp only [Act.put, List.setIfInBounds_toArray, List.set_cons_zero, List.set_cons_succ]
    refine wpAnyH_done (by kernel_rfl) ?_ _
    replace H := H.below hHeld
    replace G := G.below hHeld
    replace J := J.below hHeld
    replace hL := hL.below hHeld
    replace h := h.below hHeld
    replace hs := hs.below hHeld
    replace K := Below.then_ K hHeld
    clear hHeld
    clear J
    have H_0 := H.at_ (v := .int .u32 (a : Int)) 0 rfl
    have H_1 := H.at_ (v := .int .i64 p) 1 rfl
    have H_2 := H.at_ (v := .slice A n c) 2 rfl
    have H_3 := H.at_ (v := .int .i64 sh) 3 rfl
    have H_4 := H.at_ (v := .int .i64 wo) 4 rfl
    have H_5 := H.at_ (v := .int .i64 qu) 5 rfl
    have H_6 := H.at_ (v := .int .i64 tr) 6 rfl
    have H_z := H.lt
    have G_0 := G.at_ (v := .int .i64 4) 0 rfl
    have G_1 := G.at_ (v := .int .u32 (X : Int)) 1 rfl
    have G_2 := G.at_ (v := .slice B m d) 2 rfl
    have G_z := G.lt
    go_wp2_with fail
    refine (check_is (k := 4) (X := X) (v := E) hL ha hM h hn hs (by omega) hX hw.out hE.out).mono ?_
    rintro e w21 ⟨rfl, K'⟩
    clear H_0 H_1 H_2 H_3 H_4 H_5 H_6 H_z
    clear G_0 G_1 G_2 G_z
    replace H := H.below K'
    replace G := G.below K'
    replace hL := hL.below K'
    replace h := h.below K'
    replace hs := hs.below K'
    replace K := Below.then_ K K'
    clear K'
    by_cases hE0 : E = 0
    · subst hE0
      obtain ⟨-, -, hb, hok⟩ := askE_ok hE.out
      obtain ⟨hm1, hm2⟩ := hb rfl
      rw [nmI_all] at hok
      replace hok := Lib.hid hok
      rw [hl.out] at hm1 hm2
      have d4 : gH < w21.heap.size := H.lt
      have d5 : gG < w21.heap.size := G.lt
      have d6 := K.size
      have G_0 := G.at_ (v := .int .i64 4) 0 rfl
      have G_1 := G.at_ (v := .int .u32 (X : Int)) 1 rfl
      have G_2 := G.at_ (v := .slice B m d) 2 rfl
      have G_z := G.lt
      go_upto_region 13 with (first | (refine wpList_store_row rfl 30 (.tmp 10) (.tmp 68) rfl _ _ rfl (show _ = Value.agg #[.int .i64 4, .int .u32 (X : Int), .slice B m d] from rfl) _ _ (Bk.new _ _ _) ak_sz rfl (by simp [Value.oneCell']) ?_))
      try rw [World.setRow_alloc_new]
      clear G_0 G_1 G_2 G_z
      replace H := H.alloc (.cells #[.int .i64 4, .int .u32 (X : Int), .slice B m d] 30)
      replace G := G.alloc (.cells #[.int .i64 4, .int .u32 (X : Int), .slice B m d] 30)
      replace hL := hL.below (below_alloc _ (.cells #[.int .i64 4, .int .u32 (X : Int), .slice B m d] 30))
      replace h := h.below (below_alloc _ (.cells #[.int .i64 4, .int .u32 (X : Int), .slice B m d] 30))
      replace hs := hs.below (below_alloc _ (.cells #[.int .i64 4, .int .u32 (X : Int), .slice B m d] 30))
      replace K := Below.then_ K (below_alloc _ (.cells #[.int .i64 4, .int .u32 (X : Int), .slice B m d] 30))
      have D := Bk.new (w21) #[.int .i64 4, .int .u32 (X : Int), .slice B m d] 30
      try simp only [World.size_alloc] at D
      generalize (w21).alloc (.cells #[.int .i64 4, .int .u32 (X : Int), .slice B m d] 30) = w22 at H G D hL h hs K ⊢
      generalize w21.heap.size = gD at D d4 d5 d6 ⊢
      obtain ⟨q, hq⟩ : ∃ q : Nat, q = cu % (m + 1) := ⟨_, rfl⟩
      have q1 : q ≤ m := by have : cu % (m + 1) < m + 1 := Nat.mod_lt _ (Nat.succ_pos m); omega
      have t5 : (cu : Int).tmod ((m : Int) + 1) = (q : Int) := by rw [Int.tmod_eq_emod_of_nonneg (by omega), hq, Int.natCast_emod]; rfl
      have t6 : (cu : Int) % ((m : Int) + 1) = (q : Int) := by rw [hq, Int.natCast_emod]; rfl
      clear hq
      have hcap := hs.cap
      have hmx := hs.most
      unfold maxLen at hmx
      have t1 : IntKind.i64.wrap (cu : Int) = (cu : Int) := IntWalk.i64_in _ (by omega)
      have t2 : IntKind.i64.wrap ((m : Int) + 1) = (m : Int) + 1 := IntWalk.i64_in _ (by omega)
      have t3 : ((m : Int) + 1 == 0) = false := by simp; omega
      have t4 : ¬ (m : Int) + 1 = 0 := by omega
      have t7 : IntKind.i64.wrap (q : Int) = (q : Int) := IntWalk.i64_in _ (by omega)
      have t8 : (q : Int) ≤ (d : Int) := by omega
      have t9 : ¬ d < q := by omega
      have t10 : q ≤ d := by omega
      have t11 : ¬ (d : Int) < (q : Int) := by omega
      refine wp_region_held_drew (S := fun w' => Below gD w22 w' ∧ ∃ v, Bk w' gD 30 #[.int .i64 4, .int .u32 (X : Int), v]) (by kernel_rfl) ⟨(Below.refl _ _).drew, _, D⟩ (fun hHeld => ?_)
      generalize w22.drew = w12 at hHeld ⊢
      refine wpAnyH_take (i := 0) (oi := ⟨some 69, _, _, _, _, _⟩) (v := ?_) rfl (by kernel_rfl) (by kernel_rfl) (by kernel_rfl) (fun _ _ _ h => h) (Or.inl ⟨by rfl, ?_⟩) hHeld ?_
      rotate_left
      · intro ww hSw
        try dsimp only at hSw
        go_simp
        try with_reducible rfl
        try omega
      try simp only [Act.put, List.setIfInBounds_toArray, List.set_cons_zero, List.set_cons_succ]
      refine wpAnyH_take (i := 1) (oi := ⟨some 70, _, _, _, _, _⟩) (v := ?_) rfl (by kernel_rfl) (by kernel_rfl) (by kernel_rfl) (fun _ _ _ h => h) (Or.inl ⟨by rfl, ?_⟩) hHeld ?_
      rotate_left
      · intro ww hSw
        try dsimp only at hSw
        have G_0 := (G.under hSw.1 d5).at_ (v := .int .i64 4) 0 rfl
        have G_1 := (G.under hSw.1 d5).at_ (v := .int .u32 (X : Int)) 1 rfl
        have G_2 := (G.under hSw.1 d5).at_ (v := .slice B m d) 2 rfl
        have G_z := (G.under hSw.1 d5).lt
        go_simp
        try with_reducible rfl
        try omega
      try simp only [Act.put, List.setIfInBounds_toArray, List.set_cons_zero, List.set_cons_succ]
      refine wpAnyH_take (i := 2) (oi := ⟨some 71, _, _, _, _, _⟩) (v := ?_) rfl (by kernel_rfl) (by kernel_rfl) (by kernel_rfl) (fun _ _ _ h => h) (Or.inl ⟨by rfl, ?_⟩) hHeld ?_
      rotate_left
      · intro ww hSw
        try dsimp only at hSw
        go_simp
        try with_reducible rfl
        try omega
      try simp only [Act.put, List.setIfInBounds_toArray, List.set_cons_zero, List.set_cons_succ]
      refine wpAnyH_take (i := 3) (oi := ⟨some 72, _, _, _, _, _⟩) (v := .int .i64 (cu : Int)) rfl (by kernel_rfl) (by kernel_rfl) (by kernel_rfl) (fun _ _ _ h => h) (Or.inl ⟨by rfl, ?_⟩) hHeld ?_
      · intro ww hSw
        try dsimp only at hSw
        go_simp
        try with_reducible rfl
        try omega
      try simp only [Act.put, List.setIfInBounds_toArray, List.set_cons_zero, List.set_cons_succ]
      refine wpAnyH_take (i := 4) (oi := ⟨some 73, _, _, _, _, _⟩) (v := ?_) rfl (by kernel_rfl) (by kernel_rfl) (by kernel_rfl) (fun _ _ _ h => h) (Or.inl ⟨by rfl, ?_⟩) hHeld ?_
      rotate_left
      · intro ww hSw
        try dsimp only at hSw
        go_simp
        try with_reducible rfl
        try omega
      try simp only [Act.put, List.setIfInBounds_toArray, List.set_cons_zero, List.set_cons_succ]
      refine wpAnyH_take (i := 5) (oi := ⟨some 74, _, _, _, _, _⟩) (v := ?_) rfl (by kernel_rfl) (by kernel_rfl) (by kernel_rfl) (fun _ _ _ h => h) (Or.inl ⟨by rfl, ?_⟩) hHeld ?_
      rotate_left
      · intro ww hSw
        try dsimp only at hSw
        have G_0 := (G.under hSw.1 d5).at_ (v := .int .i64 4) 0 rfl
        have G_1 := (G.under hSw.1 d5).at_ (v := .int .u32 (X : Int)) 1 rfl
        have G_2 := (G.under hSw.1 d5).at_ (v := .slice B m d) 2 rfl
        have G_z := (G.under hSw.1 d5).lt
        go_simp
        try with_reducible rfl
        try omega
      try simp only [Act.put, List.setIfInBounds_toArray, List.set_cons_zero, List.set_cons_succ]
      refine wpAnyH_take (i := 6) (oi := ⟨some 75, _, _, _, _, _⟩) (v := .int .i64 (m : Int)) rfl (by kernel_rfl) (by kernel_rfl) (by kernel_rfl) (fun _ _ _ h => h) (Or.inl ⟨by rfl, ?_⟩) hHeld ?_
      · intro ww hSw
        try dsimp only at hSw
        go_simp
        try with_reducible rfl
        try omega
      try simp only [Act.put, List.setIfInBounds_toArray, List.set_cons_zero, List.set_cons_succ]
      refine wpAnyH_take (i := 7) (oi := ⟨some 76, _, _, _, _, _⟩) (v := .int .i64 ((m : Int) + 1)) rfl (by kernel_rfl) (by kernel_rfl) (by kernel_rfl) (fun _ _ _ h => h) (Or.inl ⟨by rfl, ?_⟩) hHeld ?_
      · intro ww hSw
        try dsimp only at hSw
        go_simp
        try with_reducible rfl
        try omega
      try simp only [Act.put, List.setIfInBounds_toArray, List.set_cons_zero, List.set_cons_succ]
      refine wpAnyH_take (i := 8) (oi := ⟨some 77, _, _, _, _, _⟩) (v := .int .i64 (q : Int)) rfl (by kernel_rfl) (by kernel_rfl) (by kernel_rfl) (fun _ _ _ h => h) (Or.inl ⟨by rfl, ?_⟩) hHeld ?_
      · intro ww hSw
        try dsimp only at hSw
        go_simp
        try with_reducible rfl
        try omega
      try simp only [Act.put, List.setIfInBounds_toArray, List.set_cons_zero, List.set_cons_succ]
      refine wpAnyH_take (i := 9) (oi := ⟨some 78, _, _, _, _, _⟩) (v := .slice B q d) rfl (by kernel_rfl) (by kernel_rfl) (by kernel_rfl) (fun _ _ _ h => h) (Or.inl ⟨by rfl, ?_⟩) hHeld ?_
      · intro ww hSw
        try dsimp only at hSw
        go_simp
        try with_reducible rfl
        try omega
      try simp only [Act.put, List.setIfInBounds_toArray, List.set_cons_zero, List.set_cons_succ]
      refine wpAnyH_take (i := 10) (oi := ⟨some 79, _, _, _, _, _⟩) (v := ?_) rfl (by kernel_rfl) (by kernel_rfl) (by kernel_rfl) (fun _ _ _ h => h) (Or.inl ⟨by rfl, ?_⟩) hHeld ?_
      rotate_left
      · intro ww hSw
        try dsimp only at hSw
        go_simp
        try with_reducible rfl
        try omega
      try simp only [Act.put, List.setIfInBounds_toArray, List.set_cons_zero, List.set_cons_succ]
      refine wpAnyH_ready (rs := [11]) (by kernel_rfl) (by simp) ?_
      refine AllReadyH.cons (o := ⟨none, _, _, _, _, _⟩) rfl (fun K0 hK => ?_) AllReadyH.nil
      obtain ⟨vd, D5⟩ := hHeld.2
      have d2 := D5.at_ (v := vd) 2 rfl
      have dz := D5.fz 2
      have dl := D5.lt
      go_simp
      have L9 : Below gD w22 (w12.setCell ⟨gD, 2, none⟩ (.slice B q d)) := hHeld.1.setCell (Nat.le_refl _) _
      have D9 : Bk (w12.setCell ⟨gD, 2, none⟩ (.slice B q d)) gD 30 #[.int .i64 4, .int .u32 (X : Int), .slice B q d] := D5.set_ 2 _
      refine hK.out _ _ ⟨L9, _, D9⟩ (fun hHeld' => ?_)
      clear hHeld hK K0 hHeld' d2 dz dl D5
      try simp only [Act.put, List.setIfInBounds_toArray, List.set_cons_zero, List.set_cons_succ]
      refine wpAnyH_done (by kernel_rfl) ?_ _
      replace D := D9
      replace H := H.under L9 d4
      replace K := K.trans (L9.mono d6)
      clear D9 L9 G hL h hs t1 t2 t3 t4 t5 t6 t7 t8 t9 t10 t11
      generalize w12.setCell ⟨gD, 2, none⟩ (.slice B q d) = w13 at D H K ⊢
      have hL := hL0.below K
      have h := h0.below K
      have hs := hs0.below K
      replace hs := front hs q1
      rcases Nat.eq_zero_or_pos q with q0 | q0
      · subst q0
        have H_0 := H.at_ (v := .int .u32 (a : Int)) 0 rfl
        have H_1 := H.at_ (v := .int .i64 p) 1 rfl
        have H_2 := H.at_ (v := .slice A n c) 2 rfl
        have H_3 := H.at_ (v := .int .i64 sh) 3 rfl
        have H_4 := H.at_ (v := .int .i64 wo) 4 rfl
        have H_5 := H.at_ (v := .int .i64 qu) 5 rfl
        have H_6 := H.at_ (v := .int .i64 tr) 6 rfl
        have H_z := H.lt
        have D_0 := D.at_ (v := .int .i64 4) 0 rfl
        have D_1 := D.at_ (v := .int .u32 (X : Int)) 1 rfl
        have D_2 := D.at_ (v := .slice B 0 d) 2 rfl
        have D_z := D.lt
        go_wp2_with fail
        refine (check_is (k := 4) (X := X) (v := 7) hL ha hM h hn hs (by omega) hX (W32.take hw.out 0) (by rw [List.take_zero]; rfl)).mono ?_
        rintro e w31 ⟨rfl, K'⟩
        clear H_0 H_1 H_2 H_3 H_4 H_5 H_6 H_z
        clear D_0 D_1 D_2 D_z
        replace H := H.below K'
        replace D := D.below K'
        replace hL := hL.below K'
        replace h := h.below K'
        replace hs := hs.below K'
        replace K := Below.then_ K K'
        clear K'
        have H_0 := H.at_ (v := .int .u32 (a : Int)) 0 rfl
        have H_1 := H.at_ (v := .int .i64 p) 1 rfl
        have H_2 := H.at_ (v := .slice A n c) 2 rfl
        have H_3 := H.at_ (v := .int .i64 sh) 3 rfl
        have H_4 := H.at_ (v := .int .i64 wo) 4 rfl
        have H_5 := H.at_ (v := .int .i64 qu) 5 rfl
        have H_6 := H.at_ (v := .int .i64 tr) 6 rfl
        have H_z := H.lt
        have D_0 := D.at_ (v := .int .i64 4) 0 rfl
        have D_1 := D.at_ (v := .int .u32 (X : Int)) 1 rfl
        have D_2 := D.at_ (v := .slice B 0 d) 2 rfl
        have D_z := D.lt
        go_wp2_with fail
        refine (check_is (k := 4) (X := X) (v := 7) hL ha hM h hn hs (by omega) hX (W32.take hw.out 0) (by rw [List.take_zero]; rfl)).mono ?_
        rintro e w32 ⟨rfl, K'⟩
        clear H_0 H_1 H_2 H_3 H_4 H_5 H_6 H_z
        clear D_0 D_1 D_2 D_z
        replace H := H.below K'
        replace D := D.below K'
        replace hL := hL.below K'
        replace h := h.below K'
        replace hs := hs.below K'
        replace K := Below.then_ K K'
        clear K'
        go_wp2
        go_ret
        exact ⟨rfl, K⟩
      · have hC2 : askE a M zs 4 X (ys.take q) = 0 := by
          have := hl.out
          rw [askE_batch (by rw [List.length_take]; omega) (by rw [List.length_take]; omega)]
          exact chk_app (ys.drop q) (by rw [List.take_append_drop]; exact hok.out)
        replace hC2 := Lib.hid hC2
        have H_0 := H.at_ (v := .int .u32 (a : Int)) 0 rfl
        have H_1 := H.at_ (v := .int .i64 p) 1 rfl
        have H_2 := H.at_ (v := .slice A n c) 2 rfl
        have H_3 := H.at_ (v := .int .i64 sh) 3 rfl
        have H_4 := H.at_ (v := .int .i64 wo) 4 rfl
        have H_5 := H.at_ (v := .int .i64 qu) 5 rfl
        have H_6 := H.at_ (v := .int .i64 tr) 6 rfl
        have H_z := H.lt
        have D_0 := D.at_ (v := .int .i64 4) 0 rfl
        have D_1 := D.at_ (v := .int .u32 (X : Int)) 1 rfl
        have D_2 := D.at_ (v := .slice B q d) 2 rfl
        have D_z := D.lt
        go_wp2_with fail
        refine (check_is (k := 4) (X := X) (v := 0) hL ha hM h hn hs (by omega) hX (W32.take hw.out q) hC2.out).mono ?_
        rintro e w31 ⟨rfl, K'⟩
        clear H_0 H_1 H_2 H_3 H_4 H_5 H_6 H_z
        clear D_0 D_1 D_2 D_z
        replace H := H.below K'
        replace D := D.below K'
        replace hL := hL.below K'
        replace h := h.below K'
        replace hs := hs.below K'
        replace K := Below.then_ K K'
        clear K'
        go_wp2
        go_ret
        exact ⟨rfl, K⟩
    · have e9 : (E != 0) = true := by simp [hE0]
      clear hE0
      go_wp2
      go_ret
      exact ⟨rfl, K⟩
  by_cases hk : k = 1 ∨ k = 6 ∨ k = 7
  · have key : (k == 1) = true ∨ ((k == 1) = false ∧ (k == 4) = false ∧ (k == 6) = true) ∨ ((k == 1) = false ∧ (k == 4) = false ∧ (k == 6) = false ∧ (k == 7) = true) := by
      rcases hk with rfl | rfl | rfl
      · exact .inl rfl
      · exact .inr (.inl ⟨rfl, rfl, rfl⟩)
      · exact .inr (.inr ⟨rfl, rfl, rfl, rfl⟩)
    have hEb : askE a M zs k Y [(Y : Int), (Y : Int)] = E := (askE_other n4_ (by omega)).trans hE.out
    replace hEb := Lib.hid hEb
    have n4 : (k != 4) = true := by simp [n4_]
    replace n4_ := Lib.hid n4_
    replace hk := Lib.hid hk
    rcases key with e1 | ⟨e1, e4, e6⟩ | ⟨e1, e4, e6, e7⟩
    all_goals
      have J_f := J.fz 1
      have G_0 := G.at_ (v := .int .i64 k) 0 rfl
      have G_1 := G.at_ (v := .int .u32 (X : Int)) 1 rfl
      have G_2 := G.at_ (v := .slice B m d) 2 rfl
      have G_z := G.lt
      have J_0 := J.at_ (v := .int .i64 k) 0 rfl
      have J_1 := J.at_ (v := .int .u32 (X : Int)) 1 rfl
      have J_2 := J.at_ (v := .slice B m d) 2 rfl
      have J_z := J.lt
      go_upto_region 6 with (fail)
      clear G_0 G_1 G_2 G_z
      clear J_0 J_1 J_2 J_z
      clear J_f
      replace K := K.setCell (p := ⟨gJ, 1, none⟩) h6 (.int .u32 (Y : Int))
      replace H := H.far (p := ⟨gJ, 1, none⟩) hHJ (.int .u32 (Y : Int))
      replace G := G.far (p := ⟨gJ, 1, none⟩) hGJ (.int .u32 (Y : Int))
      replace J : Bk (w5.setCell ⟨gJ, 1, none⟩ (.int .u32 (Y : Int))) gJ 30 #[.int .i64 k, .int .u32 (Y : Int), .slice B m d] := J.set_ 1 (.int .u32 (Y : Int))
      generalize w5.setCell ⟨gJ, 1, none⟩ (.int .u32 (Y : Int)) = w6 at H G J K ⊢
      have J_f := J.fz 2
      have G_0 := G.at_ (v := .int .i64 k) 0 rfl
      have G_1 := G.at_ (v := .int .u32 (X : Int)) 1 rfl
      have G_2 := G.at_ (v := .slice B m d) 2 rfl
      have G_z := G.lt
      have J_0 := J.at_ (v := .int .i64 k) 0 rfl
      have J_1 := J.at_ (v := .int .u32 (Y : Int)) 1 rfl
      have J_2 := J.at_ (v := .slice B m d) 2 rfl
      have J_z := J.lt
      go_upto_region 8 with (fail)
      clear G_0 G_1 G_2 G_z
      clear J_0 J_1 J_2 J_z
      clear J_f
      have hJL : gJ < w6.heap.size := J.lt
      replace K := K.setCell (p := ⟨gJ, 2, none⟩) h6 (.slice (some ⟨w6.heap.size, 0, none⟩) 2 2)
      replace H := H.far (p := ⟨gJ, 2, none⟩) hHJ (.slice (some ⟨w6.heap.size, 0, none⟩) 2 2)
      replace G := G.far (p := ⟨gJ, 2, none⟩) hGJ (.slice (some ⟨w6.heap.size, 0, none⟩) 2 2)
      replace J : Bk (w6.setCell ⟨gJ, 2, none⟩ (.slice (some ⟨w6.heap.size, 0, none⟩) 2 2)) gJ 30 #[.int .i64 k, .int .u32 (Y : Int), .slice (some ⟨w6.heap.size, 0, none⟩) 2 2] := J.set_ 2 (.slice (some ⟨w6.heap.size, 0, none⟩) 2 2)
      have hz : (w6.setCell ⟨gJ, 2, none⟩ (.slice (some ⟨w6.heap.size, 0, none⟩) 2 2)).heap.size = w6.heap.size := by simp [World.setCell]
      generalize hw9 : w6.setCell ⟨gJ, 2, none⟩ (.slice (some ⟨w6.heap.size, 0, none⟩) 2 2) = w9 at H G J K hz ⊢
      clear hw9
      have L := Bk.new w9 #[.int .u32 (Y : Int), .int .u32 (Y : Int)] 22
      rw [hz] at L
      replace H := H.alloc (.cells #[.int .u32 (Y : Int), .int .u32 (Y : Int)] 22)
      replace G := G.alloc (.cells #[.int .u32 (Y : Int), .int .u32 (Y : Int)] 22)
      replace J := J.alloc (.cells #[.int .u32 (Y : Int), .int .u32 (Y : Int)] 22)
      replace K := Below.then_ K (below_alloc _ (.cells #[.int .u32 (Y : Int), .int .u32 (Y : Int)] 22))
      replace L := IS.lit (n := 2) [(Y : Int), (Y : Int)] L (by rfl) (by omega)
      generalize w9.alloc (.cells #[.int .u32 (Y : Int), .int .u32 (Y : Int)] 22) = w7 at H G J K L ⊢
      clear hz
      generalize w6.heap.size = gL at J L hJL ⊢
      have hL := hL0.below K
      have h := h0.below K
      have hs := hs0.below K
      go_wp2_with fail
      refine wp_region_held_drew (S := fun w' => Below w7.heap.size w7 w') (by kernel_rfl) (Below.refl _ _).drew (fun hHeld => ?_)
      refine wpAnyH_take (i := 0) (oi := ⟨some 52, _, _, _, _, _⟩) (v := ?_) rfl (by kernel_rfl) (by kernel_rfl) (by kernel_rfl) (fun _ _ _ h => h) (Or.inl ⟨by rfl, ?_⟩) hHeld ?_
      rotate_left
      · intro ww hSw
        try dsimp only at hSw
        have H_0 := (H.below hSw).at_ (v := .int .u32 (a : Int)) 0 rfl
        have H_1 := (H.below hSw).at_ (v := .int .i64 p) 1 rfl
        have H_2 := (H.below hSw).at_ (v := .slice A n c) 2 rfl
        have H_3 := (H.below hSw).at_ (v := .int .i64 sh) 3 rfl
        have H_4 := (H.below hSw).at_ (v := .int .i64 wo) 4 rfl
        have H_5 := (H.below hSw).at_ (v := .int .i64 qu) 5 rfl
        have H_6 := (H.below hSw).at_ (v := .int .i64 tr) 6 rfl
        have G_0 := (G.below hSw).at_ (v := .int .i64 k) 0 rfl
        have G_1 := (G.below hSw).at_ (v := .int .u32 (X : Int)) 1 rfl
        have G_2 := (G.below hSw).at_ (v := .slice B m d) 2 rfl
        have J_0 := (J.below hSw).at_ (v := .int .i64 k) 0 rfl
        have J_1 := (J.below hSw).at_ (v := .int .u32 (Y : Int)) 1 rfl
        have J_2 := (J.below hSw).at_ (v := .slice (some ⟨gL, 0, none⟩) 2 2) 2 rfl
        go_simp
        try with_reducible rfl
        try omega
      try simp only [Act.put, List.setIfInBounds_toArray, List.set_cons_zero, List.set_cons_succ]
      refine wpAnyH_take (i := 1) (oi := ⟨some 53, _, _, _, _, _⟩) (v := ?_) rfl (by kernel_rfl) (by kernel_rfl) (by kernel_rfl) (fun _ _ _ h => h) (Or.inl ⟨by rfl, ?_⟩) hHeld ?_
      rotate_left
      · intro ww hSw
        try dsimp only at hSw
        have H_0 := (H.below hSw).at_ (v := .int .u32 (a : Int)) 0 rfl
        have H_1 := (H.below hSw).at_ (v := .int .i64 p) 1 rfl
        have H_2 := (H.below hSw).at_ (v := .slice A n c) 2 rfl
        have H_3 := (H.below hSw).at_ (v := .int .i64 sh) 3 rfl
        have H_4 := (H.below hSw).at_ (v := .int .i64 wo) 4 rfl
        have H_5 := (H.below hSw).at_ (v := .int .i64 qu) 5 rfl
        have H_6 := (H.below hSw).at_ (v := .int .i64 tr) 6 rfl
        have G_0 := (G.below hSw).at_ (v := .int .i64 k) 0 rfl
        have G_1 := (G.below hSw).at_ (v := .int .u32 (X : Int)) 1 rfl
        have G_2 := (G.below hSw).at_ (v := .slice B m d) 2 rfl
        have J_0 := (J.below hSw).at_ (v := .int .i64 k) 0 rfl
        have J_1 := (J.below hSw).at_ (v := .int .u32 (Y : Int)) 1 rfl
        have J_2 := (J.below hSw).at_ (v := .slice (some ⟨gL, 0, none⟩) 2 2) 2 rfl
        go_simp
        try with_reducible rfl
        try omega
      try simp only [Act.put, List.setIfInBounds_toArray, List.set_cons_zero, List.set_cons_succ]
      refine wpAnyH_take (i := 3) (oi := ⟨some 55, _, _, _, _, _⟩) (v := ?_) rfl (by kernel_rfl) (by kernel_rfl) (by kernel_rfl) (fun _ _ _ h => h) (Or.inl ⟨by rfl, ?_⟩) hHeld ?_
      rotate_left
      · intro ww hSw
        try dsimp only at hSw
        have H_0 := (H.below hSw).at_ (v := .int .u32 (a : Int)) 0 rfl
        have H_1 := (H.below hSw).at_ (v := .int .i64 p) 1 rfl
        have H_2 := (H.below hSw).at_ (v := .slice A n c) 2 rfl
        have H_3 := (H.below hSw).at_ (v := .int .i64 sh) 3 rfl
        have H_4 := (H.below hSw).at_ (v := .int .i64 wo) 4 rfl
        have H_5 := (H.below hSw).at_ (v := .int .i64 qu) 5 rfl
        have H_6 := (H.below hSw).at_ (v := .int .i64 tr) 6 rfl
        have G_0 := (G.below hSw).at_ (v := .int .i64 k) 0 rfl
        have G_1 := (G.below hSw).at_ (v := .int .u32 (X : Int)) 1 rfl
        have G_2 := (G.below hSw).at_ (v := .slice B m d) 2 rfl
        have J_0 := (J.below hSw).at_ (v := .int .i64 k) 0 rfl
        have J_1 := (J.below hSw).at_ (v := .int .u32 (Y : Int)) 1 rfl
        have J_2 := (J.below hSw).at_ (v := .slice (some ⟨gL, 0, none⟩) 2 2) 2 rfl
        go_simp
        try with_reducible rfl
        try omega
      try simp only [Act.put, List.setIfInBounds_toArray, List.set_cons_zero, List.set_cons_succ]
      refine wpAnyH_take (i := 4) (oi := ⟨some 56, _, _, _, _, _⟩) (v := ?_) rfl (by kernel_rfl) (by kernel_rfl) (by kernel_rfl) (fun _ _ _ h => h) (Or.inl ⟨by rfl, ?_⟩) hHeld ?_
      rotate_left
      · intro ww hSw
        try dsimp only at hSw
        have H_0 := (H.below hSw).at_ (v := .int .u32 (a : Int)) 0 rfl
        have H_1 := (H.below hSw).at_ (v := .int .i64 p) 1 rfl
        have H_2 := (H.below hSw).at_ (v := .slice A n c) 2 rfl
        have H_3 := (H.below hSw).at_ (v := .int .i64 sh) 3 rfl
        have H_4 := (H.below hSw).at_ (v := .int .i64 wo) 4 rfl
        have H_5 := (H.below hSw).at_ (v := .int .i64 qu) 5 rfl
        have H_6 := (H.below hSw).at_ (v := .int .i64 tr) 6 rfl
        have G_0 := (G.below hSw).at_ (v := .int .i64 k) 0 rfl
        have G_1 := (G.below hSw).at_ (v := .int .u32 (X : Int)) 1 rfl
        have G_2 := (G.below hSw).at_ (v := .slice B m d) 2 rfl
        have J_0 := (J.below hSw).at_ (v := .int .i64 k) 0 rfl
        have J_1 := (J.below hSw).at_ (v := .int .u32 (Y : Int)) 1 rfl
        have J_2 := (J.below hSw).at_ (v := .slice (some ⟨gL, 0, none⟩) 2 2) 2 rfl
        go_simp
        try with_reducible rfl
        try omega
      try simp only [Act.put, List.setIfInBounds_toArray, List.set_cons_zero, List.set_cons_succ]
      refine wpAnyH_ready (rs := [2]) (by kernel_rfl) (by simp) ?_
      refine AllReadyH.cons (o := ⟨some 54, _, _, _, _, _⟩) rfl (fun K0 hK => ?_) AllReadyH.nil
      go_simp
      refine (check_is (k := k) (X := X) (v := E) (hL.below hHeld) ha hM (h.below hHeld) hn (hs.below hHeld) (by omega) hX hw.out hE.out).mono ?_
      rintro e ww ⟨rfl, K'⟩
      refine hK.out _ _ (Below.then_ hHeld K') (fun hHeld' => ?_)
      clear hHeld K' hK K0
      have hHeld := hHeld'
      clear hHeld'
      try simp only [Act.put, List.setIfInBounds_toArray, List.set_cons_zero, List.set_cons_succ]
      refine wpAnyH_ready (rs := [5]) (by kernel_rfl) (by simp) ?_
      refine AllReadyH.cons (o := ⟨some 57, _, _, _, _, _⟩) rfl (fun K0 hK => ?_) AllReadyH.nil
      go_simp
      refine (check_is (k := k) (X := Y) (v := E) (hL.below hHeld) ha hM (h.below hHeld) hn (L.below hHeld) (by omega) hY (by intro y hy; simp only [List.mem_cons, List.not_mem_nil, or_false, or_self] at hy; omega) hEb.out).mono ?_
      rintro e ww ⟨rfl, K'⟩
      refine hK.out _ _ (Below.then_ hHeld K') (fun hHeld' => ?_)
      clear hHeld K' hK K0
      have hHeld := hHeld'
      clear hHeld'
      try simp only [Act.put, List.setIfInBounds_toArray, List.set_cons_zero, List.set_cons_succ]
      refine wpAnyH_take (i := 6) (oi := ⟨some 58, _, _, _, _, _⟩) (v := ?_) rfl (by kernel_rfl) (by kernel_rfl) (by kernel_rfl) (fun _ _ _ h => h) (Or.inl ⟨by rfl, ?_⟩) hHeld ?_
      rotate_left
      · intro ww hSw
        try dsimp only at hSw
        go_simp
        try with_reducible rfl
        try omega
      try simp only [Act.put, List.setIfInBounds_toArray, List.set_cons_zero, List.set_cons_succ]
      refine wpAnyH_done (by kernel_rfl) ?_ _
      replace H := H.below hHeld
      replace G := G.below hHeld
      replace J := J.below hHeld
      replace hL := hL.below hHeld
      replace h := h.below hHeld
      replace hs := hs.below hHeld
      replace L := L.below hHeld
      replace K := Below.then_ K hHeld
      clear hHeld
      have G_0 := G.at_ (v := .int .i64 k) 0 rfl
      have G_1 := G.at_ (v := .int .u32 (X : Int)) 1 rfl
      have G_2 := G.at_ (v := .slice B m d) 2 rfl
      have G_z := G.lt
      go_wp2
      go_ret
      exact ⟨rfl, K⟩
  · have hEb : askE a M zs k X [(Y : Int), (Y : Int)] = E := (askE_other n4_ (fun _ => rfl)).trans hE.out
    replace hEb := Lib.hid hEb
    have n4 : (k != 4) = true := by simp [n4_]
    have e1 : (k == 1) = false := by simp; omega
    have e4 : (k == 4) = false := by simp; omega
    have e6 : (k == 6) = false := by simp; omega
    have e7 : (k == 7) = false := by simp; omega
    clear n4_ hk
    have J_f := J.fz 2
    have G_0 := G.at_ (v := .int .i64 k) 0 rfl
    have G_1 := G.at_ (v := .int .u32 (X : Int)) 1 rfl
    have G_2 := G.at_ (v := .slice B m d) 2 rfl
    have G_z := G.lt
    have J_0 := J.at_ (v := .int .i64 k) 0 rfl
    have J_1 := J.at_ (v := .int .u32 (X : Int)) 1 rfl
    have J_2 := J.at_ (v := .slice B m d) 2 rfl
    have J_z := J.lt
    go_upto_region 8 with (fail)
    clear G_0 G_1 G_2 G_z
    clear J_0 J_1 J_2 J_z
    clear J_f
    have hJL : gJ < w5.heap.size := J.lt
    replace K := K.setCell (p := ⟨gJ, 2, none⟩) h6 (.slice (some ⟨w5.heap.size, 0, none⟩) 2 2)
    replace H := H.far (p := ⟨gJ, 2, none⟩) hHJ (.slice (some ⟨w5.heap.size, 0, none⟩) 2 2)
    replace G := G.far (p := ⟨gJ, 2, none⟩) hGJ (.slice (some ⟨w5.heap.size, 0, none⟩) 2 2)
    replace J : Bk (w5.setCell ⟨gJ, 2, none⟩ (.slice (some ⟨w5.heap.size, 0, none⟩) 2 2)) gJ 30 #[.int .i64 k, .int .u32 (X : Int), .slice (some ⟨w5.heap.size, 0, none⟩) 2 2] := J.set_ 2 (.slice (some ⟨w5.heap.size, 0, none⟩) 2 2)
    have hz : (w5.setCell ⟨gJ, 2, none⟩ (.slice (some ⟨w5.heap.size, 0, none⟩) 2 2)).heap.size = w5.heap.size := by simp [World.setCell]
    generalize hw9 : w5.setCell ⟨gJ, 2, none⟩ (.slice (some ⟨w5.heap.size, 0, none⟩) 2 2) = w9 at H G J K hz ⊢
    clear hw9
    have L := Bk.new w9 #[.int .u32 (Y : Int), .int .u32 (Y : Int)] 22
    rw [hz] at L
    replace H := H.alloc (.cells #[.int .u32 (Y : Int), .int .u32 (Y : Int)] 22)
    replace G := G.alloc (.cells #[.int .u32 (Y : Int), .int .u32 (Y : Int)] 22)
    replace J := J.alloc (.cells #[.int .u32 (Y : Int), .int .u32 (Y : Int)] 22)
    replace K := Below.then_ K (below_alloc _ (.cells #[.int .u32 (Y : Int), .int .u32 (Y : Int)] 22))
    replace L := IS.lit (n := 2) [(Y : Int), (Y : Int)] L (by rfl) (by omega)
    generalize w9.alloc (.cells #[.int .u32 (Y : Int), .int .u32 (Y : Int)] 22) = w6 at H G J K L ⊢
    clear hz
    generalize w5.heap.size = gL at J L hJL ⊢
    have hL := hL0.below K
    have h := h0.below K
    have hs := hs0.below K
    go_wp2_with fail
    refine wp_region_held_drew (S := fun w' => Below w6.heap.size w6 w') (by kernel_rfl) (Below.refl _ _).drew (fun hHeld => ?_)
    refine wpAnyH_take (i := 0) (oi := ⟨some 52, _, _, _, _, _⟩) (v := ?_) rfl (by kernel_rfl) (by kernel_rfl) (by kernel_rfl) (fun _ _ _ h => h) (Or.inl ⟨by rfl, ?_⟩) hHeld ?_
    rotate_left
    · intro ww hSw
      try dsimp only at hSw
      have H_0 := (H.below hSw).at_ (v := .int .u32 (a : Int)) 0 rfl
      have H_1 := (H.below hSw).at_ (v := .int .i64 p) 1 rfl
      have H_2 := (H.below hSw).at_ (v := .slice A n c) 2 rfl
      have H_3 := (H.below hSw).at_ (v := .int .i64 sh) 3 rfl
      have H_4 := (H.below hSw).at_ (v := .int .i64 wo) 4 rfl
      have H_5 := (H.below hSw).at_ (v := .int .i64 qu) 5 rfl
      have H_6 := (H.below hSw).at_ (v := .int .i64 tr) 6 rfl
      have G_0 := (G.below hSw).at_ (v := .int .i64 k) 0 rfl
      have G_1 := (G.below hSw).at_ (v := .int .u32 (X : Int)) 1 rfl
      have G_2 := (G.below hSw).at_ (v := .slice B m d) 2 rfl
      have J_0 := (J.below hSw).at_ (v := .int .i64 k) 0 rfl
      have J_1 := (J.below hSw).at_ (v := .int .u32 (X : Int)) 1 rfl
      have J_2 := (J.below hSw).at_ (v := .slice (some ⟨gL, 0, none⟩) 2 2) 2 rfl
      go_simp
      try with_reducible rfl
      try omega
    try simp only [Act.put, List.setIfInBounds_toArray, List.set_cons_zero, List.set_cons_succ]
    refine wpAnyH_take (i := 1) (oi := ⟨some 53, _, _, _, _, _⟩) (v := ?_) rfl (by kernel_rfl) (by kernel_rfl) (by kernel_rfl) (fun _ _ _ h => h) (Or.inl ⟨by rfl, ?_⟩) hHeld ?_
    rotate_left
    · intro ww hSw
      try dsimp only at hSw
      have H_0 := (H.below hSw).at_ (v := .int .u32 (a : Int)) 0 rfl
      have H_1 := (H.below hSw).at_ (v := .int .i64 p) 1 rfl
      have H_2 := (H.below hSw).at_ (v := .slice A n c) 2 rfl
      have H_3 := (H.below hSw).at_ (v := .int .i64 sh) 3 rfl
      have H_4 := (H.below hSw).at_ (v := .int .i64 wo) 4 rfl
      have H_5 := (H.below hSw).at_ (v := .int .i64 qu) 5 rfl
      have H_6 := (H.below hSw).at_ (v := .int .i64 tr) 6 rfl
      have G_0 := (G.below hSw).at_ (v := .int .i64 k) 0 rfl
      have G_1 := (G.below hSw).at_ (v := .int .u32 (X : Int)) 1 rfl
      have G_2 := (G.below hSw).at_ (v := .slice B m d) 2 rfl
      have J_0 := (J.below hSw).at_ (v := .int .i64 k) 0 rfl
      have J_1 := (J.below hSw).at_ (v := .int .u32 (X : Int)) 1 rfl
      have J_2 := (J.below hSw).at_ (v := .slice (some ⟨gL, 0, none⟩) 2 2) 2 rfl
      go_simp
      try with_reducible rfl
      try omega
    try simp only [Act.put, List.setIfInBounds_toArray, List.set_cons_zero, List.set_cons_succ]
    refine wpAnyH_take (i := 3) (oi := ⟨some 55, _, _, _, _, _⟩) (v := ?_) rfl (by kernel_rfl) (by kernel_rfl) (by kernel_rfl) (fun _ _ _ h => h) (Or.inl ⟨by rfl, ?_⟩) hHeld ?_
    rotate_left
    · intro ww hSw
      try dsimp only at hSw
      have H_0 := (H.below hSw).at_ (v := .int .u32 (a : Int)) 0 rfl
      have H_1 := (H.below hSw).at_ (v := .int .i64 p) 1 rfl
      have H_2 := (H.below hSw).at_ (v := .slice A n c) 2 rfl
      have H_3 := (H.below hSw).at_ (v := .int .i64 sh) 3 rfl
      have H_4 := (H.below hSw).at_ (v := .int .i64 wo) 4 rfl
      have H_5 := (H.below hSw).at_ (v := .int .i64 qu) 5 rfl
      have H_6 := (H.below hSw).at_ (v := .int .i64 tr) 6 rfl
      have G_0 := (G.below hSw).at_ (v := .int .i64 k) 0 rfl
      have G_1 := (G.below hSw).at_ (v := .int .u32 (X : Int)) 1 rfl
      have G_2 := (G.below hSw).at_ (v := .slice B m d) 2 rfl
      have J_0 := (J.below hSw).at_ (v := .int .i64 k) 0 rfl
      have J_1 := (J.below hSw).at_ (v := .int .u32 (X : Int)) 1 rfl
      have J_2 := (J.below hSw).at_ (v := .slice (some ⟨gL, 0, none⟩) 2 2) 2 rfl
      go_simp
      try with_reducible rfl
      try omega
    try simp only [Act.put, List.setIfInBounds_toArray, List.set_cons_zero, List.set_cons_succ]
    refine wpAnyH_take (i := 4) (oi := ⟨some 56, _, _, _, _, _⟩) (v := ?_) rfl (by kernel_rfl) (by kernel_rfl) (by kernel_rfl) (fun _ _ _ h => h) (Or.inl ⟨by rfl, ?_⟩) hHeld ?_
    rotate_left
    · intro ww hSw
      try dsimp only at hSw
      have H_0 := (H.below hSw).at_ (v := .int .u32 (a : Int)) 0 rfl
      have H_1 := (H.below hSw).at_ (v := .int .i64 p) 1 rfl
      have H_2 := (H.below hSw).at_ (v := .slice A n c) 2 rfl
      have H_3 := (H.below hSw).at_ (v := .int .i64 sh) 3 rfl
      have H_4 := (H.below hSw).at_ (v := .int .i64 wo) 4 rfl
      have H_5 := (H.below hSw).at_ (v := .int .i64 qu) 5 rfl
      have H_6 := (H.below hSw).at_ (v := .int .i64 tr) 6 rfl
      have G_0 := (G.below hSw).at_ (v := .int .i64 k) 0 rfl
      have G_1 := (G.below hSw).at_ (v := .int .u32 (X : Int)) 1 rfl
      have G_2 := (G.below hSw).at_ (v := .slice B m d) 2 rfl
      have J_0 := (J.below hSw).at_ (v := .int .i64 k) 0 rfl
      have J_1 := (J.below hSw).at_ (v := .int .u32 (X : Int)) 1 rfl
      have J_2 := (J.below hSw).at_ (v := .slice (some ⟨gL, 0, none⟩) 2 2) 2 rfl
      go_simp
      try with_reducible rfl
      try omega
    try simp only [Act.put, List.setIfInBounds_toArray, List.set_cons_zero, List.set_cons_succ]
    refine wpAnyH_ready (rs := [2]) (by kernel_rfl) (by simp) ?_
    refine AllReadyH.cons (o := ⟨some 54, _, _, _, _, _⟩) rfl (fun K0 hK => ?_) AllReadyH.nil
    go_simp
    refine (check_is (k := k) (X := X) (v := E) (hL.below hHeld) ha hM (h.below hHeld) hn (hs.below hHeld) (by omega) hX hw.out hE.out).mono ?_
    rintro e ww ⟨rfl, K'⟩
    refine hK.out _ _ (Below.then_ hHeld K') (fun hHeld' => ?_)
    clear hHeld K' hK K0
    have hHeld := hHeld'
    clear hHeld'
    try simp only [Act.put, List.setIfInBounds_toArray, List.set_cons_zero, List.set_cons_succ]
    refine wpAnyH_ready (rs := [5]) (by kernel_rfl) (by simp) ?_
    refine AllReadyH.cons (o := ⟨some 57, _, _, _, _, _⟩) rfl (fun K0 hK => ?_) AllReadyH.nil
    go_simp
    refine (check_is (k := k) (X := X) (v := E) (hL.below hHeld) ha hM (h.below hHeld) hn (L.below hHeld) (by omega) hX (by intro y hy; simp only [List.mem_cons, List.not_mem_nil, or_false, or_self] at hy; omega) hEb.out).mono ?_
    rintro e ww ⟨rfl, K'⟩
    refine hK.out _ _ (Below.then_ hHeld K') (fun hHeld' => ?_)
    clear hHeld K' hK K0
    have hHeld := hHeld'
    clear hHeld'
    try simp only [Act.put, List.setIfInBounds_toArray, List.set_cons_zero, List.set_cons_succ]
    refine wpAnyH_take (i := 6) (oi := ⟨some 58, _, _, _, _, _⟩) (v := ?_) rfl (by kernel_rfl) (by kernel_rfl) (by kernel_rfl) (fun _ _ _ h => h) (Or.inl ⟨by rfl, ?_⟩) hHeld ?_
    rotate_left
    · intro ww hSw
      try dsimp only at hSw
      go_simp
      try with_reducible rfl
      try omega
    try simp only [Act.put, List.setIfInBounds_toArray, List.set_cons_zero, List.set_cons_succ]
    refine wpAnyH_done (by kernel_rfl) ?_ _
    replace H := H.below hHeld
    replace G := G.below hHeld
    replace J := J.below hHeld
    replace hL := hL.below hHeld
    replace h := h.below hHeld
    replace hs := hs.below hHeld
    replace L := L.below hHeld
    replace K := Below.then_ K hHeld
    clear hHeld
    have G_0 := G.at_ (v := .int .i64 k) 0 rfl
    have G_1 := G.at_ (v := .int .u32 (X : Int)) 1 rfl
    have G_2 := G.at_ (v := .slice B m d) 2 rfl
    have G_z := G.lt
    go_wp2
    go_ret
    exact ⟨rfl, K⟩
theorem walk (a p : Int) (A : Option Addr) (n c : Nat) (z : List Int) (sh wo qu tr k x : Int) (B : Option Addr) (m d : Nat) (y : List Int) (o cu : Int) (w : World) (hL : Laid w) (wa : (Lit.int .u32 a).wf = true) (wr : IsRow .i64 w A n c z) (wx : (Lit.int .u32 x).wf = true) (ws : IsRow .u32 w B m d y) (wo_ : (Lit.int .u32 o).wf = true) (wc : (Lit.int .u8 cu).wf = true) :
    Calls Tryd.prog 5 #[.agg #[.int .u32 a, .int .i64 p, .slice A n c, .int .i64 sh, .int .i64 wo, .int .i64 qu, .int .i64 tr], .agg #[.int .i64 k, .int .u32 x, .slice B m d], .int .u32 o, .int .u8 cu] w fun e w' => e = .returned (.bool true) ∧ Below w.heap.size w w' := by
  obtain ⟨a, rfl, ha⟩ := wf_u32 wa
  obtain ⟨X, rfl, hX⟩ := wf_u32 wx
  obtain ⟨Y, rfl, hY⟩ := wf_u32 wo_
  obtain ⟨cu, rfl, hcu⟩ := wf_u8 wc
  obtain ⟨zs, h, _⟩ := IS.of_row wr
  obtain ⟨ys, hs, hw⟩ := row_u32 ws
  exact main hL ha h hs hX hw hY hcu
end
end Go.Proofs.YtfjnlackbmdncaaDoor.askOthers
