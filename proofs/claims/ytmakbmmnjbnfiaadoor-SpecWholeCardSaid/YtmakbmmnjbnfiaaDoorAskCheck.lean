/-
  Requests looked at, by the program and by the document's definition: the same error; nothing that was there is otherwise. Conditions: at most 60000 addresses.
-/
import Derived.Test.YtmakbmmnjbnfiaaDoorAskEach
namespace Go.Proofs.YtmakbmmnjbnfiaaDoor
open Go.RowKit
theorem W32.nm {k : Int} {X : Nat} {ys : List Int} (hX : X < 4294967296) (hw : W32 ys) : W32 (nmI k X ys) := by
  unfold nmI; split
  · intro y hy; simp only [List.mem_singleton] at hy; omega
  · split
    · exact hw
    · intro y hy; simp at hy
theorem Ri.is_ {w : World} {base n c : Nat} {A : Option Addr} {xs : List Int} (h : Ri .u32 22 w base (.slice A n c) n xs) : IS .u32 base w A n c xs := h.is
theorem szE_none : szE 0 = 7 := rfl
theorem szE_much {n : Nat} (h : 64 < n) : szE (n : Int) = 1 := by unfold szE; rw [if_neg (by omega), if_pos (by omega)]
theorem szE_ok {n : Nat} (h0 : n ≠ 0) (h : n ≤ 64) : szE (n : Int) = 0 := by unfold szE; rw [if_neg (by omega), if_neg (by omega)]
theorem sized_is {n : Nat} {v : Int} (h : szE (n : Int) = v) (w : World) : Calls Tryd.prog 46 #[.int .i64 (n : Int)] w fun e w' => e = .returned (.int .i64 v) ∧ w' = w := by
  subst h; exact sized_any _ w
section
variable {w : World} {lo lo2 a M m d X : Nat} {p sh wo qu tr k : Int} {A B : Option Addr} {n c : Nat} {zs ys : List Int}
set_option maxRecDepth 100000 in
set_option maxHeartbeats 2000000 in
theorem check_any (hL : Laid w) (ha : a < 4294967296) (hM : Much a p M) (h : IS .i64 lo w A n c zs) (hn : n ≤ 65536) (hs : IS .u32 lo2 w B m d ys) (hm : m ≤ 60000) (hX : X < 4294967296) (hw : W32 ys) :
    Calls Tryd.prog 37 #[.agg #[.int .u32 a, .int .i64 p, .slice A n c, .int .i64 sh, .int .i64 wo, .int .i64 qu, .int .i64 tr], .agg #[.int .i64 k, .int .u32 (X : Int), .slice B m d]] w fun e w' => e = .returned (.int .i64 (askE a M zs k X ys)) ∧ Below w.heap.size w w' := by
  have K := Below.refl w.heap.size w
  go_enter Tryd.func37, Tryd.ntmps37
  go_upto_region 1 with (fail)
  replace hL := hL.below (below_alloc _ (.cells #[.int .u32 a, .int .i64 p, .slice A n c, .int .i64 sh, .int .i64 wo, .int .i64 qu, .int .i64 tr] 27))
  replace h := h.below (below_alloc _ (.cells #[.int .u32 a, .int .i64 p, .slice A n c, .int .i64 sh, .int .i64 wo, .int .i64 qu, .int .i64 tr] 27))
  replace hs := hs.below (below_alloc _ (.cells #[.int .u32 a, .int .i64 p, .slice A n c, .int .i64 sh, .int .i64 wo, .int .i64 qu, .int .i64 tr] 27))
  replace K := Below.then_ K (below_alloc _ (.cells #[.int .u32 a, .int .i64 p, .slice A n c, .int .i64 sh, .int .i64 wo, .int .i64 qu, .int .i64 tr] 27))
  have H := Bk.new (w) #[.int .u32 a, .int .i64 p, .slice A n c, .int .i64 sh, .int .i64 wo, .int .i64 qu, .int .i64 tr] 27
  replace H := H.alloc (.cells #[.int .i64 k, .int .u32 (X : Int), .slice B m d] 30)
  replace hL := hL.below (below_alloc _ (.cells #[.int .i64 k, .int .u32 (X : Int), .slice B m d] 30))
  replace h := h.below (below_alloc _ (.cells #[.int .i64 k, .int .u32 (X : Int), .slice B m d] 30))
  replace hs := hs.below (below_alloc _ (.cells #[.int .i64 k, .int .u32 (X : Int), .slice B m d] 30))
  replace K := Below.then_ K (below_alloc _ (.cells #[.int .i64 k, .int .u32 (X : Int), .slice B m d] 30))
  have G := Bk.new ((w).alloc (.cells #[.int .u32 a, .int .i64 p, .slice A n c, .int .i64 sh, .int .i64 wo, .int .i64 qu, .int .i64 tr] 27)) #[.int .i64 k, .int .u32 (X : Int), .slice B m d] 30
  try simp only [World.size_alloc] at H G
  generalize ((w).alloc (.cells #[.int .u32 a, .int .i64 p, .slice A n c, .int .i64 sh, .int .i64 wo, .int .i64 qu, .int .i64 tr] 27)).alloc (.cells #[.int .i64 k, .int .u32 (X : Int), .slice B m d] 30) = w1 at H G hL h hs K ⊢
  generalize w.heap.size + 1 = gG at H G ⊢
  generalize w.heap.size = gH at H G ⊢
  have hN := W32.nm (k := k) hX hw
  replace hw := Lib.hid hw
  have G_0 := G.at_ (v := .int .i64 k) 0 rfl
  have G_1 := G.at_ (v := .int .u32 (X : Int)) 1 rfl
  have G_2 := G.at_ (v := .slice B m d) 2 rfl
  have G_z := G.lt
  by_cases hk : 1 ≤ k ∧ k ≤ 7
  · have T := known_yes hk w1
    by_cases h4 : k = 4
    · subst h4
      have hl := Lib.hid hs.len
      have mc := hs.cap
      have mm := hs.most
      unfold maxLen at mm
      by_cases m0 : m = 0
      · subst m0
        go_wp2_with fail
        refine T.mono ?_
        rintro e ww ⟨rfl, rfl⟩
        go_wp2_with fail
        refine (sized_is (n := 0) szE_none _).mono ?_
        rintro e ww ⟨rfl, rfl⟩
        go_wp2
        go_ret
        exact ⟨ret_int (by unfold askE; rw [if_pos hk, if_pos ⟨rfl, hl.out⟩]), K⟩
      · by_cases m1 : 64 < m
        · have S := szE_much m1
          go_wp2_with fail
          refine T.mono ?_
          rintro e ww ⟨rfl, rfl⟩
          go_wp2_with fail
          refine (sized_is S _).mono ?_
          rintro e ww ⟨rfl, rfl⟩
          go_wp2
          go_ret
          exact ⟨ret_int (askE_much (by have := hl.out; omega)).symm, K⟩
        · have S := szE_ok m0 (by omega)
          go_wp2_with fail
          refine T.mono ?_
          rintro e ww ⟨rfl, rfl⟩
          go_wp2_with fail
          refine (sized_is S _).mono ?_
          rintro e ww ⟨rfl, rfl⟩
          clear T S
          clear G_0 G_1 G_2 G_z
          go_wp2_with fail
          refine wp_region_held_drew (S := fun w' => Below ww.heap.size ww w') (by kernel_rfl) (Below.refl _ _).drew (fun hHeld => ?_)
          refine wpAnyH_take (i := 0) (oi := ⟨some 20, _, _, _, _, _⟩) (v := ?_) rfl (by kernel_rfl) (by kernel_rfl) (by kernel_rfl) (fun _ _ _ h => h) (Or.inl ⟨by rfl, ?_⟩) hHeld ?_
          rotate_left
          · intro ww hSw
            try dsimp only at hSw
            have H_0 := (H.below hSw).at_ (v := .int .u32 a) 0 rfl
            have H_1 := (H.below hSw).at_ (v := .int .i64 p) 1 rfl
            have H_2 := (H.below hSw).at_ (v := .slice A n c) 2 rfl
            have H_3 := (H.below hSw).at_ (v := .int .i64 sh) 3 rfl
            have H_4 := (H.below hSw).at_ (v := .int .i64 wo) 4 rfl
            have H_5 := (H.below hSw).at_ (v := .int .i64 qu) 5 rfl
            have H_6 := (H.below hSw).at_ (v := .int .i64 tr) 6 rfl
            have G_0 := (G.below hSw).at_ (v := .int .i64 4) 0 rfl
            have G_1 := (G.below hSw).at_ (v := .int .u32 (X : Int)) 1 rfl
            have G_2 := (G.below hSw).at_ (v := .slice B m d) 2 rfl
            go_simp
            try with_reducible rfl
            try omega
          try simp only [Act.put, List.setIfInBounds_toArray, List.set_cons_zero, List.set_cons_succ]
          refine wpAnyH_take (i := 1) (oi := ⟨some 21, _, _, _, _, _⟩) (v := ?_) rfl (by kernel_rfl) (by kernel_rfl) (by kernel_rfl) (fun _ _ _ h => h) (Or.inl ⟨by rfl, ?_⟩) hHeld ?_
          rotate_left
          · intro ww hSw
            try dsimp only at hSw
            have H_0 := (H.below hSw).at_ (v := .int .u32 a) 0 rfl
            have H_1 := (H.below hSw).at_ (v := .int .i64 p) 1 rfl
            have H_2 := (H.below hSw).at_ (v := .slice A n c) 2 rfl
            have H_3 := (H.below hSw).at_ (v := .int .i64 sh) 3 rfl
            have H_4 := (H.below hSw).at_ (v := .int .i64 wo) 4 rfl
            have H_5 := (H.below hSw).at_ (v := .int .i64 qu) 5 rfl
            have H_6 := (H.below hSw).at_ (v := .int .i64 tr) 6 rfl
            have G_0 := (G.below hSw).at_ (v := .int .i64 4) 0 rfl
            have G_1 := (G.below hSw).at_ (v := .int .u32 (X : Int)) 1 rfl
            have G_2 := (G.below hSw).at_ (v := .slice B m d) 2 rfl
            go_simp
            try with_reducible rfl
            try omega
          try simp only [Act.put, List.setIfInBounds_toArray, List.set_cons_zero, List.set_cons_succ]
          refine wpAnyH_ready (rs := [2]) (by kernel_rfl) (by simp) ?_
          refine AllReadyH.cons (o := ⟨some 22, _, _, _, _, _⟩) rfl (fun K0 hK => ?_) AllReadyH.nil
          go_simp
          refine (names_any (k := 4) (x := X) (hL.below hHeld) (hs.below hHeld) hm).mono ?_
          rintro e ww ⟨NA, Nn, Nc, rfl, R, K'⟩
          have Nb : Nn ≤ 60000 := by have := R.len; have := nmI_len (k := 4) (x := (X : Int)) (ys := ys) (n := 60000) (by have := hs.len; omega) (by omega); omega
          have Ka := Below.then_ hHeld K'
          refine hK.out _ _ (Below.then_ hHeld K') (fun hHeld' => ?_)
          clear hHeld K' hK K0
          have hHeld := hHeld'
          clear hHeld'
          try simp only [Act.put, List.setIfInBounds_toArray, List.set_cons_zero, List.set_cons_succ]
          refine wpAnyH_ready (rs := [3]) (by kernel_rfl) (by simp) ?_
          refine AllReadyH.cons (o := ⟨some 23, _, _, _, _, _⟩) rfl (fun K0 hK => ?_) AllReadyH.nil
          go_simp
          refine (each_any ha hM (h.below Ka) hn R.is Nb hN).mono ?_
          rintro e ww ⟨rfl, K'⟩
          refine hK.out _ _ (Below.then_ hHeld K') (fun hHeld' => ?_)
          clear hHeld K' hK K0
          have hHeld := hHeld'
          clear hHeld'
          try simp only [Act.put, List.setIfInBounds_toArray, List.set_cons_zero, List.set_cons_succ]
          refine wpAnyH_take (i := 4) (oi := ⟨some 4, _, _, _, _, _⟩) (v := ?_) rfl (by kernel_rfl) (by kernel_rfl) (by kernel_rfl) (fun _ _ _ h => h) (Or.inl ⟨by rfl, ?_⟩) hHeld ?_
          rotate_left
          · intro ww hSw
            try dsimp only at hSw
            go_simp
            try with_reducible rfl
            try omega
          try simp only [Act.put, List.setIfInBounds_toArray, List.set_cons_zero, List.set_cons_succ]
          refine wpAnyH_done (by kernel_rfl) ?_ _
          replace H := H.below hHeld
          replace G := G.below hHeld
          replace hL := hL.below hHeld
          replace h := h.below hHeld
          replace hs := hs.below hHeld
          replace K := Below.then_ K hHeld
          clear hHeld
          go_wp2
          go_ret
          exact ⟨ret_int (by rw [askE_batch (by have := hl.out; omega) (by have := hl.out; omega), nmI_all]), K⟩
    · have e4 : (k == 4) = false := by simp [h4]
      go_wp2_with fail
      refine T.mono ?_
      rintro e ww ⟨rfl, rfl⟩
      clear T
      go_wp2_with fail
      clear G_0 G_1 G_2 G_z
      refine wp_region_held_drew (S := fun w' => Below ww.heap.size ww w') (by kernel_rfl) (Below.refl _ _).drew (fun hHeld => ?_)
      refine wpAnyH_take (i := 0) (oi := ⟨some 20, _, _, _, _, _⟩) (v := ?_) rfl (by kernel_rfl) (by kernel_rfl) (by kernel_rfl) (fun _ _ _ h => h) (Or.inl ⟨by rfl, ?_⟩) hHeld ?_
      rotate_left
      · intro ww hSw
        try dsimp only at hSw
        have H_0 := (H.below hSw).at_ (v := .int .u32 a) 0 rfl
        have H_1 := (H.below hSw).at_ (v := .int .i64 p) 1 rfl
        have H_2 := (H.below hSw).at_ (v := .slice A n c) 2 rfl
        have H_3 := (H.below hSw).at_ (v := .int .i64 sh) 3 rfl
        have H_4 := (H.below hSw).at_ (v := .int .i64 wo) 4 rfl
        have H_5 := (H.below hSw).at_ (v := .int .i64 qu) 5 rfl
        have H_6 := (H.below hSw).at_ (v := .int .i64 tr) 6 rfl
        have G_0 := (G.below hSw).at_ (v := .int .i64 k) 0 rfl
        have G_1 := (G.below hSw).at_ (v := .int .u32 (X : Int)) 1 rfl
        have G_2 := (G.below hSw).at_ (v := .slice B m d) 2 rfl
        go_simp
        try with_reducible rfl
        try omega
      try simp only [Act.put, List.setIfInBounds_toArray, List.set_cons_zero, List.set_cons_succ]
      refine wpAnyH_take (i := 1) (oi := ⟨some 21, _, _, _, _, _⟩) (v := ?_) rfl (by kernel_rfl) (by kernel_rfl) (by kernel_rfl) (fun _ _ _ h => h) (Or.inl ⟨by rfl, ?_⟩) hHeld ?_
      rotate_left
      · intro ww hSw
        try dsimp only at hSw
        have H_0 := (H.below hSw).at_ (v := .int .u32 a) 0 rfl
        have H_1 := (H.below hSw).at_ (v := .int .i64 p) 1 rfl
        have H_2 := (H.below hSw).at_ (v := .slice A n c) 2 rfl
        have H_3 := (H.below hSw).at_ (v := .int .i64 sh) 3 rfl
        have H_4 := (H.below hSw).at_ (v := .int .i64 wo) 4 rfl
        have H_5 := (H.below hSw).at_ (v := .int .i64 qu) 5 rfl
        have H_6 := (H.below hSw).at_ (v := .int .i64 tr) 6 rfl
        have G_0 := (G.below hSw).at_ (v := .int .i64 k) 0 rfl
        have G_1 := (G.below hSw).at_ (v := .int .u32 (X : Int)) 1 rfl
        have G_2 := (G.below hSw).at_ (v := .slice B m d) 2 rfl
        go_simp
        try with_reducible rfl
        try omega
      try simp only [Act.put, List.setIfInBounds_toArray, List.set_cons_zero, List.set_cons_succ]
      refine wpAnyH_ready (rs := [2]) (by kernel_rfl) (by simp) ?_
      refine AllReadyH.cons (o := ⟨some 22, _, _, _, _, _⟩) rfl (fun K0 hK => ?_) AllReadyH.nil
      go_simp
      refine (names_any (k := k) (x := X) (hL.below hHeld) (hs.below hHeld) hm).mono ?_
      rintro e ww ⟨NA, Nn, Nc, rfl, R, K'⟩
      have Nb : Nn ≤ 60000 := by have := R.len; have := nmI_len (k := k) (x := (X : Int)) (ys := ys) (n := 60000) (by have := hs.len; omega) (by omega); omega
      have Ka := Below.then_ hHeld K'
      refine hK.out _ _ (Below.then_ hHeld K') (fun hHeld' => ?_)
      clear hHeld K' hK K0
      have hHeld := hHeld'
      clear hHeld'
      try simp only [Act.put, List.setIfInBounds_toArray, List.set_cons_zero, List.set_cons_succ]
      refine wpAnyH_ready (rs := [3]) (by kernel_rfl) (by simp) ?_
      refine AllReadyH.cons (o := ⟨some 23, _, _, _, _, _⟩) rfl (fun K0 hK => ?_) AllReadyH.nil
      go_simp
      refine (each_any ha hM (h.below Ka) hn R.is Nb hN).mono ?_
      rintro e ww ⟨rfl, K'⟩
      refine hK.out _ _ (Below.then_ hHeld K') (fun hHeld' => ?_)
      clear hHeld K' hK K0
      have hHeld := hHeld'
      clear hHeld'
      try simp only [Act.put, List.setIfInBounds_toArray, List.set_cons_zero, List.set_cons_succ]
      refine wpAnyH_take (i := 4) (oi := ⟨some 4, _, _, _, _, _⟩) (v := ?_) rfl (by kernel_rfl) (by kernel_rfl) (by kernel_rfl) (fun _ _ _ h => h) (Or.inl ⟨by rfl, ?_⟩) hHeld ?_
      rotate_left
      · intro ww hSw
        try dsimp only at hSw
        go_simp
        try with_reducible rfl
        try omega
      try simp only [Act.put, List.setIfInBounds_toArray, List.set_cons_zero, List.set_cons_succ]
      refine wpAnyH_done (by kernel_rfl) ?_ _
      replace H := H.below hHeld
      replace G := G.below hHeld
      replace hL := hL.below hHeld
      replace h := h.below hHeld
      replace hs := hs.below hHeld
      replace K := Below.then_ K hHeld
      clear hHeld
      go_wp2
      go_ret
      exact ⟨ret_int (by unfold askE; rw [if_pos hk, if_neg (fun g => h4 g.1), if_neg (fun g => h4 g.1)]), K⟩
  · have T := known_no hk w1
    go_wp2_with fail
    refine T.mono ?_
    rintro e ww ⟨rfl, rfl⟩
    go_wp2
    go_ret
    exact ⟨ret_int (by unfold askE; rw [if_neg hk]), K⟩
end
end Go.Proofs.YtmakbmmnjbnfiaaDoor

