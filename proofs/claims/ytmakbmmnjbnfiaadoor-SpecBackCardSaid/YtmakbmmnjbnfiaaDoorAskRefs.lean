/-
  Requests looked at by the document's definition: the same error as the program's; nothing that was there is otherwise. Conditions: at most 60000 addresses.
-/
import Derived.Test.YtmakbmmnjbnfiaaDoorAskCheck
namespace Go.Proofs.YtmakbmmnjbnfiaaDoor
open Go.RowKit
section
variable {w : World} {lo lo2 a M m d X : Nat} {p sh wo qu tr k : Int} {A B : Option Addr} {n c : Nat} {zs ys : List Int}
set_option maxRecDepth 100000 in
set_option maxHeartbeats 2000000 in
theorem rcheck_any (hM : Much a p M) (h : IS .i64 lo w A n c zs) (hn : n ≤ 65536) (hs : IS .u32 lo2 w B m d ys) (hm : m ≤ 60000) (hX : X < 4294967296) (hw : W32 ys) :
    Calls Tryd.prog 25 #[.agg #[.int .u32 a, .int .i64 p, .slice A n c, .int .i64 sh, .int .i64 wo, .int .i64 qu, .int .i64 tr], .agg #[.int .i64 k, .int .u32 (X : Int), .slice B m d]] w fun e w' => e = .returned (.int .i64 (askE a M zs k X ys)) ∧ Below w.heap.size w w' := by
  have K := Below.refl w.heap.size w
  go_enter Tryd.func25, Tryd.ntmps25
  go_upto_region 1 with (fail)
  replace h := h.below (below_alloc _ (.cells #[.int .u32 a, .int .i64 p, .slice A n c, .int .i64 sh, .int .i64 wo, .int .i64 qu, .int .i64 tr] 27))
  replace hs := hs.below (below_alloc _ (.cells #[.int .u32 a, .int .i64 p, .slice A n c, .int .i64 sh, .int .i64 wo, .int .i64 qu, .int .i64 tr] 27))
  replace K := Below.then_ K (below_alloc _ (.cells #[.int .u32 a, .int .i64 p, .slice A n c, .int .i64 sh, .int .i64 wo, .int .i64 qu, .int .i64 tr] 27))
  have H := Bk.new (w) #[.int .u32 a, .int .i64 p, .slice A n c, .int .i64 sh, .int .i64 wo, .int .i64 qu, .int .i64 tr] 27
  replace H := H.alloc (.cells #[.int .i64 k, .int .u32 (X : Int), .slice B m d] 30)
  replace h := h.below (below_alloc _ (.cells #[.int .i64 k, .int .u32 (X : Int), .slice B m d] 30))
  replace hs := hs.below (below_alloc _ (.cells #[.int .i64 k, .int .u32 (X : Int), .slice B m d] 30))
  replace K := Below.then_ K (below_alloc _ (.cells #[.int .i64 k, .int .u32 (X : Int), .slice B m d] 30))
  have G := Bk.new ((w).alloc (.cells #[.int .u32 a, .int .i64 p, .slice A n c, .int .i64 sh, .int .i64 wo, .int .i64 qu, .int .i64 tr] 27)) #[.int .i64 k, .int .u32 (X : Int), .slice B m d] 30
  try simp only [World.size_alloc] at H G
  generalize ((w).alloc (.cells #[.int .u32 a, .int .i64 p, .slice A n c, .int .i64 sh, .int .i64 wo, .int .i64 qu, .int .i64 tr] 27)).alloc (.cells #[.int .i64 k, .int .u32 (X : Int), .slice B m d] 30) = w1 at H G h hs K ⊢
  generalize w.heap.size + 1 = gG at H G ⊢
  generalize w.heap.size = gH at H G ⊢
  have hN := W32.nm (k := k) hX hw
  replace hw := Lib.hid hw
  have hl := Lib.hid hs.len
  have mc := hs.cap
  have mm := hs.most
  unfold maxLen at mm
  have G_0 := G.at_ (v := .int .i64 k) 0 rfl
  have G_1 := G.at_ (v := .int .u32 (X : Int)) 1 rfl
  have G_2 := G.at_ (v := .slice B m d) 2 rfl
  have G_z := G.lt
  by_cases k1 : k < 1
  · go_wp2
    go_ret
    exact ⟨ret_int (by unfold askE; rw [if_neg (by omega)]), K⟩
  by_cases k7 : 7 < k
  · go_wp2
    go_ret
    exact ⟨ret_int (by unfold askE; rw [if_neg (by omega)]), K⟩
  by_cases b0 : k = 4 ∧ m = 0
  · obtain ⟨rfl, rfl⟩ := b0
    go_wp2
    go_ret
    exact ⟨ret_int (by unfold askE; rw [if_pos (by omega), if_pos ⟨rfl, hl.out⟩]), K⟩
  by_cases b1 : k = 4 ∧ 64 < m
  · obtain ⟨rfl, b1⟩ := b1
    have e0 : ((m : Int) == 0) = false := by simp; omega
    go_wp2
    go_ret
    exact ⟨ret_int (askE_much (by have := hl.out; omega)).symm, K⟩
  have hA : askE a M zs k X ys = chk a M zs [] (nmI k X ys) := by
    have := hl.out
    unfold askE; rw [if_pos (by omega), if_neg (by omega), if_neg (by omega)]
  replace hA := Lib.hid hA
  have T := Lib.hid (rnames_any (k := k) (x := X) hs hm)
  have key : ((k == 4) = true ∧ ((m : Int) == 0) = false ∧ decide ((64 : Int) < (m : Int)) = false) ∨ (k == 4) = false := by
    by_cases g : k = 4
    · exact .inl ⟨by simp [g], by simp; omega, by simp; omega⟩
    · exact .inr (by simp [g])
  have e1 : decide (k < 1) = false := by simp; omega
  have e7 : decide (7 < k) = false := by simp; omega
  have hlen := nmI_len (k := k) (x := (X : Int)) (ys := ys) (n := 60000) (by have := hl.out; omega) (by omega)
  generalize nmI k X ys = qs at T hlen hN hA
  replace hlen := Lib.hid hlen
  replace hN := Lib.hid hN
  clear b0 b1 k1 k7
  rcases key with ⟨e4, e0, e64⟩ | e4
  all_goals
    go_wp2_with fail
    refine T.out.mono ?_
    rintro e w2 ⟨NA, Nn, Nc, rfl, R, K'⟩
    clear T G_0 G_1 G_2 G_z
    clear hs
    clear G
    replace H := H.below K'
    replace h := h.below K'
    replace K := Below.then_ K K'
    clear K'
    replace R := R.is
    have hnl := R.len
    have hNn : Nn ≤ 60000 := by have := hlen.out; omega
    replace hnl := Lib.hid hnl
    go_wp2
    go_loopw [6] (fun i wr => ∃ k : Nat, k ≤ Nn ∧ i = .int .i64 k ∧ Below w2.heap.size w2 wr ∧ Hid (Left_ a M zs qs k)) (fun i _ => Nn - (intOf i).toNat)
    case atStart => exact ⟨0, Nat.zero_le _, rfl, Below.refl _ _, Lib.hid (Left_.start _ _ _ _)⟩
    case round =>
      obtain ⟨k, hk, rfl, Kr, L⟩ := hrel
      by_cases hlt : k < Nn
      · obtain ⟨y, hy, hyb⟩ := hN.out.at_ (k := k) (by have := hnl.out; omega)
        obtain ⟨b, o, rfl, hbl, hc⟩ := (R.below Kr).get hlt
        rw [hy] at hc
        replace H := H.below Kr
        replace h := h.below Kr
        have hkl : k < qs.length := by have := hnl.out; omega
        replace hkl := Lib.hid hkl
        have T := fun w5 (K5 : Below wr.heap.size wr w5) => Lib.hid (rfind_any (sh := sh) (wo := wo) (qu := qu) (tr := tr) (w := w5) y hyb hM (h.below K5) hn)
        have hfE : fiE a M (gi qs k).toNat zs = fiE a M y zs := by rw [hy]; rfl
        generalize fiE a M y zs = E at T hfE
        generalize fiO a M y zs = F at T
        replace hfE := Lib.hid hfE
        replace hy := Lib.hid hy
        go_wp2_with fail
        refine wp_region_held_drew (S := fun w' => Below wr.heap.size wr w') (by kernel_rfl) (Below.refl _ _).drew (fun hHeld => ?_)
        refine wpAnyH_take (i := 0) (oi := ⟨some 45, _, _, _, _, _⟩) (v := ?_) rfl (by kernel_rfl) (by kernel_rfl) (by kernel_rfl) (fun _ _ _ h => h) (Or.inl ⟨by rfl, ?_⟩) hHeld ?_
        rotate_left
        · intro ww hSw
          try dsimp only at hSw
          have H_0 := (H.below hSw).at_ (v := .int .u32 a) 0 rfl
          have H_1 := (H.below hSw).at_ (v := .int .i64 p) 1 rfl
          have H_2 := (H.below hSw).at_ (v := .slice A n c) 2 rfl
          have H_3 := (H.below hSw).at_ (v := .int .i64 sh) 3 rfl
          have H_4 := (H.below hSw).at_ (v := .int .i64 wo) 4 rfl
          have H_5 := (H.below hSw).at_ (v := .int .i64 qu) 5 rfl
          have H_6 := (H.below hSw).at_ (v := .int .i64 tr) 6 rfl
          have hc_ := (hSw.cell (p := ⟨b, o + k, none⟩) hbl).trans hc
          go_simp
          try with_reducible rfl
          try omega
        try simp only [Act.put, List.setIfInBounds_toArray, List.set_cons_zero, List.set_cons_succ]
        refine wpAnyH_take (i := 1) (oi := ⟨some 46, _, _, _, _, _⟩) (v := ?_) rfl (by kernel_rfl) (by kernel_rfl) (by kernel_rfl) (fun _ _ _ h => h) (Or.inl ⟨by rfl, ?_⟩) hHeld ?_
        rotate_left
        · intro ww hSw
          try dsimp only at hSw
          go_simp
          try with_reducible rfl
          try omega
        try simp only [Act.put, List.setIfInBounds_toArray, List.set_cons_zero, List.set_cons_succ]
        refine wpAnyH_take (i := 2) (oi := ⟨some 47, _, _, _, _, _⟩) (v := ?_) rfl (by kernel_rfl) (by kernel_rfl) (by kernel_rfl) (fun _ _ _ h => h) (Or.inl ⟨by rfl, ?_⟩) hHeld ?_
        rotate_left
        · intro ww hSw
          try dsimp only at hSw
          go_simp
          try with_reducible rfl
          try omega
        try simp only [Act.put, List.setIfInBounds_toArray, List.set_cons_zero, List.set_cons_succ]
        refine wpAnyH_take (i := 3) (oi := ⟨some 48, _, _, _, _, _⟩) (v := ?_) rfl (by kernel_rfl) (by kernel_rfl) (by kernel_rfl) (fun _ _ _ h => h) (Or.inl ⟨by rfl, ?_⟩) hHeld ?_
        rotate_left
        · intro ww hSw
          try dsimp only at hSw
          go_simp
          try with_reducible rfl
          try omega
        try simp only [Act.put, List.setIfInBounds_toArray, List.set_cons_zero, List.set_cons_succ]
        refine wpAnyH_take (i := 4) (oi := ⟨some 49, _, _, _, _, _⟩) (v := ?_) rfl (by kernel_rfl) (by kernel_rfl) (by kernel_rfl) (fun _ _ _ h => h) (Or.inl ⟨by rfl, ?_⟩) hHeld ?_
        rotate_left
        · intro ww hSw
          try dsimp only at hSw
          have H_0 := (H.below hSw).at_ (v := .int .u32 a) 0 rfl
          have H_1 := (H.below hSw).at_ (v := .int .i64 p) 1 rfl
          have H_2 := (H.below hSw).at_ (v := .slice A n c) 2 rfl
          have H_3 := (H.below hSw).at_ (v := .int .i64 sh) 3 rfl
          have H_4 := (H.below hSw).at_ (v := .int .i64 wo) 4 rfl
          have H_5 := (H.below hSw).at_ (v := .int .i64 qu) 5 rfl
          have H_6 := (H.below hSw).at_ (v := .int .i64 tr) 6 rfl
          have hc_ := (hSw.cell (p := ⟨b, o + k, none⟩) hbl).trans hc
          go_simp
          try with_reducible rfl
          try omega
        try simp only [Act.put, List.setIfInBounds_toArray, List.set_cons_zero, List.set_cons_succ]
        refine wpAnyH_ready (rs := [5]) (by kernel_rfl) (by simp) ?_
        refine AllReadyH.cons (o := ⟨some 50, _, _, _, _, _⟩) rfl (fun K0 hK => ?_) AllReadyH.nil
        go_simp
        refine ((T _ hHeld).out).mono ?_
        rintro e ww ⟨rfl, K'⟩
        refine hK.out _ _ (Below.then_ hHeld K') (fun hHeld' => ?_)
        clear hHeld K' hK K0
        have hHeld := hHeld'
        clear hHeld'
        try simp only [Act.put, List.setIfInBounds_toArray, List.set_cons_zero, List.set_cons_succ]
        refine wpAnyH_take (i := 6) (oi := ⟨some 44, _, _, _, _, _⟩) (v := ?_) rfl (by kernel_rfl) (by kernel_rfl) (by kernel_rfl) (fun _ _ _ h => h) (Or.inl ⟨by rfl, ?_⟩) hHeld ?_
        rotate_left
        · intro ww hSw
          try dsimp only at hSw
          go_simp
          try with_reducible rfl
          try omega
        try simp only [Act.put, List.setIfInBounds_toArray, List.set_cons_zero, List.set_cons_succ]
        refine wpAnyH_take (i := 7) (oi := ⟨some 51, _, _, _, _, _⟩) (v := ?_) rfl (by kernel_rfl) (by kernel_rfl) (by kernel_rfl) (fun _ _ _ h => h) (Or.inl ⟨by rfl, ?_⟩) hHeld ?_
        rotate_left
        · intro ww hSw
          try dsimp only at hSw
          go_simp
          try with_reducible rfl
          try omega
        try simp only [Act.put, List.setIfInBounds_toArray, List.set_cons_zero, List.set_cons_succ]
        refine wpAnyH_take (i := 8) (oi := ⟨some 52, _, _, _, _, _⟩) (v := ?_) rfl (by kernel_rfl) (by kernel_rfl) (by kernel_rfl) (fun _ _ _ h => h) (Or.inl ⟨by rfl, ?_⟩) hHeld ?_
        rotate_left
        · intro ww hSw
          try dsimp only at hSw
          go_simp
          try with_reducible rfl
          try omega
        try simp only [Act.put, List.setIfInBounds_toArray, List.set_cons_zero, List.set_cons_succ]
        refine wpAnyH_take (i := 9) (oi := ⟨some 7, _, _, _, _, _⟩) (v := ?_) rfl (by kernel_rfl) (by kernel_rfl) (by kernel_rfl) (fun _ _ _ h => h) (Or.inl ⟨by rfl, ?_⟩) hHeld ?_
        rotate_left
        · intro ww hSw
          try dsimp only at hSw
          go_simp
          try with_reducible rfl
          try omega
        try simp only [Act.put, List.setIfInBounds_toArray, List.set_cons_zero, List.set_cons_succ]
        refine wpAnyH_take (i := 10) (oi := ⟨some 8, _, _, _, _, _⟩) (v := ?_) rfl (by kernel_rfl) (by kernel_rfl) (by kernel_rfl) (fun _ _ _ h => h) (Or.inl ⟨by rfl, ?_⟩) hHeld ?_
        rotate_left
        · intro ww hSw
          try dsimp only at hSw
          go_simp
          try with_reducible rfl
          try omega
        try simp only [Act.put, List.setIfInBounds_toArray, List.set_cons_zero, List.set_cons_succ]
        refine wpAnyH_done (by kernel_rfl) ?_ _
        have K9 := hHeld
        clear hHeld T
        have Kq := Kr.trans (K9.mono Kr.size)
        by_cases hE : E = 0
        · subst hE
          go_wp2
          clear hc H
          go_loopw [9] (fun v wr2 => ∃ j : Nat, j ≤ k ∧ v = .int .i64 j ∧ Below w2.heap.size w2 wr2 ∧ Hid (∀ i, i < j → gi qs i ≠ gi qs k)) (fun v _ => k - (intOf v).toNat)
          case atStart => exact ⟨0, Nat.zero_le _, rfl, Kq, Lib.hid (fun i hi => absurd hi (by omega))⟩
          case round =>
            obtain ⟨j, hj, rfl, Kj, N⟩ := hrel
            by_cases hjk : j < k
            · have c1 := (R.below Kj).here (j := j) (by omega)
              have c2 := (R.below Kj).here hlt
              by_cases hx : gi qs j = gi qs k
              · have e1 : (gi qs j == gi qs k) = true := by simp [hx]
                have hx := Lib.hid hx
                go_wp2
                go_quiet (fail)
                go_wp2
                go_ret
                exact ⟨ret_int (hA.out.trans (L.out.twice hkl.out hfE.out hjk hx.out)).symm, Below.then_ K (below_drewN Kj _)⟩
              · have e1 : (gi qs j == gi qs k) = false := by simp [hx]
                have hx := Lib.hid hx
                go_wp2
                go_quiet (fail)
                go_wp2
                go_roundw
                case rel =>
                  refine ⟨j + 1, by omega, by go_num, below_drewN Kj _, Lib.hid (fun i hi => ?_)⟩
                  rcases Nat.lt_or_ge i j with g | g
                  · exact N.out i g
                  · obtain rfl : i = j := by omega
                    exact hx.out
                case measure => simp [intOf]; omega
            · go_wp2
              go_roundw
              case rel => exact ⟨k + 1, by omega, by go_num, Kj, Lib.hid (L.out.step hkl.out hfE.out (fun i hi => N.out i (by omega)))⟩
              case measure => simp [intOf]; omega
        · have e9 : (E != 0) = true := by simp [hE]
          replace hE := Lib.hid hE
          go_wp2
          go_ret
          exact ⟨ret_int (hA.out.trans (L.out.bad hkl.out hfE.out hE.out)).symm, Below.then_ K Kq⟩
      · go_wp2
        go_ret
        exact ⟨ret_int (hA.out.trans (L.out.end_ (by have := hnl.out; omega))).symm, Below.then_ K Kr⟩
end
end Go.Proofs.YtmakbmmnjbnfiaaDoor

