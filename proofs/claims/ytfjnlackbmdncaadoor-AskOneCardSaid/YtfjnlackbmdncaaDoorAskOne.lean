/-
  The walk of the law AskOne: for every configuration and address it answers true.
-/
import Derived.Test.YtfjnlackbmdncaaDoorAskAwake
namespace Go.Proofs.YtfjnlackbmdncaaDoor.askOne
open Go.RowKit
set_option linter.unusedVariables false
section
variable {w : World} {lo lo2 lo3 a m d m2 d2 X X2 : Nat} {p sh wo qu tr k k2 : Int} {A B B2 : Option Addr} {n c : Nat} {zs ys ys2 : List Int}
set_option maxRecDepth 100000 in
set_option maxHeartbeats 4000000 in
theorem main (hL : Laid w) (ha : a < 4294967296) (h : IS .i64 lo w A n c zs) (hX : X < 4294967296) :
    Calls Tryd.prog 7 #[.agg #[.int .u32 (a : Int), .int .i64 p, .slice A n c, .int .i64 sh, .int .i64 wo, .int .i64 qu, .int .i64 tr], .int .u32 (X : Int)] w (RetBo true w) := by
  have K := Below.refl w.heap.size w
  go_enter Tryd.func7, Tryd.ntmps7
  go_upto_region 1 with (fail)
  replace hL := hL.below (below_alloc _ (.cells #[.int .u32 (a : Int), .int .i64 p, .slice A n c, .int .i64 sh, .int .i64 wo, .int .i64 qu, .int .i64 tr] 27))
  replace h := h.below (below_alloc _ (.cells #[.int .u32 (a : Int), .int .i64 p, .slice A n c, .int .i64 sh, .int .i64 wo, .int .i64 qu, .int .i64 tr] 27))
  replace K := Below.then_ K (below_alloc _ (.cells #[.int .u32 (a : Int), .int .i64 p, .slice A n c, .int .i64 sh, .int .i64 wo, .int .i64 qu, .int .i64 tr] 27))
  have H := Bk.new (w) #[.int .u32 (a : Int), .int .i64 p, .slice A n c, .int .i64 sh, .int .i64 wo, .int .i64 qu, .int .i64 tr] 27
  try simp only [World.size_alloc] at H
  generalize (w).alloc (.cells #[.int .u32 (a : Int), .int .i64 p, .slice A n c, .int .i64 sh, .int .i64 wo, .int .i64 qu, .int .i64 tr] 27) = w1 at H hL h K ⊢
  generalize w.heap.size = gH at H ⊢
  go_wp2_with fail
  refine (awake_any _ hL).mono ?_
  rintro e w2 ⟨rfl, K'⟩
  replace H := H.below K'
  replace hL := hL.below K'
  replace h := h.below K'
  replace K := Below.then_ K K'
  clear K'
  have H_0 := H.at_ (v := .int .u32 (a : Int)) 0 rfl
  have H_1 := H.at_ (v := .int .i64 p) 1 rfl
  have H_2 := H.at_ (v := .slice A n c) 2 rfl
  have H_3 := H.at_ (v := .int .i64 sh) 3 rfl
  have H_4 := H.at_ (v := .int .i64 wo) 4 rfl
  have H_5 := H.at_ (v := .int .i64 qu) 5 rfl
  have H_6 := H.at_ (v := .int .i64 tr) 6 rfl
  have H_z := H.lt
  go_wp2_with fail
  refine (rmay5_any ha h).mono ?_
  rintro e w3 ⟨bo, rfl, hB, K'⟩
  clear H_0 H_1 H_2 H_3 H_4 H_5 H_6 H_z
  replace H := H.below K'
  replace hL := hL.below K'
  replace h := h.below K'
  replace K := Below.then_ K K'
  clear K'
  rcases bo with _ | _
  · clear hB
    go_wp2_with fail
    refine (awake_any _ hL).mono ?_
    rintro e w4 ⟨rfl, K'⟩
    replace H := H.below K'
    replace hL := hL.below K'
    replace h := h.below K'
    replace K := Below.then_ K K'
    clear K'
    go_wp2
    go_ret
    exact ⟨rfl, K⟩
  obtain ⟨M, hC⟩ := hB rfl
  clear hB
  have hM := hC.much
  have hn : n ≤ 65536 := by have := hC.few; omega
  have hMm := hM.most
  obtain ⟨E, hE⟩ : ∃ E, fiE a M X zs = E := ⟨_, rfl⟩
  have T := rfind_any (sh := sh) (wo := wo) (qu := qu) (tr := tr) X hX hM h hn
  rw [hE] at T
  replace hE := Lib.hid hE
  replace T := Lib.hid T
  have H_0 := H.at_ (v := .int .u32 (a : Int)) 0 rfl
  have H_1 := H.at_ (v := .int .i64 p) 1 rfl
  have H_2 := H.at_ (v := .slice A n c) 2 rfl
  have H_3 := H.at_ (v := .int .i64 sh) 3 rfl
  have H_4 := H.at_ (v := .int .i64 wo) 4 rfl
  have H_5 := H.at_ (v := .int .i64 qu) 5 rfl
  have H_6 := H.at_ (v := .int .i64 tr) 6 rfl
  have H_z := H.lt
  go_wp2_with fail
  refine (T.out).mono ?_
  rintro e w4 ⟨rfl, K'⟩
  clear H_0 H_1 H_2 H_3 H_4 H_5 H_6 H_z
  replace H := H.below K'
  replace hL := hL.below K'
  replace h := h.below K'
  replace K := Below.then_ K K'
  clear K'
  clear T
  go_wp2
  go_loopw [7] (fun i wr => ∃ j : Nat, j ≤ 3 ∧ i = .int .i64 j ∧ Below w4.heap.size w4 wr) (fun i _ => 3 - (intOf i).toNat)
  case atStart => exact ⟨0, by omega, rfl, Below.refl _ _⟩
  case round =>
    obtain ⟨j, hj, rfl, Kr⟩ := hrel
    replace H := H.below Kr
    replace hL := hL.below Kr
    replace h := h.below Kr
    replace K := Below.then_ K Kr
    by_cases hj3 : j < 3
    · obtain rfl | rfl | rfl : j = 0 ∨ j = 1 ∨ j = 2 := by omega
      · have ee : (E != E) = false := by simp
        go_upto_region 9 with (first | (refine wpList_store_row rfl 30 (.tmp 9) (.tmp 37) rfl _ _ rfl (show _ = Value.agg #[.int .i64 2, .int .u32 (X : Int), .slice none 0 0] from rfl) _ _ (Bk.new _ _ _) ak_sz rfl (by simp [Value.oneCell']) ?_))
        replace H := H.alloc (.cells #[.int .i64 2, .int .i64 3, .int .i64 5] 3)
        replace hL := hL.below (below_alloc _ (.cells #[.int .i64 2, .int .i64 3, .int .i64 5] 3))
        replace h := h.below (below_alloc _ (.cells #[.int .i64 2, .int .i64 3, .int .i64 5] 3))
        replace Kr := Below.then_ Kr (below_alloc _ (.cells #[.int .i64 2, .int .i64 3, .int .i64 5] 3))
        replace K := Below.then_ K (below_alloc _ (.cells #[.int .i64 2, .int .i64 3, .int .i64 5] 3))
        replace H := H.alloc (.cells #[.int .i64 2, .int .u32 (X : Int), .slice none 0 0] 30)
        replace hL := hL.below (below_alloc _ (.cells #[.int .i64 2, .int .u32 (X : Int), .slice none 0 0] 30))
        replace h := h.below (below_alloc _ (.cells #[.int .i64 2, .int .u32 (X : Int), .slice none 0 0] 30))
        replace Kr := Below.then_ Kr (below_alloc _ (.cells #[.int .i64 2, .int .u32 (X : Int), .slice none 0 0] 30))
        replace K := Below.then_ K (below_alloc _ (.cells #[.int .i64 2, .int .u32 (X : Int), .slice none 0 0] 30))
        have G := Bk.new ((wr).alloc (.cells #[.int .i64 2, .int .i64 3, .int .i64 5] 3)) #[.int .i64 2, .int .u32 (X : Int), .slice none 0 0] 30
        try simp only [World.size_alloc] at G
        generalize ((wr).alloc (.cells #[.int .i64 2, .int .i64 3, .int .i64 5] 3)).alloc (.cells #[.int .i64 2, .int .u32 (X : Int), .slice none 0 0] 30) = w5 at H G hL h Kr K ⊢
        generalize wr.heap.size + 1 = gG at G ⊢
        have H_0 := H.at_ (v := .int .u32 (a : Int)) 0 rfl
        have H_1 := H.at_ (v := .int .i64 p) 1 rfl
        have H_2 := H.at_ (v := .slice A n c) 2 rfl
        have H_3 := H.at_ (v := .int .i64 sh) 3 rfl
        have H_4 := H.at_ (v := .int .i64 wo) 4 rfl
        have H_5 := H.at_ (v := .int .i64 qu) 5 rfl
        have H_6 := H.at_ (v := .int .i64 tr) 6 rfl
        have H_z := H.lt
        have G_0 := G.at_ (v := .int .i64 2) 0 rfl
        have G_1 := G.at_ (v := .int .u32 (X : Int)) 1 rfl
        have G_2 := G.at_ (v := .slice none 0 0) 2 rfl
        have G_z := G.lt
        go_wp2_with fail
        refine (check_is (k := 2) (X := X) (v := E) hL ha hM h hn (IS.none_ .u32 0 _) (by omega) hX (w32_dec (by rfl)) ((askE_one (by omega)).trans (by exact hE.out))).mono ?_
        rintro e w6 ⟨rfl, K'⟩
        clear H_0 H_1 H_2 H_3 H_4 H_5 H_6 H_z
        clear G_0 G_1 G_2 G_z
        replace H := H.below K'
        replace G := G.below K'
        replace hL := hL.below K'
        replace h := h.below K'
        replace Kr := Below.then_ Kr K'
        replace K := Below.then_ K K'
        clear K'
        have G_0 := G.at_ (v := .int .i64 2) 0 rfl
        have G_1 := G.at_ (v := .int .u32 (X : Int)) 1 rfl
        have G_2 := G.at_ (v := .slice none 0 0) 2 rfl
        have G_z := G.lt
        go_wp2_with fail
        refine (names_any (k := 2) (x := X) hL (IS.none_ .u32 0 _) (by omega)).mono ?_
        rintro e w7 ⟨RA, Rn, Rc, rfl, R, K'⟩
        clear G_0 G_1 G_2 G_z
        replace H := H.below K'
        replace G := G.below K'
        replace hL := hL.below K'
        replace h := h.below K'
        replace Kr := Below.then_ Kr K'
        replace K := Below.then_ K K'
        clear K'
        rw [nmI_one (by omega)] at R
        replace R := R.is
        obtain rfl : 1 = Rn := R.len
        have KB := below_alloc w7 (.cells #[.int .u32 (X : Int)] 22)
        have Bx := IS.lit (n := 1) [(X : Int)] (Bk.new w7 #[.int .u32 (X : Int)] 22) (by rfl) (by omega)
        have T := Lib.hid (raddrs_is (b := true) (R.below KB) Bx (by omega) (by omega) (decide_eq_true rfl))
        go_wp2_with fail
        refine (T.out).mono ?_
        rintro e w8 ⟨rfl, K'⟩
        replace K' := Below.then_ KB K'
        clear KB Bx T R
        replace H := H.below K'
        replace G := G.below K'
        replace hL := hL.below K'
        replace h := h.below K'
        replace Kr := Below.then_ Kr K'
        replace K := Below.then_ K K'
        go_wp2
        go_roundw
        case rel => exact ⟨1, by omega, by go_num, Kr⟩
        case measure => simp [intOf]
      · have ee : (E != E) = false := by simp
        go_upto_region 9 with (first | (refine wpList_store_row rfl 30 (.tmp 9) (.tmp 37) rfl _ _ rfl (show _ = Value.agg #[.int .i64 3, .int .u32 (X : Int), .slice none 0 0] from rfl) _ _ (Bk.new _ _ _) ak_sz rfl (by simp [Value.oneCell']) ?_))
        replace H := H.alloc (.cells #[.int .i64 2, .int .i64 3, .int .i64 5] 3)
        replace hL := hL.below (below_alloc _ (.cells #[.int .i64 2, .int .i64 3, .int .i64 5] 3))
        replace h := h.below (below_alloc _ (.cells #[.int .i64 2, .int .i64 3, .int .i64 5] 3))
        replace Kr := Below.then_ Kr (below_alloc _ (.cells #[.int .i64 2, .int .i64 3, .int .i64 5] 3))
        replace K := Below.then_ K (below_alloc _ (.cells #[.int .i64 2, .int .i64 3, .int .i64 5] 3))
        replace H := H.alloc (.cells #[.int .i64 3, .int .u32 (X : Int), .slice none 0 0] 30)
        replace hL := hL.below (below_alloc _ (.cells #[.int .i64 3, .int .u32 (X : Int), .slice none 0 0] 30))
        replace h := h.below (below_alloc _ (.cells #[.int .i64 3, .int .u32 (X : Int), .slice none 0 0] 30))
        replace Kr := Below.then_ Kr (below_alloc _ (.cells #[.int .i64 3, .int .u32 (X : Int), .slice none 0 0] 30))
        replace K := Below.then_ K (below_alloc _ (.cells #[.int .i64 3, .int .u32 (X : Int), .slice none 0 0] 30))
        have G := Bk.new ((wr).alloc (.cells #[.int .i64 2, .int .i64 3, .int .i64 5] 3)) #[.int .i64 3, .int .u32 (X : Int), .slice none 0 0] 30
        try simp only [World.size_alloc] at G
        generalize ((wr).alloc (.cells #[.int .i64 2, .int .i64 3, .int .i64 5] 3)).alloc (.cells #[.int .i64 3, .int .u32 (X : Int), .slice none 0 0] 30) = w5 at H G hL h Kr K ⊢
        generalize wr.heap.size + 1 = gG at G ⊢
        have H_0 := H.at_ (v := .int .u32 (a : Int)) 0 rfl
        have H_1 := H.at_ (v := .int .i64 p) 1 rfl
        have H_2 := H.at_ (v := .slice A n c) 2 rfl
        have H_3 := H.at_ (v := .int .i64 sh) 3 rfl
        have H_4 := H.at_ (v := .int .i64 wo) 4 rfl
        have H_5 := H.at_ (v := .int .i64 qu) 5 rfl
        have H_6 := H.at_ (v := .int .i64 tr) 6 rfl
        have H_z := H.lt
        have G_0 := G.at_ (v := .int .i64 3) 0 rfl
        have G_1 := G.at_ (v := .int .u32 (X : Int)) 1 rfl
        have G_2 := G.at_ (v := .slice none 0 0) 2 rfl
        have G_z := G.lt
        go_wp2_with fail
        refine (check_is (k := 3) (X := X) (v := E) hL ha hM h hn (IS.none_ .u32 0 _) (by omega) hX (w32_dec (by rfl)) ((askE_one (by omega)).trans (by exact hE.out))).mono ?_
        rintro e w6 ⟨rfl, K'⟩
        clear H_0 H_1 H_2 H_3 H_4 H_5 H_6 H_z
        clear G_0 G_1 G_2 G_z
        replace H := H.below K'
        replace G := G.below K'
        replace hL := hL.below K'
        replace h := h.below K'
        replace Kr := Below.then_ Kr K'
        replace K := Below.then_ K K'
        clear K'
        have G_0 := G.at_ (v := .int .i64 3) 0 rfl
        have G_1 := G.at_ (v := .int .u32 (X : Int)) 1 rfl
        have G_2 := G.at_ (v := .slice none 0 0) 2 rfl
        have G_z := G.lt
        go_wp2_with fail
        refine (names_any (k := 3) (x := X) hL (IS.none_ .u32 0 _) (by omega)).mono ?_
        rintro e w7 ⟨RA, Rn, Rc, rfl, R, K'⟩
        clear G_0 G_1 G_2 G_z
        replace H := H.below K'
        replace G := G.below K'
        replace hL := hL.below K'
        replace h := h.below K'
        replace Kr := Below.then_ Kr K'
        replace K := Below.then_ K K'
        clear K'
        rw [nmI_one (by omega)] at R
        replace R := R.is
        obtain rfl : 1 = Rn := R.len
        have KB := below_alloc w7 (.cells #[.int .u32 (X : Int)] 22)
        have Bx := IS.lit (n := 1) [(X : Int)] (Bk.new w7 #[.int .u32 (X : Int)] 22) (by rfl) (by omega)
        have T := Lib.hid (raddrs_is (b := true) (R.below KB) Bx (by omega) (by omega) (decide_eq_true rfl))
        go_wp2_with fail
        refine (T.out).mono ?_
        rintro e w8 ⟨rfl, K'⟩
        replace K' := Below.then_ KB K'
        clear KB Bx T R
        replace H := H.below K'
        replace G := G.below K'
        replace hL := hL.below K'
        replace h := h.below K'
        replace Kr := Below.then_ Kr K'
        replace K := Below.then_ K K'
        go_wp2
        go_roundw
        case rel => exact ⟨2, by omega, by go_num, Kr⟩
        case measure => simp [intOf]
      · have ee : (E != E) = false := by simp
        go_upto_region 9 with (first | (refine wpList_store_row rfl 30 (.tmp 9) (.tmp 37) rfl _ _ rfl (show _ = Value.agg #[.int .i64 5, .int .u32 (X : Int), .slice none 0 0] from rfl) _ _ (Bk.new _ _ _) ak_sz rfl (by simp [Value.oneCell']) ?_))
        replace H := H.alloc (.cells #[.int .i64 2, .int .i64 3, .int .i64 5] 3)
        replace hL := hL.below (below_alloc _ (.cells #[.int .i64 2, .int .i64 3, .int .i64 5] 3))
        replace h := h.below (below_alloc _ (.cells #[.int .i64 2, .int .i64 3, .int .i64 5] 3))
        replace Kr := Below.then_ Kr (below_alloc _ (.cells #[.int .i64 2, .int .i64 3, .int .i64 5] 3))
        replace K := Below.then_ K (below_alloc _ (.cells #[.int .i64 2, .int .i64 3, .int .i64 5] 3))
        replace H := H.alloc (.cells #[.int .i64 5, .int .u32 (X : Int), .slice none 0 0] 30)
        replace hL := hL.below (below_alloc _ (.cells #[.int .i64 5, .int .u32 (X : Int), .slice none 0 0] 30))
        replace h := h.below (below_alloc _ (.cells #[.int .i64 5, .int .u32 (X : Int), .slice none 0 0] 30))
        replace Kr := Below.then_ Kr (below_alloc _ (.cells #[.int .i64 5, .int .u32 (X : Int), .slice none 0 0] 30))
        replace K := Below.then_ K (below_alloc _ (.cells #[.int .i64 5, .int .u32 (X : Int), .slice none 0 0] 30))
        have G := Bk.new ((wr).alloc (.cells #[.int .i64 2, .int .i64 3, .int .i64 5] 3)) #[.int .i64 5, .int .u32 (X : Int), .slice none 0 0] 30
        try simp only [World.size_alloc] at G
        generalize ((wr).alloc (.cells #[.int .i64 2, .int .i64 3, .int .i64 5] 3)).alloc (.cells #[.int .i64 5, .int .u32 (X : Int), .slice none 0 0] 30) = w5 at H G hL h Kr K ⊢
        generalize wr.heap.size + 1 = gG at G ⊢
        have H_0 := H.at_ (v := .int .u32 (a : Int)) 0 rfl
        have H_1 := H.at_ (v := .int .i64 p) 1 rfl
        have H_2 := H.at_ (v := .slice A n c) 2 rfl
        have H_3 := H.at_ (v := .int .i64 sh) 3 rfl
        have H_4 := H.at_ (v := .int .i64 wo) 4 rfl
        have H_5 := H.at_ (v := .int .i64 qu) 5 rfl
        have H_6 := H.at_ (v := .int .i64 tr) 6 rfl
        have H_z := H.lt
        have G_0 := G.at_ (v := .int .i64 5) 0 rfl
        have G_1 := G.at_ (v := .int .u32 (X : Int)) 1 rfl
        have G_2 := G.at_ (v := .slice none 0 0) 2 rfl
        have G_z := G.lt
        go_wp2_with fail
        refine (check_is (k := 5) (X := X) (v := E) hL ha hM h hn (IS.none_ .u32 0 _) (by omega) hX (w32_dec (by rfl)) ((askE_one (by omega)).trans (by exact hE.out))).mono ?_
        rintro e w6 ⟨rfl, K'⟩
        clear H_0 H_1 H_2 H_3 H_4 H_5 H_6 H_z
        clear G_0 G_1 G_2 G_z
        replace H := H.below K'
        replace G := G.below K'
        replace hL := hL.below K'
        replace h := h.below K'
        replace Kr := Below.then_ Kr K'
        replace K := Below.then_ K K'
        clear K'
        have G_0 := G.at_ (v := .int .i64 5) 0 rfl
        have G_1 := G.at_ (v := .int .u32 (X : Int)) 1 rfl
        have G_2 := G.at_ (v := .slice none 0 0) 2 rfl
        have G_z := G.lt
        go_wp2_with fail
        refine (names_any (k := 5) (x := X) hL (IS.none_ .u32 0 _) (by omega)).mono ?_
        rintro e w7 ⟨RA, Rn, Rc, rfl, R, K'⟩
        clear G_0 G_1 G_2 G_z
        replace H := H.below K'
        replace G := G.below K'
        replace hL := hL.below K'
        replace h := h.below K'
        replace Kr := Below.then_ Kr K'
        replace K := Below.then_ K K'
        clear K'
        rw [nmI_one (by omega)] at R
        replace R := R.is
        obtain rfl : 1 = Rn := R.len
        have KB := below_alloc w7 (.cells #[.int .u32 (X : Int)] 22)
        have Bx := IS.lit (n := 1) [(X : Int)] (Bk.new w7 #[.int .u32 (X : Int)] 22) (by rfl) (by omega)
        have T := Lib.hid (raddrs_is (b := true) (R.below KB) Bx (by omega) (by omega) (decide_eq_true rfl))
        go_wp2_with fail
        refine (T.out).mono ?_
        rintro e w8 ⟨rfl, K'⟩
        replace K' := Below.then_ KB K'
        clear KB Bx T R
        replace H := H.below K'
        replace G := G.below K'
        replace hL := hL.below K'
        replace h := h.below K'
        replace Kr := Below.then_ Kr K'
        replace K := Below.then_ K K'
        go_wp2
        go_roundw
        case rel => exact ⟨3, by omega, by go_num, Kr⟩
        case measure => simp [intOf]
    · clear Kr
      go_upto_region 12 with (first | (refine wpList_store_row rfl 30 (.tmp 10) (.tmp 53) rfl _ _ rfl (show _ = Value.agg #[.int .i64 4, .int .u32 0, .slice (some ⟨wr.heap.size, 0, none⟩) 1 1] from rfl) _ _ (Bk.new _ _ _) ak_sz rfl (by simp [Value.oneCell']) ?_))
      replace H := H.alloc (.cells #[.int .u32 (X : Int)] 22)
      replace hL := hL.below (below_alloc _ (.cells #[.int .u32 (X : Int)] 22))
      replace h := h.below (below_alloc _ (.cells #[.int .u32 (X : Int)] 22))
      replace K := Below.then_ K (below_alloc _ (.cells #[.int .u32 (X : Int)] 22))
      have L1 := Bk.new (wr) #[.int .u32 (X : Int)] 22
      replace H := H.alloc (.cells #[.int .i64 4, .int .u32 0, .slice (some ⟨wr.heap.size, 0, none⟩) 1 1] 30)
      replace L1 := L1.alloc (.cells #[.int .i64 4, .int .u32 0, .slice (some ⟨wr.heap.size, 0, none⟩) 1 1] 30)
      replace hL := hL.below (below_alloc _ (.cells #[.int .i64 4, .int .u32 0, .slice (some ⟨wr.heap.size, 0, none⟩) 1 1] 30))
      replace h := h.below (below_alloc _ (.cells #[.int .i64 4, .int .u32 0, .slice (some ⟨wr.heap.size, 0, none⟩) 1 1] 30))
      replace K := Below.then_ K (below_alloc _ (.cells #[.int .i64 4, .int .u32 0, .slice (some ⟨wr.heap.size, 0, none⟩) 1 1] 30))
      have G1 := Bk.new ((wr).alloc (.cells #[.int .u32 (X : Int)] 22)) #[.int .i64 4, .int .u32 0, .slice (some ⟨wr.heap.size, 0, none⟩) 1 1] 30
      try simp only [World.size_alloc] at L1 G1
      generalize ((wr).alloc (.cells #[.int .u32 (X : Int)] 22)).alloc (.cells #[.int .i64 4, .int .u32 0, .slice (some ⟨wr.heap.size, 0, none⟩) 1 1] 30) = w5 at H L1 G1 hL h K ⊢
      generalize wr.heap.size + 1 = gG1 at L1 G1 ⊢
      generalize wr.heap.size = gL1 at L1 G1 ⊢
      go_upto_region 13 with (first | (refine wpList_store_row rfl 30 (.tmp 11) (.tmp 57) rfl _ _ rfl (show _ = Value.agg #[.int .i64 4, .int .u32 0, .slice (some ⟨w5.heap.size, 0, none⟩) 2 2] from rfl) _ _ (Bk.new _ _ _) ak_sz rfl (by simp [Value.oneCell']) ?_))
      replace H := H.alloc (.cells #[.int .u32 (X : Int), .int .u32 (X : Int)] 22)
      replace L1 := L1.alloc (.cells #[.int .u32 (X : Int), .int .u32 (X : Int)] 22)
      replace G1 := G1.alloc (.cells #[.int .u32 (X : Int), .int .u32 (X : Int)] 22)
      replace hL := hL.below (below_alloc _ (.cells #[.int .u32 (X : Int), .int .u32 (X : Int)] 22))
      replace h := h.below (below_alloc _ (.cells #[.int .u32 (X : Int), .int .u32 (X : Int)] 22))
      replace K := Below.then_ K (below_alloc _ (.cells #[.int .u32 (X : Int), .int .u32 (X : Int)] 22))
      have L2 := Bk.new (w5) #[.int .u32 (X : Int), .int .u32 (X : Int)] 22
      replace H := H.alloc (.cells #[.int .i64 4, .int .u32 0, .slice (some ⟨w5.heap.size, 0, none⟩) 2 2] 30)
      replace L1 := L1.alloc (.cells #[.int .i64 4, .int .u32 0, .slice (some ⟨w5.heap.size, 0, none⟩) 2 2] 30)
      replace G1 := G1.alloc (.cells #[.int .i64 4, .int .u32 0, .slice (some ⟨w5.heap.size, 0, none⟩) 2 2] 30)
      replace L2 := L2.alloc (.cells #[.int .i64 4, .int .u32 0, .slice (some ⟨w5.heap.size, 0, none⟩) 2 2] 30)
      replace hL := hL.below (below_alloc _ (.cells #[.int .i64 4, .int .u32 0, .slice (some ⟨w5.heap.size, 0, none⟩) 2 2] 30))
      replace h := h.below (below_alloc _ (.cells #[.int .i64 4, .int .u32 0, .slice (some ⟨w5.heap.size, 0, none⟩) 2 2] 30))
      replace K := Below.then_ K (below_alloc _ (.cells #[.int .i64 4, .int .u32 0, .slice (some ⟨w5.heap.size, 0, none⟩) 2 2] 30))
      have G2 := Bk.new ((w5).alloc (.cells #[.int .u32 (X : Int), .int .u32 (X : Int)] 22)) #[.int .i64 4, .int .u32 0, .slice (some ⟨w5.heap.size, 0, none⟩) 2 2] 30
      try simp only [World.size_alloc] at L2 G2
      generalize ((w5).alloc (.cells #[.int .u32 (X : Int), .int .u32 (X : Int)] 22)).alloc (.cells #[.int .i64 4, .int .u32 0, .slice (some ⟨w5.heap.size, 0, none⟩) 2 2] 30) = w6 at H L1 G1 L2 G2 hL h K ⊢
      generalize w5.heap.size + 1 = gG2 at L2 G2 ⊢
      generalize w5.heap.size = gL2 at L2 G2 ⊢
      obtain ⟨V, hV, hV2⟩ : ∃ V, askE a M zs 4 (0 : Nat) [(X : Int), (X : Int)] = V ∧ V = (if E = 0 then 8 else E) := ⟨_, rfl, by rw [askE_batch (by simp) (by simp), chk_two]; rw [show (X : Int).toNat = X from rfl, hE.out]⟩
      replace hV2 := Lib.hid hV2
      have H_0 := H.at_ (v := .int .u32 (a : Int)) 0 rfl
      have H_1 := H.at_ (v := .int .i64 p) 1 rfl
      have H_2 := H.at_ (v := .slice A n c) 2 rfl
      have H_3 := H.at_ (v := .int .i64 sh) 3 rfl
      have H_4 := H.at_ (v := .int .i64 wo) 4 rfl
      have H_5 := H.at_ (v := .int .i64 qu) 5 rfl
      have H_6 := H.at_ (v := .int .i64 tr) 6 rfl
      have H_z := H.lt
      have G2_0 := G2.at_ (v := .int .i64 4) 0 rfl
      have G2_1 := G2.at_ (v := .int .u32 0) 1 rfl
      have G2_2 := G2.at_ (v := .slice (some ⟨gL2, 0, none⟩) 2 2) 2 rfl
      have G2_z := G2.lt
      go_wp2_with fail
      refine (check_at (X := 0) (x := 0) (k := 4) (v := V) hL ha hM h hn (IS.lit (n := 2) [(X : Int), (X : Int)] L2 (by rfl) (by omega)) (by omega) rfl (by omega) (by intro y hy; simp only [List.mem_cons, List.not_mem_nil, or_false, or_self] at hy; omega) hV).mono ?_
      rintro e w7 ⟨rfl, K'⟩
      clear H_0 H_1 H_2 H_3 H_4 H_5 H_6 H_z
      clear G2_0 G2_1 G2_2 G2_z
      replace H := H.below K'
      replace L1 := L1.below K'
      replace G1 := G1.below K'
      replace L2 := L2.below K'
      replace G2 := G2.below K'
      replace hL := hL.below K'
      replace h := h.below K'
      replace K := Below.then_ K K'
      clear K'
      have H_0 := H.at_ (v := .int .u32 (a : Int)) 0 rfl
      have H_1 := H.at_ (v := .int .i64 p) 1 rfl
      have H_2 := H.at_ (v := .slice A n c) 2 rfl
      have H_3 := H.at_ (v := .int .i64 sh) 3 rfl
      have H_4 := H.at_ (v := .int .i64 wo) 4 rfl
      have H_5 := H.at_ (v := .int .i64 qu) 5 rfl
      have H_6 := H.at_ (v := .int .i64 tr) 6 rfl
      have H_z := H.lt
      have G1_0 := G1.at_ (v := .int .i64 4) 0 rfl
      have G1_1 := G1.at_ (v := .int .u32 0) 1 rfl
      have G1_2 := G1.at_ (v := .slice (some ⟨gL1, 0, none⟩) 1 1) 2 rfl
      have G1_z := G1.lt
      go_wp2_with fail
      refine (check_at (X := 0) (x := 0) (k := 4) (v := E) hL ha hM h hn (IS.lit (n := 1) [(X : Int)] L1 (by rfl) (by omega)) (by omega) rfl (by omega) (by intro y hy; simp only [List.mem_singleton] at hy; omega) ((askE_batch (by simp) (by simp)).trans ((chk_one _).trans hE.out))).mono ?_
      rintro e w8 ⟨rfl, K'⟩
      clear H_0 H_1 H_2 H_3 H_4 H_5 H_6 H_z
      clear G1_0 G1_1 G1_2 G1_z
      replace H := H.below K'
      replace L1 := L1.below K'
      replace G1 := G1.below K'
      replace L2 := L2.below K'
      replace G2 := G2.below K'
      replace hL := hL.below K'
      replace h := h.below K'
      replace K := Below.then_ K K'
      clear K'
      by_cases hE0 : E = 0
      · subst hE0
        obtain rfl : V = 8 := hV2.out
        go_wp2
        go_ret
        exact ⟨rfl, K⟩
      · obtain rfl : V = E := by rw [hV2.out, if_neg hE0]
        have e1 : (V == V) = true := by simp
        have e2 : (V != 0) = true := by simp [hE0]
        have e3 : (V == 0) = false := by simp [hE0]
        clear hE0
        go_wp2
        go_ret
        exact ⟨rfl, K⟩
theorem walk (a p : Int) (A : Option Addr) (n c : Nat) (z : List Int) (sh wo qu tr x : Int) (w : World) (hL : Laid w) (wa : (Lit.int .u32 a).wf = true) (wr : IsRow .i64 w A n c z) (wx : (Lit.int .u32 x).wf = true) :
    Calls Tryd.prog 7 #[.agg #[.int .u32 a, .int .i64 p, .slice A n c, .int .i64 sh, .int .i64 wo, .int .i64 qu, .int .i64 tr], .int .u32 x] w fun e w' => e = .returned (.bool true) ∧ Below w.heap.size w w' := by
  obtain ⟨a, rfl, ha⟩ := wf_u32 wa
  obtain ⟨X, rfl, hX⟩ := wf_u32 wx
  obtain ⟨zs, h, _⟩ := IS.of_row wr
  exact main hL ha h hX
end
end Go.Proofs.YtfjnlackbmdncaaDoor.askOne
