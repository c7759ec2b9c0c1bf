/-
  The walk of the law AskFirst: for every configuration, request and address it answers true.
-/
import Derived.Test.YtfjnlackbmdncaaDoorAskOpen
namespace Go.Proofs.YtfjnlackbmdncaaDoor.askFirst
open Go.RowKit
set_option linter.unusedVariables false
theorem ok_find {a M : Nat} {zs l : List Int} (h : chk a M zs [] l = 0) {k : Nat} (hk : k < l.length) : fiE a M (gi l k).toNat zs = 0 := ((chk_ok h).1 _ (gi_mem hk)).1
theorem ok_ne {a M : Nat} {zs l : List Int} (h : chk a M zs [] l = 0) {j k : Nat} (hj : j < k) (hk : k < l.length) : gi l j ≠ gi l k := by
  rw [gi_at (by omega), gi_at hk]
  exact List.pairwise_iff_getElem.1 (chk_ok h).2 j k (by omega) hk hj
theorem stands_step {l : List Int} {j : Nat} {Y : Int} (h : j < l.length) : decide (Y ∈ l.take (j + 1)) = (decide (Y ∈ l.take j) || (gi l j == Y)) := by
  rw [List.take_succ_eq_append_getElem h, gi_at h]
  generalize List.take j l = q
  generalize l[j] = v
  by_cases h1 : Y ∈ q
  · simp [h1]
  · by_cases h2 : v = Y
    · simp [h2]
    · have h3 : ¬ Y = v := fun e => h2 e.symm
      simp [h1, h2, h3]
section
variable {w : World} {lo lo2 lo3 a m d m2 d2 X X2 : Nat} {p sh wo qu tr k k2 : Int} {A B B2 : Option Addr} {n c : Nat} {zs ys ys2 : List Int}
set_option maxRecDepth 100000 in
set_option maxHeartbeats 4000000 in
theorem main (hL0 : Laid w) (ha : a < 4294967296) (h0 : IS .i64 lo w A n c zs) (hs0 : IS .u32 lo2 w B m d ys) (hX : X < 4294967296) (hw : W32 ys) {Y : Nat} (hY : Y < 4294967296) :
    Calls Tryd.prog 4 #[.agg #[.int .u32 (a : Int), .int .i64 p, .slice A n c, .int .i64 sh, .int .i64 wo, .int .i64 qu, .int .i64 tr], .agg #[.int .i64 k, .int .u32 (X : Int), .slice B m d], .int .u32 (Y : Int)] w (RetBo true w) := by
  have hL := hL0
  have h := h0
  have hs := hs0
  have K := Below.refl w.heap.size w
  go_enter Tryd.func4, Tryd.ntmps4
  go_upto_region 1 with (fail)
  replace hL := hL.below (below_alloc _ (.cells #[.int .u32 (a : Int), .int .i64 p, .slice A n c, .int .i64 sh, .int .i64 wo, .int .i64 qu, .int .i64 tr] 27))
  replace h := h.below (below_alloc _ (.cells #[.int .u32 (a : Int), .int .i64 p, .slice A n c, .int .i64 sh, .int .i64 wo, .int .i64 qu, .int .i64 tr] 27))
  replace hs := hs.below (below_alloc _ (.cells #[.int .u32 (a : Int), .int .i64 p, .slice A n c, .int .i64 sh, .int .i64 wo, .int .i64 qu, .int .i64 tr] 27))
  replace K := Below.then_ K (below_alloc _ (.cells #[.int .u32 (a : Int), .int .i64 p, .slice A n c, .int .i64 sh, .int .i64 wo, .int .i64 qu, .int .i64 tr] 27))
  have H := Bk.new (w) #[.int .u32 (a : Int), .int .i64 p, .slice A n c, .int .i64 sh, .int .i64 wo, .int .i64 qu, .int .i64 tr] 27
  replace H := H.alloc (.cells #[.int .i64 k, .int .u32 (X : Int), .slice B m d] 30)
  replace hL := hL.below (below_alloc _ (.cells #[.int .i64 k, .int .u32 (X : Int), .slice B m d] 30))
  replace h := h.below (below_alloc _ (.cells #[.int .i64 k, .int .u32 (X : Int), .slice B m d] 30))
  replace hs := hs.below (below_alloc _ (.cells #[.int .i64 k, .int .u32 (X : Int), .slice B m d] 30))
  replace K := Below.then_ K (below_alloc _ (.cells #[.int .i64 k, .int .u32 (X : Int), .slice B m d] 30))
  have G := Bk.new ((w).alloc (.cells #[.int .u32 (a : Int), .int .i64 p, .slice A n c, .int .i64 sh, .int .i64 wo, .int .i64 qu, .int .i64 tr] 27)) #[.int .i64 k, .int .u32 (X : Int), .slice B m d] 30
  try simp only [World.size_alloc] at H G
  generalize ((w).alloc (.cells #[.int .u32 (a : Int), .int .i64 p, .slice A n c, .int .i64 sh, .int .i64 wo, .int .i64 qu, .int .i64 tr] 27)).alloc (.cells #[.int .i64 k, .int .u32 (X : Int), .slice B m d] 30) = w1 at H G hL h hs K ⊢
  generalize w.heap.size + 1 = gG at H G ⊢
  generalize w.heap.size = gH at H G ⊢
  have hGH : gH ≠ gG := by intro e; subst e; have := H; unfold Bk at this G; rw [this] at G; cases G
  have hN := W32.nm (k := k) hX hw
  replace hN := Lib.hid hN
  replace hw := Lib.hid hw
  go_wp2_with fail
  refine (awake_any _ hL).mono ?_
  rintro e w2 ⟨rfl, K'⟩
  replace H := H.below K'
  replace G := G.below K'
  replace hL := hL.below K'
  replace h := h.below K'
  replace hs := hs.below K'
  replace K := Below.then_ K K'
  clear K'
  have H_0 := H.at_ (v := .int .u32 (a : Int)) 0 rfl
  have H_1 := H.at_ (v := .int .i64 p) 1 rfl
  have H_2 := H.at_ (v := .slice A n c) 2 rfl
  have H_3 := H.at_ (v := .int .i64 sh) 3 rfl
  have H_4 := H.at_ (v := .int .i64 wo) 4 rfl
  have H_5 := H.at_ (v := .int .i64 qu) 5 rfl
  have H_6 := H.at_ (v := .int .i64 tr) 6 rfl
  have H_z := H.lt
  go_wp2_with fail
  refine (rmay5_any ha h).mono ?_
  rintro e w3 ⟨bo, rfl, hB, K'⟩
  clear H_0 H_1 H_2 H_3 H_4 H_5 H_6 H_z
  replace H := H.below K'
  replace G := G.below K'
  replace hL := hL.below K'
  replace h := h.below K'
  replace hs := hs.below K'
  replace K := Below.then_ K K'
  clear K'
  rcases bo with _ | _
  · clear hB
    go_wp2_with fail
    refine (awake_any _ hL).mono ?_
    rintro e w4 ⟨rfl, K'⟩
    replace H := H.below K'
    replace G := G.below K'
    replace hL := hL.below K'
    replace h := h.below K'
    replace hs := hs.below K'
    replace K := Below.then_ K K'
    clear K'
    go_wp2
    go_ret
    exact ⟨rfl, K⟩
  obtain ⟨M, hC⟩ := hB rfl
  clear hB
  have hM := hC.much
  have hn : n ≤ 65536 := by have := hC.few; omega
  have hMm := hM.most
  have G_0 := G.at_ (v := .int .i64 k) 0 rfl
  have G_1 := G.at_ (v := .int .u32 (X : Int)) 1 rfl
  have G_2 := G.at_ (v := .slice B m d) 2 rfl
  have G_z := G.lt
  rcases Nat.lt_or_ge 100 m with hfG | hfG
  · go_wp2_with fail
    refine (few_no hs (Nat.not_le.2 hfG)).mono ?_
    rintro e w4 ⟨rfl, K'⟩
    replace H := H.below K'
    replace G := G.below K'
    replace hL := hL.below K'
    replace h := h.below K'
    replace hs := hs.below K'
    replace K := Below.then_ K K'
    clear K'
    clear G_0 G_1 G_2 G_z
    go_wp2_with fail
    refine (awake_any _ hL).mono ?_
    rintro e w5 ⟨rfl, K'⟩
    replace H := H.below K'
    replace G := G.below K'
    replace hL := hL.below K'
    replace h := h.below K'
    replace hs := hs.below K'
    replace K := Below.then_ K K'
    clear K'
    go_wp2
    go_ret
    exact ⟨rfl, K⟩
  go_wp2_with fail
  refine (few_yes hs hfG).mono ?_
  rintro e w4 ⟨rfl, K'⟩
  replace H := H.below K'
  replace G := G.below K'
  replace hL := hL.below K'
  replace h := h.below K'
  replace hs := hs.below K'
  replace K := Below.then_ K K'
  clear K'
  clear G_0 G_1 G_2 G_z
  have hl := Lib.hid hs.len
  obtain ⟨E, hE⟩ : ∃ E, askE a M zs k X ys = E := ⟨_, rfl⟩
  replace hE := Lib.hid hE
  have H_0 := H.at_ (v := .int .u32 (a : Int)) 0 rfl
  have H_1 := H.at_ (v := .int .i64 p) 1 rfl
  have H_2 := H.at_ (v := .slice A n c) 2 rfl
  have H_3 := H.at_ (v := .int .i64 sh) 3 rfl
  have H_4 := H.at_ (v := .int .i64 wo) 4 rfl
  have H_5 := H.at_ (v := .int .i64 qu) 5 rfl
  have H_6 := H.at_ (v := .int .i64 tr) 6 rfl
  have H_z := H.lt
  have G_0 := G.at_ (v := .int .i64 k) 0 rfl
  have G_1 := G.at_ (v := .int .u32 (X : Int)) 1 rfl
  have G_2 := G.at_ (v := .slice B m d) 2 rfl
  have G_z := G.lt
  go_wp2_with fail
  refine (check_is (k := k) (X := X) (v := E) hL ha hM h hn hs (by omega) hX hw.out hE.out).mono ?_
  rintro e w5 ⟨rfl, K'⟩
  clear H_0 H_1 H_2 H_3 H_4 H_5 H_6 H_z
  clear G_0 G_1 G_2 G_z
  replace H := H.below K'
  replace G := G.below K'
  replace hL := hL.below K'
  replace h := h.below K'
  replace hs := hs.below K'
  replace K := Below.then_ K K'
  clear K'
  rcases Decidable.em (E ≠ 0) with hE0 | hE0
  · have e9 : (E != 0) = true := by simp [hE0]
    clear hE0
    go_wp2_with fail
    refine (awake_any _ hL).mono ?_
    rintro e w6 ⟨rfl, K'⟩
    replace H := H.below K'
    replace G := G.below K'
    replace hL := hL.below K'
    replace h := h.below K'
    replace hs := hs.below K'
    replace K := Below.then_ K K'
    clear K'
    go_wp2
    go_ret
    exact ⟨rfl, K⟩
  obtain rfl : E = 0 := by omega
  clear hE0
  obtain ⟨hk1, hk7, hb4, hok⟩ := askE_ok hE.out
  have G_0 := G.at_ (v := .int .i64 k) 0 rfl
  have G_1 := G.at_ (v := .int .u32 (X : Int)) 1 rfl
  have G_2 := G.at_ (v := .slice B m d) 2 rfl
  have G_z := G.lt
  go_wp2_with fail
  refine (names_any (k := k) (x := X) hL hs (by omega)).mono ?_
  rintro e w6 ⟨RA, Rn, Rc, rfl, R, K'⟩
  clear G_0 G_1 G_2 G_z
  replace H := H.below K'
  replace G := G.below K'
  replace hL := hL.below K'
  replace h := h.below K'
  replace hs := hs.below K'
  replace K := Below.then_ K K'
  clear K'
  obtain ⟨l, hl9⟩ : ∃ l, nmI k X ys = l := ⟨_, rfl⟩
  rw [hl9] at R hN hok
  replace R := R.is
  have hRl := R.len
  have hlen := nmI_len (k := k) (x := (X : Int)) (ys := ys) (n := 100) (by have := hl.out; omega) (by omega)
  rw [hl9, hRl] at hlen
  replace hok := Lib.hid hok
  replace hRl := Lib.hid hRl
  replace hl9 := Lib.hid hl9
  replace hb4 := Lib.hid hb4
  go_wp2
  go_loopw [8, 9] (fun st i wr => ∃ j : Nat, j ≤ Rn ∧ i = .int .i64 j ∧ st = .bool (decide ((Y : Int) ∈ l.take j)) ∧ Below w6.heap.size w6 wr) (fun _ i _ => Rn - (intOf i).toNat)
  case atStart => exact ⟨0, Nat.zero_le _, rfl, by simp, Below.refl _ _⟩
  case round =>
    obtain ⟨j, hj, rfl, rfl, Kr⟩ := hrel
    by_cases hlt : j < Rn
    · have hjl : j < l.length := by have := hRl.out; omega
      have hf := ok_find hok.out hjl
      obtain ⟨y, hy, hyb⟩ := hN.out.at_ (k := j) hjl
      rw [hy] at hf
      replace hf := (show fiE a M y zs = 0 from hf)
      obtain ⟨b, o, rfl, hbl, hc⟩ := (R.below Kr).get hlt
      rw [hy] at hc
      have Hr := H.below Kr
      have hr := h.below Kr
      have T := fun w5 (K5 : Below wr.heap.size wr w5) => rfind_any (p := p) (A := A) (n := n) (c := c) (sh := sh) (wo := wo) (qu := qu) (tr := tr) (w := w5) y hyb hM (hr.below K5) hn
      simp only [hf] at T
      generalize fiO a M y zs = F at T
      replace T := Lib.hid T
      replace hy := Lib.hid hy
      replace hjl := Lib.hid hjl
      clear hf
      go_wp2_with fail
      refine wp_region_held_drew (S := fun w' => Below wr.heap.size wr w') (by kernel_rfl) (Below.refl _ _).drew (fun hHeld => ?_)
      refine wpAnyH_take (i := 0) (oi := ⟨some 45, _, _, _, _, _⟩) (v := ?_) rfl (by kernel_rfl) (by kernel_rfl) (by kernel_rfl) (fun _ _ _ h => h) (Or.inl ⟨by rfl, ?_⟩) hHeld ?_
      rotate_left
      · intro ww hSw
        try dsimp only at hSw
        have Hr_0 := (Hr.below hSw).at_ (v := .int .u32 (a : Int)) 0 rfl
        have Hr_1 := (Hr.below hSw).at_ (v := .int .i64 p) 1 rfl
        have Hr_2 := (Hr.below hSw).at_ (v := .slice A n c) 2 rfl
        have Hr_3 := (Hr.below hSw).at_ (v := .int .i64 sh) 3 rfl
        have Hr_4 := (Hr.below hSw).at_ (v := .int .i64 wo) 4 rfl
        have Hr_5 := (Hr.below hSw).at_ (v := .int .i64 qu) 5 rfl
        have Hr_6 := (Hr.below hSw).at_ (v := .int .i64 tr) 6 rfl
        have hc_ := (hSw.cell (p := ⟨b, o + j, none⟩) hbl).trans hc
        go_simp
        try with_reducible rfl
        try omega
      try simp only [Act.put, List.setIfInBounds_toArray, List.set_cons_zero, List.set_cons_succ]
      refine wpAnyH_take (i := 1) (oi := ⟨some 46, _, _, _, _, _⟩) (v := ?_) rfl (by kernel_rfl) (by kernel_rfl) (by kernel_rfl) (fun _ _ _ h => h) (Or.inl ⟨by rfl, ?_⟩) hHeld ?_
      rotate_left
      · intro ww hSw
        try dsimp only at hSw
        go_simp
        try with_reducible rfl
        try omega
      try simp only [Act.put, List.setIfInBounds_toArray, List.set_cons_zero, List.set_cons_succ]
      refine wpAnyH_take (i := 2) (oi := ⟨some 47, _, _, _, _, _⟩) (v := ?_) rfl (by kernel_rfl) (by kernel_rfl) (by kernel_rfl) (fun _ _ _ h => h) (Or.inl ⟨by rfl, ?_⟩) hHeld ?_
      rotate_left
      · intro ww hSw
        try dsimp only at hSw
        go_simp
        try with_reducible rfl
        try omega
      try simp only [Act.put, List.setIfInBounds_toArray, List.set_cons_zero, List.set_cons_succ]
      refine wpAnyH_take (i := 3) (oi := ⟨some 48, _, _, _, _, _⟩) (v := ?_) rfl (by kernel_rfl) (by kernel_rfl) (by kernel_rfl) (fun _ _ _ h => h) (Or.inl ⟨by rfl, ?_⟩) hHeld ?_
      rotate_left
      · intro ww hSw
        try dsimp only at hSw
        go_simp
        try with_reducible rfl
        try omega
      try simp only [Act.put, List.setIfInBounds_toArray, List.set_cons_zero, List.set_cons_succ]
      refine wpAnyH_take (i := 4) (oi := ⟨some 49, _, _, _, _, _⟩) (v := ?_) rfl (by kernel_rfl) (by kernel_rfl) (by kernel_rfl) (fun _ _ _ h => h) (Or.inl ⟨by rfl, ?_⟩) hHeld ?_
      rotate_left
      · intro ww hSw
        try dsimp only at hSw
        have Hr_0 := (Hr.below hSw).at_ (v := .int .u32 (a : Int)) 0 rfl
        have Hr_1 := (Hr.below hSw).at_ (v := .int .i64 p) 1 rfl
        have Hr_2 := (Hr.below hSw).at_ (v := .slice A n c) 2 rfl
        have Hr_3 := (Hr.below hSw).at_ (v := .int .i64 sh) 3 rfl
        have Hr_4 := (Hr.below hSw).at_ (v := .int .i64 wo) 4 rfl
        have Hr_5 := (Hr.below hSw).at_ (v := .int .i64 qu) 5 rfl
        have Hr_6 := (Hr.below hSw).at_ (v := .int .i64 tr) 6 rfl
        have hc_ := (hSw.cell (p := ⟨b, o + j, none⟩) hbl).trans hc
        go_simp
        try with_reducible rfl
        try omega
      try simp only [Act.put, List.setIfInBounds_toArray, List.set_cons_zero, List.set_cons_succ]
      refine wpAnyH_ready (rs := [5]) (by kernel_rfl) (by simp) ?_
      refine AllReadyH.cons (o := ⟨some 50, _, _, _, _, _⟩) rfl (fun K0 hK => ?_) AllReadyH.nil
      go_simp
      refine (T.out _ hHeld).mono ?_
      rintro e ww ⟨rfl, K'⟩
      refine hK.out _ _ (Below.then_ hHeld K') (fun hHeld' => ?_)
      clear hHeld K' hK K0
      have hHeld := hHeld'
      clear hHeld'
      try simp only [Act.put, List.setIfInBounds_toArray, List.set_cons_zero, List.set_cons_succ]
      refine wpAnyH_take (i := 6) (oi := ⟨some 44, _, _, _, _, _⟩) (v := ?_) rfl (by kernel_rfl) (by kernel_rfl) (by kernel_rfl) (fun _ _ _ h => h) (Or.inl ⟨by rfl, ?_⟩) hHeld ?_
      rotate_left
      · intro ww hSw
        try dsimp only at hSw
        go_simp
        try with_reducible rfl
        try omega
      try simp only [Act.put, List.setIfInBounds_toArray, List.set_cons_zero, List.set_cons_succ]
      refine wpAnyH_take (i := 7) (oi := ⟨some 51, _, _, _, _, _⟩) (v := ?_) rfl (by kernel_rfl) (by kernel_rfl) (by kernel_rfl) (fun _ _ _ h => h) (Or.inl ⟨by rfl, ?_⟩) hHeld ?_
      rotate_left
      · intro ww hSw
        try dsimp only at hSw
        go_simp
        try with_reducible rfl
        try omega
      try simp only [Act.put, List.setIfInBounds_toArray, List.set_cons_zero, List.set_cons_succ]
      refine wpAnyH_take (i := 8) (oi := ⟨some 52, _, _, _, _, _⟩) (v := ?_) rfl (by kernel_rfl) (by kernel_rfl) (by kernel_rfl) (fun _ _ _ h => h) (Or.inl ⟨by rfl, ?_⟩) hHeld ?_
      rotate_left
      · intro ww hSw
        try dsimp only at hSw
        go_simp
        try with_reducible rfl
        try omega
      try simp only [Act.put, List.setIfInBounds_toArray, List.set_cons_zero, List.set_cons_succ]
      refine wpAnyH_take (i := 9) (oi := ⟨some 10, _, _, _, _, _⟩) (v := ?_) rfl (by kernel_rfl) (by kernel_rfl) (by kernel_rfl) (fun _ _ _ h => h) (Or.inl ⟨by rfl, ?_⟩) hHeld ?_
      rotate_left
      · intro ww hSw
        try dsimp only at hSw
        go_simp
        try with_reducible rfl
        try omega
      try simp only [Act.put, List.setIfInBounds_toArray, List.set_cons_zero, List.set_cons_succ]
      refine wpAnyH_take (i := 10) (oi := ⟨some 11, _, _, _, _, _⟩) (v := ?_) rfl (by kernel_rfl) (by kernel_rfl) (by kernel_rfl) (fun _ _ _ h => h) (Or.inl ⟨by rfl, ?_⟩) hHeld ?_
      rotate_left
      · intro ww hSw
        try dsimp only at hSw
        go_simp
        try with_reducible rfl
        try omega
      try simp only [Act.put, List.setIfInBounds_toArray, List.set_cons_zero, List.set_cons_succ]
      refine wpAnyH_done (by kernel_rfl) ?_ _
      have Kq := Kr.trans (hHeld.mono Kr.size)
      clear hHeld T hc hr Hr
      go_wp2
      go_loopw [12] (fun v wr2 => ∃ i : Nat, i ≤ j ∧ v = .int .i64 i ∧ Below w6.heap.size w6 wr2) (fun v _ => j - (intOf v).toNat)
      case atStart => exact ⟨0, Nat.zero_le _, rfl, Kq⟩
      case round =>
        obtain ⟨i, hi, rfl, Ki⟩ := hrel
        by_cases hij : i < j
        · have c1 := (R.below Ki).here (j := i) (by omega)
          have c2 := (R.below Ki).here hlt
          have hne := ok_ne hok.out hij hjl.out
          have e1 : (gi l i == gi l j) = false := by simp [hne]
          replace hne := Lib.hid hne
          go_wp2
          go_quiet (fail)
          go_wp2
          go_roundw
          case rel => exact ⟨i + 1, by omega, by go_num, below_drewN Ki _⟩
          case measure => simp [intOf]; omega
        · have c2 := (R.below Ki).here hlt
          have hst := stands_step (Y := (Y : Int)) hjl.out
          generalize decide ((Y : Int) ∈ l.take j) = st at hst ⊢
          cases st with
          | true =>
            replace hst := Lib.hid hst
            go_wp2
            go_roundw
            case rel => exact ⟨j + 1, by omega, by go_num, by rw [hst.out]; rfl, Ki⟩
            case measure => simp [intOf]; omega
          | false =>
            obtain ⟨s2, hs2⟩ : ∃ s2, (gi l j == (Y : Int)) = s2 := ⟨_, rfl⟩
            rw [hs2] at hst
            replace hst := Lib.hid hst
            go_wp2
            go_roundw
            case rel => exact ⟨j + 1, by omega, by go_num, by rw [hst.out]; rfl, Ki⟩
            case measure => simp [intOf]; omega
    · obtain rfl : j = Rn := by omega
      rw [List.take_of_length_le (by have := hRl.out; omega)]
      replace H := H.below Kr
      replace G := G.below Kr
      replace hL := hL.below Kr
      replace h := h.below Kr
      replace hs := hs.below Kr
      replace R := R.below Kr
      replace K := Below.then_ K Kr
      clear Kr hlt hj
      obtain ⟨st, hst⟩ : ∃ st, decide ((Y : Int) ∈ l) = st := ⟨_, rfl⟩
      rw [hst]
      replace hst := Lib.hid hst
      by_cases n4_ : k = 4
      · subst n4_
        have el : l = ys := by have := hl9.out; rw [nmI_all] at this; exact this.symm
        rw [el] at hst hok
        have hjm : j = m := by rw [← hRl.out, ← hl.out, el]
        obtain ⟨hm1, hm2⟩ := hb4.out rfl
        rw [hl.out] at hm1 hm2
        clear hl9 hb4 el hRl R hL h hs
        subst hjm
        have h4 : gH < wr.heap.size := H.lt
        have h5 : gG < wr.heap.size := G.lt
        have h6 := K.size
        have G_0 := G.at_ (v := .int .i64 4) 0 rfl
        have G_1 := G.at_ (v := .int .u32 (X : Int)) 1 rfl
        have G_2 := G.at_ (v := .slice B j d) 2 rfl
        have G_z := G.lt
        go_upto_region 20 with (first | (refine wpList_store_row rfl 30 (.tmp 13) (.tmp 84) rfl _ _ rfl (show _ = Value.agg #[.int .i64 4, .int .u32 (X : Int), .slice B j d] from rfl) _ _ (Bk.new _ _ _) ak_sz rfl (by simp [Value.oneCell']) ?_))
        try rw [World.setRow_alloc_new]
        clear G_0 G_1 G_2 G_z
        replace H := H.alloc (.cells #[.int .i64 4, .int .u32 (X : Int), .slice B j d] 30)
        replace G := G.alloc (.cells #[.int .i64 4, .int .u32 (X : Int), .slice B j d] 30)
        replace K := Below.then_ K (below_alloc _ (.cells #[.int .i64 4, .int .u32 (X : Int), .slice B j d] 30))
        have J := Bk.new (wr) #[.int .i64 4, .int .u32 (X : Int), .slice B j d] 30
        try simp only [World.size_alloc] at J
        generalize (wr).alloc (.cells #[.int .i64 4, .int .u32 (X : Int), .slice B j d] 30) = w11 at H G J K ⊢
        generalize wr.heap.size = gJ at J h4 h5 h6 ⊢
        have hHJ : gH ≠ gJ := by omega
        have hGJ : gG ≠ gJ := by omega
        have hJW : gJ < w11.heap.size := J.lt
        have hs := hs0.below K
        obtain ⟨i0, hi, hz0, hz1, hz2⟩ := info_parts u32_info
        have hown : Ri .u32 22 (w11.alloc (.cells #[] 22)) w11.heap.size (.slice (some ⟨w11.heap.size, 0, none⟩) 0 0) 0 [] := World.ownsRow_lit w11 #[] 0 (Nat.le_refl _) (by unfold maxLen; omega) rfl
        have Ka := below_alloc w11 (.cells #[] 22)
        obtain ⟨B1, b1, wq, hap, R1, K1⟩ := run_app (P := Tryd.prog) Tryd.underlying28 hi hz0 hz1 (by omega) hown (hs.below Ka) (by omega) Ka.size 28
        rw [Nat.zero_add] at hap R1
        rw [List.nil_append] at R1
        have K2 := Ka.trans K1
        obtain ⟨B2, b2, wR, hap2, R2, K3⟩ := run_app1 (P := Tryd.prog) (x := (Y : Int)) Tryd.underlying28 hi hz0 hz1 (by omega) R1 (by omega) K2.size 28
        have K' := K2.trans K3
        have HA := Lib.hid hap
        have HB := Lib.hid hap2
        have Q := R2.is
        clear hap hap2 hi hz0 hz1 hz2 hown R1 R2 K1 K2 K3 Ka hs
        have J_2 := (J.below K').at_ (v := .slice B j d) 2 rfl
        have J_z := (J.below K').lt
        have J_f := (J.below K').fz 2
        have G_0 := G.at_ (v := .int .i64 4) 0 rfl
        have G_1 := G.at_ (v := .int .u32 (X : Int)) 1 rfl
        have G_2 := G.at_ (v := .slice B j d) 2 rfl
        have G_z := G.lt
        go_upto_region 21 with (first | (at_builtin; refine wpList_append_run rfl (.tmp 85) (.tmp 87) 28 rfl _ _ _ _ rfl rfl HA.out ?_) | (at_builtin; refine wpList_append_run rfl (.tmp 88) (.tmp 90) 28 rfl _ _ _ _ rfl rfl HB.out ?_))
        clear G_0 G_1 G_2 G_z
        clear J_2 J_z J_f HA HB
        replace H := H.below K'
        replace G := G.below K'
        replace J := J.below K'
        replace K := Below.then_ K K'
        clear K'
        replace K := K.setCell (p := ⟨gJ, 2, none⟩) h6 (.slice B2 (j + 1) b2)
        replace H := H.far (p := ⟨gJ, 2, none⟩) hHJ (.slice B2 (j + 1) b2)
        clear G
        replace J : Bk (wR.setCell ⟨gJ, 2, none⟩ (.slice B2 (j + 1) b2)) gJ 30 #[.int .i64 4, .int .u32 (X : Int), .slice B2 (j + 1) b2] := J.set_ 2 (.slice B2 (j + 1) b2)
        replace Q := Q.set_low (p := ⟨gJ, 2, none⟩) hJW (.slice B2 (j + 1) b2)
        generalize wR.setCell ⟨gJ, 2, none⟩ (.slice B2 (j + 1) b2) = w20 at H J Q K ⊢
        have hL := hL0.below K
        have h := h0.below K
        obtain ⟨F, hF⟩ : ∃ F, fiE a M Y zs = F := ⟨_, rfl⟩
        have T := rfind_any (sh := sh) (wo := wo) (qu := qu) (tr := tr) Y hY hM h hn
        rw [hF] at T
        replace hF := Lib.hid hF
        replace T := Lib.hid T
        have H_0 := H.at_ (v := .int .u32 (a : Int)) 0 rfl
        have H_1 := H.at_ (v := .int .i64 p) 1 rfl
        have H_2 := H.at_ (v := .slice A n c) 2 rfl
        have H_3 := H.at_ (v := .int .i64 sh) 3 rfl
        have H_4 := H.at_ (v := .int .i64 wo) 4 rfl
        have H_5 := H.at_ (v := .int .i64 qu) 5 rfl
        have H_6 := H.at_ (v := .int .i64 tr) 6 rfl
        have H_z := H.lt
        go_wp2_with fail
        refine (T.out).mono ?_
        rintro e w21 ⟨rfl, K'⟩
        clear H_0 H_1 H_2 H_3 H_4 H_5 H_6 H_z
        replace H := H.below K'
        replace J := J.below K'
        replace Q := Q.below K'
        replace hL := hL.below K'
        replace h := h.below K'
        replace K := Below.then_ K K'
        clear K'
        clear T
        obtain ⟨V, hV⟩ : ∃ V, askE a M zs 4 X (ys ++ [(Y : Int)]) = V := ⟨_, rfl⟩
        replace hV := Lib.hid hV
        have hW2 : W32 (ys ++ [(Y : Int)]) := by
          intro y hy
          rcases List.mem_append.1 hy with g | g
          · exact hw.out y g
          · simp only [List.mem_singleton] at g; omega
        replace hW2 := Lib.hid hW2
        have H_0 := H.at_ (v := .int .u32 (a : Int)) 0 rfl
        have H_1 := H.at_ (v := .int .i64 p) 1 rfl
        have H_2 := H.at_ (v := .slice A n c) 2 rfl
        have H_3 := H.at_ (v := .int .i64 sh) 3 rfl
        have H_4 := H.at_ (v := .int .i64 wo) 4 rfl
        have H_5 := H.at_ (v := .int .i64 qu) 5 rfl
        have H_6 := H.at_ (v := .int .i64 tr) 6 rfl
        have H_z := H.lt
        have J_0 := J.at_ (v := .int .i64 4) 0 rfl
        have J_1 := J.at_ (v := .int .u32 (X : Int)) 1 rfl
        have J_2 := J.at_ (v := .slice B2 (j + 1) b2) 2 rfl
        have J_z := J.lt
        go_wp2_with fail
        refine (check_is (k := 4) (X := X) (v := V) hL ha hM h hn Q (by omega) hX hW2.out hV.out).mono ?_
        rintro e w22 ⟨rfl, K'⟩
        clear H_0 H_1 H_2 H_3 H_4 H_5 H_6 H_z
        clear J_0 J_1 J_2 J_z
        replace H := H.below K'
        replace J := J.below K'
        replace Q := Q.below K'
        replace hL := hL.below K'
        replace h := h.below K'
        replace K := Below.then_ K K'
        clear K'
        have hlen2 : (ys ++ [(Y : Int)]).length = j + 1 := by rw [List.length_append, hl.out]; rfl
        rcases Nat.lt_or_ge 63 j with b64 | b64
        · obtain rfl : V = 1 := by rw [← hV.out]; exact askE_much (by omega)
          go_wp2
          go_ret
          exact ⟨rfl, K⟩
        have hV2 : V = if F = 0 then (if (Y : Int) ∈ ys then 8 else 0) else F := by
          rw [← hV.out, askE_batch (by omega) (by omega), chk_snoc _ hok.out, ← hF.out]
          simp
        clear hlen2
        by_cases hF0 : F = 0
        · subst hF0
          rw [if_pos rfl] at hV2
          cases st with
          | true =>
            rw [if_pos (of_decide_eq_true hst.out)] at hV2
            subst hV2
            go_wp2
            go_ret
            exact ⟨rfl, K⟩
          | false =>
            rw [if_neg (of_decide_eq_false hst.out)] at hV2
            subst hV2
            go_wp2
            go_ret
            exact ⟨rfl, K⟩
        · rw [if_neg hF0] at hV2
          subst hV2
          have e1 : (V != 0) = true := by simp [hF0]
          have e2 : (V == V) = true := by simp
          clear hF0
          go_wp2
          go_ret
          exact ⟨rfl, K⟩
      · have n4 : (k != 4) = true := by simp [n4_]
        have hl1 : j ≤ 1 := by
          rw [← hRl.out, ← hl9.out]; unfold nmI; split <;> simp
        clear n4_
        have G_0 := G.at_ (v := .int .i64 k) 0 rfl
        have G_1 := G.at_ (v := .int .u32 (X : Int)) 1 rfl
        have G_2 := G.at_ (v := .slice B m d) 2 rfl
        have G_z := G.lt
        go_wp2
        go_ret
        exact ⟨ret_bool (by simp; omega), K⟩
theorem walk (a p : Int) (A : Option Addr) (n c : Nat) (z : List Int) (sh wo qu tr k x : Int) (B : Option Addr) (m d : Nat) (y : List Int) (o : Int) (w : World) (hL : Laid w) (wa : (Lit.int .u32 a).wf = true) (wr : IsRow .i64 w A n c z) (wx : (Lit.int .u32 x).wf = true) (ws : IsRow .u32 w B m d y) (wo_ : (Lit.int .u32 o).wf = true) :
    Calls Tryd.prog 4 #[.agg #[.int .u32 a, .int .i64 p, .slice A n c, .int .i64 sh, .int .i64 wo, .int .i64 qu, .int .i64 tr], .agg #[.int .i64 k, .int .u32 x, .slice B m d], .int .u32 o] w fun e w' => e = .returned (.bool true) ∧ Below w.heap.size w w' := by
  obtain ⟨a, rfl, ha⟩ := wf_u32 wa
  obtain ⟨X, rfl, hX⟩ := wf_u32 wx
  obtain ⟨Y, rfl, hY⟩ := wf_u32 wo_
  obtain ⟨zs, h, _⟩ := IS.of_row wr
  obtain ⟨ys, hs, hw⟩ := row_u32 ws
  exact main hL ha h hs hX hw hY
end
end Go.Proofs.YtfjnlackbmdncaaDoor.askFirst
