/-
  The walk of the law AskKeeps: for every configuration and request it answers true.
-/
import Derived.Test.YtfjnlackbmdncaaDoorAskOpen
namespace Go.Proofs.YtfjnlackbmdncaaDoor.askKeeps
open Go.RowKit
set_option linter.unusedVariables false
section
variable {w : World} {lo lo2 lo3 a m d m2 d2 X X2 : Nat} {p sh wo qu tr k k2 : Int} {A B B2 : Option Addr} {n c : Nat} {zs ys ys2 : List Int}
set_option maxRecDepth 100000 in
set_option maxHeartbeats 4000000 in
theorem main (hL0 : Laid w) (ha : a < 4294967296) (h0 : IS .i64 lo w A n c zs) (hs0 : IS .u32 lo2 w B m d ys) (hX : X < 4294967296) (hw : W32 ys) :
    Calls Tryd.prog 6 #[.agg #[.int .u32 (a : Int), .int .i64 p, .slice A n c, .int .i64 sh, .int .i64 wo, .int .i64 qu, .int .i64 tr], .agg #[.int .i64 k, .int .u32 (X : Int), .slice B m d]] w (RetBo true w) := by
  have hL := hL0
  have h := h0
  have hs := hs0
  have hgw : w.heap.size ≤ w.heap.size := Nat.le_refl _
  have K := Below.refl w.heap.size w
  go_enter Tryd.func6, Tryd.ntmps6
  go_upto_region 1 with (fail)
  replace hL := hL.below (below_alloc _ (.cells #[.int .u32 (a : Int), .int .i64 p, .slice A n c, .int .i64 sh, .int .i64 wo, .int .i64 qu, .int .i64 tr] 27))
  replace h := h.below (below_alloc _ (.cells #[.int .u32 (a : Int), .int .i64 p, .slice A n c, .int .i64 sh, .int .i64 wo, .int .i64 qu, .int .i64 tr] 27))
  replace hs := hs.below (below_alloc _ (.cells #[.int .u32 (a : Int), .int .i64 p, .slice A n c, .int .i64 sh, .int .i64 wo, .int .i64 qu, .int .i64 tr] 27))
  replace K := Below.then_ K (below_alloc _ (.cells #[.int .u32 (a : Int), .int .i64 p, .slice A n c, .int .i64 sh, .int .i64 wo, .int .i64 qu, .int .i64 tr] 27))
  have H := Bk.new (w) #[.int .u32 (a : Int), .int .i64 p, .slice A n c, .int .i64 sh, .int .i64 wo, .int .i64 qu, .int .i64 tr] 27
  replace H := H.alloc (.cells #[.int .i64 k, .int .u32 (X : Int), .slice B m d] 30)
  replace hL := hL.below (below_alloc _ (.cells #[.int .i64 k, .int .u32 (X : Int), .slice B m d] 30))
  replace h := h.below (below_alloc _ (.cells #[.int .i64 k, .int .u32 (X : Int), .slice B m d] 30))
  replace hs := hs.below (below_alloc _ (.cells #[.int .i64 k, .int .u32 (X : Int), .slice B m d] 30))
  replace K := Below.then_ K (below_alloc _ (.cells #[.int .i64 k, .int .u32 (X : Int), .slice B m d] 30))
  have G := Bk.new ((w).alloc (.cells #[.int .u32 (a : Int), .int .i64 p, .slice A n c, .int .i64 sh, .int .i64 wo, .int .i64 qu, .int .i64 tr] 27)) #[.int .i64 k, .int .u32 (X : Int), .slice B m d] 30
  try simp only [World.size_alloc] at H G
  generalize ((w).alloc (.cells #[.int .u32 (a : Int), .int .i64 p, .slice A n c, .int .i64 sh, .int .i64 wo, .int .i64 qu, .int .i64 tr] 27)).alloc (.cells #[.int .i64 k, .int .u32 (X : Int), .slice B m d] 30) = w1 at H G hL h hs K ⊢
  generalize w.heap.size + 1 = gG at H G ⊢
  generalize w.heap.size = gH at H G ⊢
  have hGH : gH ≠ gG := by intro e; subst e; have := H; unfold Bk at this G; rw [this] at G; cases G
  replace hw := Lib.hid hw
  go_wp2_with fail
  refine (awake_any _ hL).mono ?_
  rintro e w2 ⟨rfl, K'⟩
  replace H := H.below K'
  replace G := G.below K'
  replace hL := hL.below K'
  replace h := h.below K'
  replace hs := hs.below K'
  replace K := Below.then_ K K'
  clear K'
  have H_0 := H.at_ (v := .int .u32 (a : Int)) 0 rfl
  have H_1 := H.at_ (v := .int .i64 p) 1 rfl
  have H_2 := H.at_ (v := .slice A n c) 2 rfl
  have H_3 := H.at_ (v := .int .i64 sh) 3 rfl
  have H_4 := H.at_ (v := .int .i64 wo) 4 rfl
  have H_5 := H.at_ (v := .int .i64 qu) 5 rfl
  have H_6 := H.at_ (v := .int .i64 tr) 6 rfl
  have H_z := H.lt
  go_wp2_with fail
  refine (rmay5_any ha h).mono ?_
  rintro e w3 ⟨bo, rfl, hB, K'⟩
  clear H_0 H_1 H_2 H_3 H_4 H_5 H_6 H_z
  replace H := H.below K'
  replace G := G.below K'
  replace hL := hL.below K'
  replace h := h.below K'
  replace hs := hs.below K'
  replace K := Below.then_ K K'
  clear K'
  rcases bo with _ | _
  · clear hB
    go_wp2_with fail
    refine (awake_any _ hL).mono ?_
    rintro e w4 ⟨rfl, K'⟩
    replace H := H.below K'
    replace G := G.below K'
    replace hL := hL.below K'
    replace h := h.below K'
    replace hs := hs.below K'
    replace K := Below.then_ K K'
    clear K'
    go_wp2
    go_ret
    exact ⟨rfl, K⟩
  obtain ⟨M, hC⟩ := hB rfl
  clear hB
  have hM := hC.much
  have hn : n ≤ 65536 := by have := hC.few; omega
  have hMm := hM.most
  have G_0 := G.at_ (v := .int .i64 k) 0 rfl
  have G_1 := G.at_ (v := .int .u32 (X : Int)) 1 rfl
  have G_2 := G.at_ (v := .slice B m d) 2 rfl
  have G_z := G.lt
  rcases Nat.lt_or_ge 100 m with hfG | hfG
  · go_wp2_with fail
    refine (few_no hs (Nat.not_le.2 hfG)).mono ?_
    rintro e w4 ⟨rfl, K'⟩
    replace H := H.below K'
    replace G := G.below K'
    replace hL := hL.below K'
    replace h := h.below K'
    replace hs := hs.below K'
    replace K := Below.then_ K K'
    clear K'
    clear G_0 G_1 G_2 G_z
    go_wp2_with fail
    refine (awake_any _ hL).mono ?_
    rintro e w5 ⟨rfl, K'⟩
    replace H := H.below K'
    replace G := G.below K'
    replace hL := hL.below K'
    replace h := h.below K'
    replace hs := hs.below K'
    replace K := Below.then_ K K'
    clear K'
    go_wp2
    go_ret
    exact ⟨rfl, K⟩
  go_wp2_with fail
  refine (few_yes hs hfG).mono ?_
  rintro e w4 ⟨rfl, K'⟩
  replace H := H.below K'
  replace G := G.below K'
  replace hL := hL.below K'
  replace h := h.below K'
  replace hs := hs.below K'
  replace K := Below.then_ K K'
  clear K'
  clear G_0 G_1 G_2 G_z
  have Hlt := H.lt
  have Glt := G.lt
  have hl := Lib.hid hs.len
  have h4 : gH < w4.heap.size := H.lt
  have h5 : gG < w4.heap.size := G.lt
  have h6 := K.size
  have G_0 := G.at_ (v := .int .i64 k) 0 rfl
  have G_1 := G.at_ (v := .int .u32 (X : Int)) 1 rfl
  have G_2 := G.at_ (v := .slice B m d) 2 rfl
  have G_z := G.lt
  go_upto_region 4 with (first | (refine wpList_store_row rfl 30 (.tmp 5) (.tmp 21) rfl _ _ rfl (show _ = Value.agg #[.int .i64 k, .int .u32 (X : Int), .slice B m d] from rfl) _ _ (Bk.new _ _ _) ak_sz rfl (by simp [Value.oneCell']) ?_))
  try rw [World.setRow_alloc_new]
  clear G_0 G_1 G_2 G_z
  replace H := H.alloc (.cells #[.int .i64 k, .int .u32 (X : Int), .slice B m d] 30)
  replace G := G.alloc (.cells #[.int .i64 k, .int .u32 (X : Int), .slice B m d] 30)
  replace hL := hL.below (below_alloc _ (.cells #[.int .i64 k, .int .u32 (X : Int), .slice B m d] 30))
  replace h := h.below (below_alloc _ (.cells #[.int .i64 k, .int .u32 (X : Int), .slice B m d] 30))
  replace hs := hs.below (below_alloc _ (.cells #[.int .i64 k, .int .u32 (X : Int), .slice B m d] 30))
  replace K := Below.then_ K (below_alloc _ (.cells #[.int .i64 k, .int .u32 (X : Int), .slice B m d] 30))
  have O := Bk.new (w4) #[.int .i64 k, .int .u32 (X : Int), .slice B m d] 30
  try simp only [World.size_alloc] at O
  generalize (w4).alloc (.cells #[.int .i64 k, .int .u32 (X : Int), .slice B m d] 30) = w5 at H G O hL h hs K ⊢
  generalize w4.heap.size = gO at O h4 h5 h6 ⊢
  have hHO : gH ≠ gO := by omega
  have hGO : gG ≠ gO := by omega
  have hOw : w.heap.size ≤ gO := by omega
  have hOlt := O.lt
  have KW := K.size
  obtain ⟨i0, hi, hz0, hz1, hz2⟩ := info_parts u32_info
  have hown : Ri .u32 22 (w5.alloc (.cells #[] 22)) w5.heap.size (.slice (some ⟨w5.heap.size, 0, none⟩) 0 0) 0 [] := World.ownsRow_lit w5 #[] 0 (Nat.le_refl _) (by unfold maxLen; omega) rfl
  have Ka := below_alloc w5 (.cells #[] 22)
  obtain ⟨B1, b1, wq, hap, R1, K1⟩ := run_app (P := Tryd.prog) Tryd.underlying28 hi hz0 hz1 (by omega) hown (hs.below Ka) (by omega) Ka.size 28
  rw [Nat.zero_add] at hap R1
  rw [List.nil_append] at R1
  have HA := Lib.hid hap
  have K' := Ka.trans K1
  have Q := R1.is
  have O_2 := (O.below K').at_ (v := .slice B m d) 2 rfl
  have O_z := (O.below K').lt
  have O_f := (O.below K').fz 2
  have G_0 := G.at_ (v := .int .i64 k) 0 rfl
  have G_1 := G.at_ (v := .int .u32 (X : Int)) 1 rfl
  have G_2 := G.at_ (v := .slice B m d) 2 rfl
  have G_z := G.lt
  clear hap hi hz0 hz1 hz2 hown
  go_upto_region 5 with (first | (at_builtin; refine wpList_append_run rfl (.tmp 22) (.tmp 24) 28 rfl _ _ _ _ rfl rfl HA.out ?_))
  clear G_0 G_1 G_2 G_z
  replace H := H.below K'
  replace G := G.below K'
  replace O := O.below K'
  replace hL := hL.below K'
  replace h := h.below K'
  replace hs := hs.below K'
  replace K := Below.then_ K K'
  clear K'
  clear O_2 O_z O_f HA
  replace K := K.setCell (p := ⟨gO, 2, none⟩) hOw (.slice B1 m b1)
  replace H := H.far (p := ⟨gO, 2, none⟩) hHO (.slice B1 m b1)
  replace G := G.far (p := ⟨gO, 2, none⟩) hGO (.slice B1 m b1)
  replace O : Bk (wq.setCell ⟨gO, 2, none⟩ (.slice B1 m b1)) gO 30 #[.int .i64 k, .int .u32 (X : Int), .slice B1 m b1] := O.set_ 2 (.slice B1 m b1)
  replace Q := Q.set_low (p := ⟨gO, 2, none⟩) hOlt (.slice B1 m b1)
  clear hL h hs K1 R1 Ka
  generalize wq.setCell ⟨gO, 2, none⟩ (.slice B1 m b1) = w6 at H G O Q K ⊢
  have hL := hL0.below K
  have h := h0.below K
  have hs := hs0.below K
  have Olt := O.lt
  have K6 := K
  have KB := Below.refl w6.heap.size w6
  have G6 := G
  have O6 := O
  have Q6 := Q
  have hs6 := hs
  have O_0 := O.at_ (v := .int .i64 k) 0 rfl
  have O_1 := O.at_ (v := .int .u32 (X : Int)) 1 rfl
  have O_2 := O.at_ (v := .slice B1 m b1) 2 rfl
  have O_z := O.lt
  go_wp2_with fail
  refine (names_any (k := k) (x := X) hL Q (by omega)).mono ?_
  rintro e w7 ⟨RA, Rn, Rc, rfl, R, K'⟩
  clear O_0 O_1 O_2 O_z
  replace H := H.below K'
  replace G := G.below K'
  replace O := O.below K'
  replace Q := Q.below K'
  replace hL := hL.below K'
  replace h := h.below K'
  replace hs := hs.below K'
  replace KB := Below.then_ KB K'
  replace K := Below.then_ K K'
  clear K'
  have H_0 := H.at_ (v := .int .u32 (a : Int)) 0 rfl
  have H_1 := H.at_ (v := .int .i64 p) 1 rfl
  have H_2 := H.at_ (v := .slice A n c) 2 rfl
  have H_3 := H.at_ (v := .int .i64 sh) 3 rfl
  have H_4 := H.at_ (v := .int .i64 wo) 4 rfl
  have H_5 := H.at_ (v := .int .i64 qu) 5 rfl
  have H_6 := H.at_ (v := .int .i64 tr) 6 rfl
  have H_z := H.lt
  have O_0 := O.at_ (v := .int .i64 k) 0 rfl
  have O_1 := O.at_ (v := .int .u32 (X : Int)) 1 rfl
  have O_2 := O.at_ (v := .slice B1 m b1) 2 rfl
  have O_z := O.lt
  go_wp2_with fail
  refine (check_any (k := k) (X := X) hL ha hM h hn Q (by omega) hX hw.out).mono ?_
  rintro e w8 ⟨rfl, K'⟩
  clear H_0 H_1 H_2 H_3 H_4 H_5 H_6 H_z
  clear O_0 O_1 O_2 O_z
  replace H := H.below K'
  replace G := G.below K'
  replace O := O.below K'
  replace Q := Q.below K'
  replace hL := hL.below K'
  replace h := h.below K'
  replace hs := hs.below K'
  replace R := R.below K'
  replace KB := Below.then_ KB K'
  replace K := Below.then_ K K'
  clear K'
  have hRn : Rn ≤ 100 := by have := R.len; have := nmI_len (k := k) (x := (X : Int)) (ys := ys) (n := 100) (by have := hl.out; omega) (by omega); omega
  have R0 := Lib.hid R.open_
  clear R Q hs h hL H G O hL0 h0 hs0
  go_wp2
  go_loopw [7] (fun i wr => ∃ j : Nat, j ≤ Rn ∧ i = .int .i64 j ∧ Below w6.heap.size w6 wr ∧ Hid (Rn = 0 ∨ ∃ g cur, RA = some ⟨g, 0, none⟩ ∧ w6.heap.size ≤ g ∧ Bk wr g 22 cur ∧ Rn ≤ cur.size)) (fun i _ => Rn - (intOf i).toNat)
  case atStart => exact ⟨0, Nat.zero_le _, rfl, KB, R0⟩
  clear R0 KB K
  case round =>
    obtain ⟨j, hj, rfl, Kr, R⟩ := hrel
    by_cases hlt : j < Rn
    · obtain h | ⟨g, cur, rfl, hg, hb, hc⟩ := R.out
      · omega
      have c0 := hb.at_ j (v := cur[j]) (by simp [show j < cur.size by omega])
      have c1 := hb.fz j
      have c2 := hb.lt
      go_wp2
      go_roundw
      case rel => exact ⟨j + 1, by omega, by go_num, Kr.setCell (p := ⟨g, j, none⟩) hg _, Lib.hid (.inr ⟨g, _, rfl, hg, hb.set_ j _, by simpa using hc⟩)⟩
      case measure => simp [intOf]; omega
    · have G := G6.below Kr
      have O := O6.below Kr
      have G_0 := G.at_ (v := .int .i64 k) 0 rfl
      have G_1 := G.at_ (v := .int .u32 (X : Int)) 1 rfl
      have G_2 := G.at_ (v := .slice B m d) 2 rfl
      have G_z := G.lt
      have O_0 := O.at_ (v := .int .i64 k) 0 rfl
      have O_1 := O.at_ (v := .int .u32 (X : Int)) 1 rfl
      have O_2 := O.at_ (v := .slice B1 m b1) 2 rfl
      have O_z := O.lt
      go_wp2_with fail
      refine (asks_self (k := k) (x := (X : Int)) (Q6.below Kr) (hs6.below Kr) (by omega) (by omega)).mono ?_
      rintro e wz ⟨rfl, K'⟩
      go_wp2
      go_ret
      exact ⟨rfl, Below.then_ K6 (Below.then_ Kr K')⟩
theorem walk (a p : Int) (A : Option Addr) (n c : Nat) (z : List Int) (sh wo qu tr k x : Int) (B : Option Addr) (m d : Nat) (y : List Int) (w : World) (hL : Laid w) (wa : (Lit.int .u32 a).wf = true) (wr : IsRow .i64 w A n c z) (wx : (Lit.int .u32 x).wf = true) (ws : IsRow .u32 w B m d y) :
    Calls Tryd.prog 6 #[.agg #[.int .u32 a, .int .i64 p, .slice A n c, .int .i64 sh, .int .i64 wo, .int .i64 qu, .int .i64 tr], .agg #[.int .i64 k, .int .u32 x, .slice B m d]] w fun e w' => e = .returned (.bool true) ∧ Below w.heap.size w w' := by
  obtain ⟨a, rfl, ha⟩ := wf_u32 wa
  obtain ⟨X, rfl, hX⟩ := wf_u32 wx
  obtain ⟨zs, h, _⟩ := IS.of_row wr
  obtain ⟨ys, hs, hw⟩ := row_u32 ws
  exact main hL ha h hs hX hw
end
end Go.Proofs.YtfjnlackbmdncaaDoor.askKeeps
