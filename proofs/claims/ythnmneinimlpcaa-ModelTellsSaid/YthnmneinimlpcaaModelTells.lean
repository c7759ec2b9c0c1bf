/-
  The walk of the law ModelTells: for every configuration, cells and list it answers true.
-/
import Derived.Test.YthnmneinimlpcaaModelFits
namespace Go.Proofs.Ythnmneinimlpcaa.modelTells
open Go.RowKit
set_option linter.unusedVariables false
section
variable {w : World} {lo lo2 a m d M m2 d2 : Nat} {p sh wo qu tr : Int} {A B B2 : Option Addr} {n c : Nat} {zs xs : List Int} {ys : List Nat}
set_option maxRecDepth 100000 in
set_option maxHeartbeats 2000000 in
theorem main (ha : a < 4294967296) (h : IS .i64 lo w A n c zs) (hU : US w B m d ys) (hs : IS .i64 lo2 w B2 m2 d2 xs) :
    Calls Try.prog 4 #[.agg #[.int .u32 a, .int .i64 p, .slice A n c, .int .i64 sh, .int .i64 wo, .int .i64 qu, .int .i64 tr], .slice B m d, .slice B2 m2 d2] w (RetBo true w) := by
  have hl := hs.len
  have K := below_alloc w (.cells #[.int .u32 a, .int .i64 p, .slice A n c, .int .i64 sh, .int .i64 wo, .int .i64 qu, .int .i64 tr] 27)
  have H := Bk.new w #[.int .u32 a, .int .i64 p, .slice A n c, .int .i64 sh, .int .i64 wo, .int .i64 qu, .int .i64 tr] 27
  replace h := h.below K
  replace hU := hU.below K
  replace hs := hs.below K
  go_enter Try.func4, Try.ntmps4
  go_upto_region 1 with (fail)
  generalize w.alloc (.cells #[.int .u32 a, .int .i64 p, .slice A n c, .int .i64 sh, .int .i64 wo, .int .i64 qu, .int .i64 tr] 27) = w1 at H K h hU hs ⊢
  generalize w.heap.size = g at H ⊢
  go_wp2_with fail
  refine (awake_any _).mono ?_
  rintro e w2 ⟨rfl, K'⟩
  replace H := H.below K'
  replace h := h.below K'
  replace hU := hU.below K'
  replace hs := hs.below K'
  replace K := Below.then_ K K'
  clear K'
  have H_0 := H.at_ (v := .int .u32 a) 0 rfl
  have H_1 := H.at_ (v := .int .i64 p) 1 rfl
  have H_2 := H.at_ (v := .slice A n c) 2 rfl
  have H_3 := H.at_ (v := .int .i64 sh) 3 rfl
  have H_4 := H.at_ (v := .int .i64 wo) 4 rfl
  have H_5 := H.at_ (v := .int .i64 qu) 5 rfl
  have H_6 := H.at_ (v := .int .i64 tr) 6 rfl
  have H_z := H.lt
  go_wp2_with fail
  refine (fits9_any ha h).mono ?_
  rintro e w3 ⟨bo, rfl, hB, K'⟩
  clear H_0 H_1 H_2 H_3 H_4 H_5 H_6 H_z
  replace H := H.below K'
  replace h := h.below K'
  replace hU := hU.below K'
  replace hs := hs.below K'
  replace K := Below.then_ K K'
  clear K'
  rcases bo with _ | _
  · clear hB
    go_wp2_with fail
    refine (awake_any _).mono ?_
    rintro e w4 ⟨rfl, K'⟩
    replace H := H.below K'
    replace h := h.below K'
    replace hU := hU.below K'
    replace hs := hs.below K'
    replace K := Below.then_ K K'
    clear K'
    go_wp2
    go_ret
    exact ⟨rfl, K⟩
  obtain ⟨M, hC, hM4, hmm⟩ := hB rfl
  clear hB
  replace hmm := Lib.hid hmm
  have hM := hC.much
  have hn := hC.few
  have hr := Lib.hid hC.ris
  have hmv := Lib.hid (show lv M ≤ m by have := hmm.out; omega)
  have hm6 : m ≤ 65536 := by have := hmm.out; have := lv_le hM.most; have := tv_le hM.most; omega
  by_cases h3 : 300 < m2
  · have f1 : decide ((300 : Int) < (m2 : Int)) = true := by simp; omega
    go_wp2_with fail
    refine (awake_any _).mono ?_
    rintro e w5 ⟨rfl, K'⟩
    replace H := H.below K'
    replace h := h.below K'
    replace hU := hU.below K'
    replace hs := hs.below K'
    replace K := Below.then_ K K'
    clear K'
    go_wp2
    go_ret
    exact ⟨rfl, K⟩
  have f1 : decide ((300 : Int) < (m2 : Int)) = false := by simp; omega
  go_upto_region 3 with (fail)
  have TM := Lib.hid fun w (h : IS .i64 lo w A n c zs) (hU : US w B m d ys) => mof_any (sh := sh) (wo := wo) (qu := qu) (tr := tr) ha hM h (by omega) hr.out hU hmv.out hm6
  have TR := Lib.hid fun w (h : IS .i64 lo w A n c zs) (hU : US w B m d ys) => rof_any (sh := sh) (wo := wo) (qu := qu) (tr := tr) hM h (by omega) hU hmv.out hm6
  have hos := len_os (uf zs ys) M
  refine wp_region_held_drew (S := fun w' => Below w3.heap.size w3 w') (by kernel_rfl) (Below.refl _ _).drew (fun hHeld => ?_)
  refine wpAnyH_take (i := 0) (oi := ⟨some 21, _, _, _, _, _⟩) (v := ?_) rfl (by kernel_rfl) (by kernel_rfl) (by kernel_rfl) (fun _ _ _ h => h) (Or.inl ⟨by rfl, ?_⟩) hHeld ?_
  rotate_left
  · intro ww hSw
    try dsimp only at hSw
    have H_0 := (H.below hSw).at_ (v := .int .u32 a) 0 rfl
    have H_1 := (H.below hSw).at_ (v := .int .i64 p) 1 rfl
    have H_2 := (H.below hSw).at_ (v := .slice A n c) 2 rfl
    have H_3 := (H.below hSw).at_ (v := .int .i64 sh) 3 rfl
    have H_4 := (H.below hSw).at_ (v := .int .i64 wo) 4 rfl
    have H_5 := (H.below hSw).at_ (v := .int .i64 qu) 5 rfl
    have H_6 := (H.below hSw).at_ (v := .int .i64 tr) 6 rfl
    go_simp
    try with_reducible rfl
    try omega
  try simp only [Act.put, List.setIfInBounds_toArray, List.set_cons_zero, List.set_cons_succ]
  refine wpAnyH_take (i := 1) (oi := ⟨some 22, _, _, _, _, _⟩) (v := ?_) rfl (by kernel_rfl) (by kernel_rfl) (by kernel_rfl) (fun _ _ _ h => h) (Or.inl ⟨by rfl, ?_⟩) hHeld ?_
  rotate_left
  · intro ww hSw
    try dsimp only at hSw
    go_simp
    try with_reducible rfl
    try omega
  try simp only [Act.put, List.setIfInBounds_toArray, List.set_cons_zero, List.set_cons_succ]
  refine wpAnyH_take (i := 3) (oi := ⟨some 24, _, _, _, _, _⟩) (v := ?_) rfl (by kernel_rfl) (by kernel_rfl) (by kernel_rfl) (fun _ _ _ h => h) (Or.inl ⟨by rfl, ?_⟩) hHeld ?_
  rotate_left
  · intro ww hSw
    try dsimp only at hSw
    have H_0 := (H.below hSw).at_ (v := .int .u32 a) 0 rfl
    have H_1 := (H.below hSw).at_ (v := .int .i64 p) 1 rfl
    have H_2 := (H.below hSw).at_ (v := .slice A n c) 2 rfl
    have H_3 := (H.below hSw).at_ (v := .int .i64 sh) 3 rfl
    have H_4 := (H.below hSw).at_ (v := .int .i64 wo) 4 rfl
    have H_5 := (H.below hSw).at_ (v := .int .i64 qu) 5 rfl
    have H_6 := (H.below hSw).at_ (v := .int .i64 tr) 6 rfl
    go_simp
    try with_reducible rfl
    try omega
  try simp only [Act.put, List.setIfInBounds_toArray, List.set_cons_zero, List.set_cons_succ]
  refine wpAnyH_take (i := 4) (oi := ⟨some 25, _, _, _, _, _⟩) (v := ?_) rfl (by kernel_rfl) (by kernel_rfl) (by kernel_rfl) (fun _ _ _ h => h) (Or.inl ⟨by rfl, ?_⟩) hHeld ?_
  rotate_left
  · intro ww hSw
    try dsimp only at hSw
    go_simp
    try with_reducible rfl
    try omega
  try simp only [Act.put, List.setIfInBounds_toArray, List.set_cons_zero, List.set_cons_succ]
  refine wpAnyH_ready (rs := [2]) (by kernel_rfl) (by simp) ?_
  refine AllReadyH.cons (o := ⟨some 23, _, _, _, _, _⟩) rfl (fun K0 hK => ?_) AllReadyH.nil
  go_simp
  refine (TM.out _ (h.below hHeld) (hU.below hHeld)).mono ?_
  rintro e ww ⟨IA, In, Ic, rfl, I, K'⟩
  refine hK.out _ _ (Below.then_ hHeld K') (fun hHeld' => ?_)
  clear hHeld K' hK K0
  have hHeld := hHeld'
  clear hHeld'
  try simp only [Act.put, List.setIfInBounds_toArray, List.set_cons_zero, List.set_cons_succ]
  refine wpAnyH_ready (rs := [5]) (by kernel_rfl) (by simp) ?_
  refine AllReadyH.cons (o := ⟨some 26, _, _, _, _, _⟩) rfl (fun K0 hK => ?_) AllReadyH.nil
  go_simp
  refine (TR.out _ (h.below hHeld) (hU.below hHeld)).mono ?_
  rintro e ww ⟨JA, Jn, Jc, rfl, J, K'⟩
  replace I := I.below K'
  refine hK.out _ _ (Below.then_ hHeld K') (fun hHeld' => ?_)
  clear hHeld K' hK K0
  have hHeld := hHeld'
  clear hHeld'
  try simp only [Act.put, List.setIfInBounds_toArray, List.set_cons_zero, List.set_cons_succ]
  refine wpAnyH_ready (rs := [6]) (by kernel_rfl) (by simp) ?_
  refine AllReadyH.cons (o := ⟨some 27, _, _, _, _, _⟩) rfl (fun K0 hK => ?_) AllReadyH.nil
  go_simp
  refine (ints_same I J (by have := I.len; omega)).mono ?_
  rintro e ww ⟨rfl, K'⟩
  replace I := I.below K'
  replace J := J.below K'
  refine hK.out _ _ (Below.then_ hHeld K') (fun hHeld' => ?_)
  clear hHeld K' hK K0
  have hHeld := hHeld'
  clear hHeld'
  try simp only [Act.put, List.setIfInBounds_toArray, List.set_cons_zero, List.set_cons_succ]
  refine wpAnyH_take (i := 7) (oi := ⟨some 28, _, _, _, _, _⟩) (v := ?_) rfl (by kernel_rfl) (by kernel_rfl) (by kernel_rfl) (fun _ _ _ h => h) (Or.inl ⟨by rfl, ?_⟩) hHeld ?_
  rotate_left
  · intro ww hSw
    try dsimp only at hSw
    go_simp
    try with_reducible rfl
    try omega
  try simp only [Act.put, List.setIfInBounds_toArray, List.set_cons_zero, List.set_cons_succ]
  refine wpAnyH_done (by kernel_rfl) ?_ _
  replace H := H.below hHeld
  replace h := h.below hHeld
  replace hU := hU.below hHeld
  replace hs := hs.below hHeld
  replace K := Below.then_ K hHeld
  clear hHeld
  clear I J TM TR hos
  obtain ⟨bm, hbm⟩ : ∃ bm, mayR M zs 0 xs = bm := ⟨_, rfl⟩
  have T := rmay9_any (sh := sh) (wo := wo) (qu := qu) (tr := tr) hM h (by omega) hs (by omega)
  rw [hbm] at T
  replace T := Lib.hid T
  have H_0 := H.at_ (v := .int .u32 a) 0 rfl
  have H_1 := H.at_ (v := .int .i64 p) 1 rfl
  have H_2 := H.at_ (v := .slice A n c) 2 rfl
  have H_3 := H.at_ (v := .int .i64 sh) 3 rfl
  have H_4 := H.at_ (v := .int .i64 wo) 4 rfl
  have H_5 := H.at_ (v := .int .i64 qu) 5 rfl
  have H_6 := H.at_ (v := .int .i64 tr) 6 rfl
  have H_z := H.lt
  go_wp2_with fail
  refine (T.out).mono ?_
  rintro e w6 ⟨rfl, K'⟩
  clear H_0 H_1 H_2 H_3 H_4 H_5 H_6 H_z
  replace H := H.below K'
  replace h := h.below K'
  replace hU := hU.below K'
  replace hs := hs.below K'
  replace K := Below.then_ K K'
  clear K'
  clear T
  rcases bm with _ | _
  · clear hbm
    go_wp2
    go_ret
    exact ⟨rfl, K⟩
  replace hbm := Lib.hid hbm
  have H_0 := H.at_ (v := .int .u32 a) 0 rfl
  have H_1 := H.at_ (v := .int .i64 p) 1 rfl
  have H_2 := H.at_ (v := .slice A n c) 2 rfl
  have H_3 := H.at_ (v := .int .i64 sh) 3 rfl
  have H_4 := H.at_ (v := .int .i64 wo) 4 rfl
  have H_5 := H.at_ (v := .int .i64 qu) 5 rfl
  have H_6 := H.at_ (v := .int .i64 tr) 6 rfl
  have H_z := H.lt
  go_wp2_with fail
  refine (rmany_yes hM).mono ?_
  rintro e w7 ⟨rfl, K'⟩
  clear H_0 H_1 H_2 H_3 H_4 H_5 H_6 H_z
  replace H := H.below K'
  replace h := h.below K'
  replace hU := hU.below K'
  replace hs := hs.below K'
  replace K := Below.then_ K K'
  clear K'
  by_cases h4 : 1024 < M
  · have f2 : decide ((1024 : Int) < (M : Int)) = true := by simp; omega
    go_wp2
    go_ret
    exact ⟨rfl, K⟩
  have f2 : decide ((1024 : Int) < (M : Int)) = false := by simp; omega
  go_upto_region 7 with (fail)
  obtain ⟨bf, hbf⟩ : ∃ bf, fullB M zs xs = bf := ⟨_, rfl⟩
  have TF := fun w (h : IS .i64 lo w A n c zs) (hs : IS .i64 lo2 w B2 m2 d2 xs) => mfull_any (sh := sh) (wo := wo) (qu := qu) (tr := tr) ha hM h (by omega) hr.out hs hbm.out
  have TG := fun w (h : IS .i64 lo w A n c zs) (hs : IS .i64 lo2 w B2 m2 d2 xs) => rfull_any (sh := sh) (wo := wo) (qu := qu) (tr := tr) hM h (by omega) hs (by omega)
  rw [hbf] at TF TG
  clear hbf
  replace TF := Lib.hid TF
  replace TG := Lib.hid TG
  have f3 : (bf == bf) = true := by simp
  have hx := Lib.hid (show ∀ x ∈ xs, 0 ≤ x ∧ x ≤ 65536 from fun x hx => by have := (mayR_iff.1 hbm.out).2 x hx; omega)
  have TA := Lib.hid fun w (hs : IS .i64 lo2 w B2 m2 d2 xs) => maddrs_any (w := w) (a := a) (p := p) (sh := sh) (wo := wo) (qu := qu) (tr := tr) (A := A) (n := n) (c := c) hs (by omega) hx.out
  have TB := Lib.hid fun w (hs : IS .i64 lo2 w B2 m2 d2 xs) => raddrs_any (w := w) (a := a) (p := p) (sh := sh) (wo := wo) (qu := qu) (tr := tr) (A := A) (n := n) (c := c) hs (by omega) hx.out
  refine wp_region_held_drew (S := fun w' => Below w7.heap.size w7 w') (by kernel_rfl) (Below.refl _ _).drew (fun hHeld => ?_)
  refine wpAnyH_take (i := 0) (oi := ⟨some 39, _, _, _, _, _⟩) (v := ?_) rfl (by kernel_rfl) (by kernel_rfl) (by kernel_rfl) (fun _ _ _ h => h) (Or.inl ⟨by rfl, ?_⟩) hHeld ?_
  rotate_left
  · intro ww hSw
    try dsimp only at hSw
    have H_0 := (H.below hSw).at_ (v := .int .u32 a) 0 rfl
    have H_1 := (H.below hSw).at_ (v := .int .i64 p) 1 rfl
    have H_2 := (H.below hSw).at_ (v := .slice A n c) 2 rfl
    have H_3 := (H.below hSw).at_ (v := .int .i64 sh) 3 rfl
    have H_4 := (H.below hSw).at_ (v := .int .i64 wo) 4 rfl
    have H_5 := (H.below hSw).at_ (v := .int .i64 qu) 5 rfl
    have H_6 := (H.below hSw).at_ (v := .int .i64 tr) 6 rfl
    go_simp
    try with_reducible rfl
    try omega
  try simp only [Act.put, List.setIfInBounds_toArray, List.set_cons_zero, List.set_cons_succ]
  refine wpAnyH_take (i := 1) (oi := ⟨some 40, _, _, _, _, _⟩) (v := ?_) rfl (by kernel_rfl) (by kernel_rfl) (by kernel_rfl) (fun _ _ _ h => h) (Or.inl ⟨by rfl, ?_⟩) hHeld ?_
  rotate_left
  · intro ww hSw
    try dsimp only at hSw
    go_simp
    try with_reducible rfl
    try omega
  try simp only [Act.put, List.setIfInBounds_toArray, List.set_cons_zero, List.set_cons_succ]
  refine wpAnyH_take (i := 3) (oi := ⟨some 42, _, _, _, _, _⟩) (v := ?_) rfl (by kernel_rfl) (by kernel_rfl) (by kernel_rfl) (fun _ _ _ h => h) (Or.inl ⟨by rfl, ?_⟩) hHeld ?_
  rotate_left
  · intro ww hSw
    try dsimp only at hSw
    have H_0 := (H.below hSw).at_ (v := .int .u32 a) 0 rfl
    have H_1 := (H.below hSw).at_ (v := .int .i64 p) 1 rfl
    have H_2 := (H.below hSw).at_ (v := .slice A n c) 2 rfl
    have H_3 := (H.below hSw).at_ (v := .int .i64 sh) 3 rfl
    have H_4 := (H.below hSw).at_ (v := .int .i64 wo) 4 rfl
    have H_5 := (H.below hSw).at_ (v := .int .i64 qu) 5 rfl
    have H_6 := (H.below hSw).at_ (v := .int .i64 tr) 6 rfl
    go_simp
    try with_reducible rfl
    try omega
  try simp only [Act.put, List.setIfInBounds_toArray, List.set_cons_zero, List.set_cons_succ]
  refine wpAnyH_take (i := 4) (oi := ⟨some 43, _, _, _, _, _⟩) (v := ?_) rfl (by kernel_rfl) (by kernel_rfl) (by kernel_rfl) (fun _ _ _ h => h) (Or.inl ⟨by rfl, ?_⟩) hHeld ?_
  rotate_left
  · intro ww hSw
    try dsimp only at hSw
    go_simp
    try with_reducible rfl
    try omega
  try simp only [Act.put, List.setIfInBounds_toArray, List.set_cons_zero, List.set_cons_succ]
  refine wpAnyH_ready (rs := [2]) (by kernel_rfl) (by simp) ?_
  refine AllReadyH.cons (o := ⟨some 41, _, _, _, _, _⟩) rfl (fun K0 hK => ?_) AllReadyH.nil
  go_simp
  refine (TF.out _ (h.below hHeld) (hs.below hHeld)).mono ?_
  rintro e ww ⟨rfl, K'⟩
  refine hK.out _ _ (Below.then_ hHeld K') (fun hHeld' => ?_)
  clear hHeld K' hK K0
  have hHeld := hHeld'
  clear hHeld'
  try simp only [Act.put, List.setIfInBounds_toArray, List.set_cons_zero, List.set_cons_succ]
  refine wpAnyH_ready (rs := [5]) (by kernel_rfl) (by simp) ?_
  refine AllReadyH.cons (o := ⟨some 44, _, _, _, _, _⟩) rfl (fun K0 hK => ?_) AllReadyH.nil
  go_simp
  refine (TG.out _ (h.below hHeld) (hs.below hHeld)).mono ?_
  rintro e ww ⟨rfl, K'⟩
  refine hK.out _ _ (Below.then_ hHeld K') (fun hHeld' => ?_)
  clear hHeld K' hK K0
  have hHeld := hHeld'
  clear hHeld'
  try simp only [Act.put, List.setIfInBounds_toArray, List.set_cons_zero, List.set_cons_succ]
  refine wpAnyH_take (i := 6) (oi := ⟨some 45, _, _, _, _, _⟩) (v := .bool true) rfl (by kernel_rfl) (by kernel_rfl) (by kernel_rfl) (fun _ _ _ h => h) (Or.inl ⟨by rfl, ?_⟩) hHeld ?_
  · intro ww hSw
    try dsimp only at hSw
    go_simp
    try with_reducible rfl
    try omega
  try simp only [Act.put, List.setIfInBounds_toArray, List.set_cons_zero, List.set_cons_succ]
  refine wpAnyH_take (i := 7) (oi := ⟨some 46, _, _, _, _, _⟩) (v := .bool true) rfl (by kernel_rfl) (by kernel_rfl) (by kernel_rfl) (fun _ _ _ h => h) (Or.inl ⟨by rfl, ?_⟩) hHeld ?_
  · intro ww hSw
    try dsimp only at hSw
    go_simp
    try with_reducible rfl
    try omega
  try simp only [Act.put, List.setIfInBounds_toArray, List.set_cons_zero, List.set_cons_succ]
  refine wpAnyH_take (i := 8) (oi := ⟨some 47, _, _, _, _, _⟩) (v := ?_) rfl (by kernel_rfl) (by kernel_rfl) (by kernel_rfl) (fun _ _ _ h => h) (Or.inl ⟨by rfl, ?_⟩) hHeld ?_
  rotate_left
  · intro ww hSw
    try dsimp only at hSw
    have H_0 := (H.below hSw).at_ (v := .int .u32 a) 0 rfl
    have H_1 := (H.below hSw).at_ (v := .int .i64 p) 1 rfl
    have H_2 := (H.below hSw).at_ (v := .slice A n c) 2 rfl
    have H_3 := (H.below hSw).at_ (v := .int .i64 sh) 3 rfl
    have H_4 := (H.below hSw).at_ (v := .int .i64 wo) 4 rfl
    have H_5 := (H.below hSw).at_ (v := .int .i64 qu) 5 rfl
    have H_6 := (H.below hSw).at_ (v := .int .i64 tr) 6 rfl
    go_simp
    try with_reducible rfl
    try omega
  try simp only [Act.put, List.setIfInBounds_toArray, List.set_cons_zero, List.set_cons_succ]
  refine wpAnyH_take (i := 9) (oi := ⟨some 48, _, _, _, _, _⟩) (v := ?_) rfl (by kernel_rfl) (by kernel_rfl) (by kernel_rfl) (fun _ _ _ h => h) (Or.inl ⟨by rfl, ?_⟩) hHeld ?_
  rotate_left
  · intro ww hSw
    try dsimp only at hSw
    go_simp
    try with_reducible rfl
    try omega
  try simp only [Act.put, List.setIfInBounds_toArray, List.set_cons_zero, List.set_cons_succ]
  refine wpAnyH_take (i := 11) (oi := ⟨some 50, _, _, _, _, _⟩) (v := ?_) rfl (by kernel_rfl) (by kernel_rfl) (by kernel_rfl) (fun _ _ _ h => h) (Or.inl ⟨by rfl, ?_⟩) hHeld ?_
  rotate_left
  · intro ww hSw
    try dsimp only at hSw
    have H_0 := (H.below hSw).at_ (v := .int .u32 a) 0 rfl
    have H_1 := (H.below hSw).at_ (v := .int .i64 p) 1 rfl
    have H_2 := (H.below hSw).at_ (v := .slice A n c) 2 rfl
    have H_3 := (H.below hSw).at_ (v := .int .i64 sh) 3 rfl
    have H_4 := (H.below hSw).at_ (v := .int .i64 wo) 4 rfl
    have H_5 := (H.below hSw).at_ (v := .int .i64 qu) 5 rfl
    have H_6 := (H.below hSw).at_ (v := .int .i64 tr) 6 rfl
    go_simp
    try with_reducible rfl
    try omega
  try simp only [Act.put, List.setIfInBounds_toArray, List.set_cons_zero, List.set_cons_succ]
  refine wpAnyH_take (i := 12) (oi := ⟨some 51, _, _, _, _, _⟩) (v := ?_) rfl (by kernel_rfl) (by kernel_rfl) (by kernel_rfl) (fun _ _ _ h => h) (Or.inl ⟨by rfl, ?_⟩) hHeld ?_
  rotate_left
  · intro ww hSw
    try dsimp only at hSw
    go_simp
    try with_reducible rfl
    try omega
  try simp only [Act.put, List.setIfInBounds_toArray, List.set_cons_zero, List.set_cons_succ]
  refine wpAnyH_ready (rs := [10]) (by kernel_rfl) (by simp) ?_
  refine AllReadyH.cons (o := ⟨some 49, _, _, _, _, _⟩) rfl (fun K0 hK => ?_) AllReadyH.nil
  go_simp
  refine (TA.out _ (hs.below hHeld)).mono ?_
  rintro e ww ⟨gi_, rfl, _, I0, K'⟩
  have I := I0.is (n := m2) (by rw [ads_len]; exact hl) (by omega)
  clear I0
  refine hK.out _ _ (Below.then_ hHeld K') (fun hHeld' => ?_)
  clear hHeld K' hK K0
  have hHeld := hHeld'
  clear hHeld'
  try simp only [Act.put, List.setIfInBounds_toArray, List.set_cons_zero, List.set_cons_succ]
  refine wpAnyH_ready (rs := [13]) (by kernel_rfl) (by simp) ?_
  refine AllReadyH.cons (o := ⟨some 52, _, _, _, _, _⟩) rfl (fun K0 hK => ?_) AllReadyH.nil
  go_simp
  refine (TB.out _ (hs.below hHeld)).mono ?_
  rintro e ww ⟨JA, Jn, Jc, rfl, J, K'⟩
  replace I := I.below K'
  refine hK.out _ _ (Below.then_ hHeld K') (fun hHeld' => ?_)
  clear hHeld K' hK K0
  have hHeld := hHeld'
  clear hHeld'
  try simp only [Act.put, List.setIfInBounds_toArray, List.set_cons_zero, List.set_cons_succ]
  refine wpAnyH_ready (rs := [14]) (by kernel_rfl) (by simp) ?_
  refine AllReadyH.cons (o := ⟨some 53, _, _, _, _, _⟩) rfl (fun K0 hK => ?_) AllReadyH.nil
  go_simp
  refine (addrs_same I J (by omega)).mono ?_
  rintro e ww ⟨rfl, K'⟩
  replace I := I.below K'
  replace J := J.below K'
  refine hK.out _ _ (Below.then_ hHeld K') (fun hHeld' => ?_)
  clear hHeld K' hK K0
  have hHeld := hHeld'
  clear hHeld'
  try simp only [Act.put, List.setIfInBounds_toArray, List.set_cons_zero, List.set_cons_succ]
  refine wpAnyH_take (i := 15) (oi := ⟨some 54, _, _, _, _, _⟩) (v := ?_) rfl (by kernel_rfl) (by kernel_rfl) (by kernel_rfl) (fun _ _ _ h => h) (Or.inl ⟨by rfl, ?_⟩) hHeld ?_
  rotate_left
  · intro ww hSw
    try dsimp only at hSw
    go_simp
    try with_reducible rfl
    try omega
  try simp only [Act.put, List.setIfInBounds_toArray, List.set_cons_zero, List.set_cons_succ]
  refine wpAnyH_take (i := 16) (oi := ⟨some 6, _, _, _, _, _⟩) (v := ?_) rfl (by kernel_rfl) (by kernel_rfl) (by kernel_rfl) (fun _ _ _ h => h) (Or.inl ⟨by rfl, ?_⟩) hHeld ?_
  rotate_left
  · intro ww hSw
    try dsimp only at hSw
    go_simp
    try with_reducible rfl
    try omega
  try simp only [Act.put, List.setIfInBounds_toArray, List.set_cons_zero, List.set_cons_succ]
  refine wpAnyH_done (by kernel_rfl) ?_ _
  replace H := H.below hHeld
  replace h := h.below hHeld
  replace hU := hU.below hHeld
  replace hs := hs.below hHeld
  replace K := Below.then_ K hHeld
  clear hHeld
  go_wp2
  go_ret
  exact ⟨rfl, K⟩
end
theorem walk (a p : Int) (A : Option Addr) (n c : Nat) (z : List Int) (sh wo qu tr : Int) (B : Option Addr) (m d : Nat) (zb : List Int) (B2 : Option Addr) (m2 d2 : Nat) (zc : List Int) (w : World) (wa : (Lit.int .u32 a).wf = true) (wr : IsRow .i64 w A n c z) (wb : IsRow .u64 w B m d zb) (wc : IsRow .i64 w B2 m2 d2 zc) :
    Calls Try.prog 4 #[.agg #[.int .u32 a, .int .i64 p, .slice A n c, .int .i64 sh, .int .i64 wo, .int .i64 qu, .int .i64 tr], .slice B m d, .slice B2 m2 d2] w fun e w' => e = .returned (.bool true) ∧ Below w.heap.size w w' := by
  obtain ⟨a, rfl, ha⟩ := wf_u32 wa
  obtain ⟨zs, h, _⟩ := IS.of_row wr
  obtain ⟨ys, hU⟩ := US.of_row wb
  obtain ⟨xs, hs, _⟩ := IS.of_row wc
  exact main ha h hU hs
end Go.Proofs.Ythnmneinimlpcaa.modelTells
