/-
  The walk of the law ModelKeeps: for every configuration, list and offset it answers true.
-/
import Derived.Test.YthnmneinimlpcaaModelFits
namespace Go.Proofs.Ythnmneinimlpcaa.modelKeeps
open Go.RowKit
set_option linter.unusedVariables false
theorem front {k : IntKind} {lo : Nat} {w : World} {A : Option Addr} {n c : Nat} {xs : List Int} (h : IS k lo w A n c xs) {d : Nat} (hd : d ≤ n) : IS k lo w A d c (xs.take d) :=
  ⟨by rw [List.length_take, h.len]; omega, Nat.le_trans hd h.cap, h.most, h.nil_, fun hn => by
    obtain ⟨b, o, e, hl, hlt, hc⟩ := h.cells (by omega)
    refine ⟨b, o, e, hl, hlt, fun j hj => ?_⟩
    rw [hc j (by omega)]
    have hlen := h.len
    rw [gi_at (xs := xs) (by omega), gi_at (xs := xs.take d) (by rw [List.length_take]; omega), List.getElem_take]⟩
section
variable {w : World} {lo lo2 a m d : Nat} {p sh wo qu tr : Int} {A B : Option Addr} {n c : Nat} {zs xs : List Int} {ys : List Nat}
set_option maxRecDepth 100000 in
set_option maxHeartbeats 2000000 in
theorem main (ha : a < 4294967296) (h : IS .i64 lo w A n c zs) (hs : IS .i64 lo2 w B m d xs) {x : Int} :
    Calls Try.prog 7 #[.agg #[.int .u32 a, .int .i64 p, .slice A n c, .int .i64 sh, .int .i64 wo, .int .i64 qu, .int .i64 tr], .slice B m d, .int .i64 x] w (RetBo true w) := by
  have hl := hs.len
  have K := below_alloc w (.cells #[.int .u32 a, .int .i64 p, .slice A n c, .int .i64 sh, .int .i64 wo, .int .i64 qu, .int .i64 tr] 27)
  have H := Bk.new w #[.int .u32 a, .int .i64 p, .slice A n c, .int .i64 sh, .int .i64 wo, .int .i64 qu, .int .i64 tr] 27
  replace h := h.below K
  replace hs := hs.below K
  go_enter Try.func7, Try.ntmps7
  go_upto_region 1 with (fail)
  generalize w.alloc (.cells #[.int .u32 a, .int .i64 p, .slice A n c, .int .i64 sh, .int .i64 wo, .int .i64 qu, .int .i64 tr] 27) = w1 at H K h hs ⊢
  generalize w.heap.size = g at H ⊢
  go_wp2_with fail
  refine (awake_any _).mono ?_
  rintro e w2 ⟨rfl, K'⟩
  replace H := H.below K'
  replace h := h.below K'
  replace hs := hs.below K'
  replace K := Below.then_ K K'
  clear K'
  go_wp2_with fail
  refine (rises_any hs).mono ?_
  rintro e w3 ⟨bo, rfl, hB, K'⟩
  replace H := H.below K'
  replace h := h.below K'
  replace hs := hs.below K'
  replace K := Below.then_ K K'
  clear K'
  rcases bo with _ | _
  · clear hB
    go_wp2_with fail
    refine (awake_any _).mono ?_
    rintro e w4 ⟨rfl, K'⟩
    replace H := H.below K'
    replace h := h.below K'
    replace hs := hs.below K'
    replace K := Below.then_ K K'
    clear K'
    go_wp2
    go_ret
    exact ⟨rfl, K⟩
  obtain ⟨hr, hm3⟩ := hB.1 rfl
  clear hB
  replace hr := Lib.hid hr
  have H_0 := H.at_ (v := .int .u32 a) 0 rfl
  have H_1 := H.at_ (v := .int .i64 p) 1 rfl
  have H_2 := H.at_ (v := .slice A n c) 2 rfl
  have H_3 := H.at_ (v := .int .i64 sh) 3 rfl
  have H_4 := H.at_ (v := .int .i64 wo) 4 rfl
  have H_5 := H.at_ (v := .int .i64 qu) 5 rfl
  have H_6 := H.at_ (v := .int .i64 tr) 6 rfl
  have H_z := H.lt
  go_wp2_with fail
  refine (rmay5_any ha h).mono ?_
  rintro e w5 ⟨bo, rfl, hB, K'⟩
  clear H_0 H_1 H_2 H_3 H_4 H_5 H_6 H_z
  replace H := H.below K'
  replace h := h.below K'
  replace hs := hs.below K'
  replace K := Below.then_ K K'
  clear K'
  rcases bo with _ | _
  · clear hB
    go_wp2_with fail
    refine (awake_any _).mono ?_
    rintro e w6 ⟨rfl, K'⟩
    replace H := H.below K'
    replace h := h.below K'
    replace hs := hs.below K'
    replace K := Below.then_ K K'
    clear K'
    go_wp2
    go_ret
    exact ⟨rfl, K⟩
  obtain ⟨M, hC⟩ := hB rfl
  clear hB
  have hM := hC.much
  have hn := hC.few
  have hMm := hM.most
  go_upto_region 3 with (fail)
  obtain ⟨i0, hi, hz0, hz1, hz2⟩ := info_parts int_info
  have hown : Ri .i64 3 (w5.alloc (.cells #[] 3)) w5.heap.size (.slice (some ⟨w5.heap.size, 0, none⟩) 0 0) 0 [] := World.ownsRow_lit w5 #[] 0 (Nat.le_refl _) (by unfold maxLen; omega) rfl
  have Ka := below_alloc w5 (.cells #[] 3)
  obtain ⟨B1, b1, wq, hap1, R1, K1⟩ := run_app (P := Try.prog) Try.underlying25 hi hz0 hz1 (by omega) hown (hs.below Ka) (by omega) Ka.size 25
  rw [Nat.zero_add] at hap1
  rw [Nat.zero_add, List.nil_append] at R1
  have K2 := Ka.trans K1
  have Kb := below_alloc wq (.cells #[.int .i64 77, .int .i64 78] 3)
  have L2 := IS.lit (k := .i64) (n := 2) [77, 78] (Bk.new wq #[.int .i64 77, .int .i64 78] 3) (by rfl) (by omega)
  obtain ⟨B2, b2, wR, hap2, R2, K3⟩ := run_app (P := Try.prog) Try.underlying25 hi hz0 hz1 (by omega) (R1.below Kb) L2 (by omega) (Nat.le_trans K2.size Kb.size) 25
  have K' : Below w5.heap.size w5 wR := (Below.then_ K2 Kb).trans K3
  have O := (R2.is).lower (Nat.zero_le _)
  have HA := Lib.hid hap1
  have HB := Lib.hid hap2
  clear hap1 hap2 hown Ka Kb R1 R2 L2 K1 K2 K3 hi hz0 hz1 hz2
  go_upto_region 4 with (first | (at_builtin; refine wpList_append_run rfl (.tmp 23) (.tmp 24) 25 rfl _ _ _ _ rfl rfl HA.out ?_) | (at_builtin; refine wpList_append_run rfl (.tmp 25) (.tmp 26) 25 rfl _ _ _ _ rfl rfl HB.out ?_))
  clear HA HB
  replace H := H.below K'
  replace h := h.below K'
  replace hs := hs.below K'
  replace K := Below.then_ K K'
  clear K'
  obtain ⟨b, o, rfl, _⟩ := O.cells (by omega)
  have hcap := O.cap
  have hmost := O.most
  unfold maxLen at hmost
  have c1 : ¬ (b2 < m) := by omega
  have c2 : (m : Int) ≤ b2 := by omega
  have htk : (xs ++ [77, 78]).take m = xs := List.take_left' hl
  obtain ⟨m1, hm1⟩ : ∃ m1 : Nat, (m : Int) + 1 = m1 := ⟨m + 1, by omega⟩
  have hg1 : gi (xs ++ [77, 78]) m = 77 := by rw [gi_at (by simp; omega), List.getElem_append_right (by omega)]; simp [hl]
  have hg2 : gi (xs ++ [77, 78]) m1 = 78 := by
    obtain rfl : m1 = m + 1 := by omega
    rw [gi_at (by simp; omega), List.getElem_append_right (by omega)]; simp [hl]
  replace htk := Lib.hid htk
  replace hg1 := Lib.hid hg1
  replace hg2 := Lib.hid hg2
  have S := front O (d := m) (by omega)
  rw [htk.out] at S
  go_wp2_with fail
  refine (mwith_any S (by omega) hr.out x).mono ?_
  rintro e w7 ⟨IA, In, Ic, rfl, I, K'⟩
  replace H := H.below K'
  replace h := h.below K'
  replace hs := hs.below K'
  replace O := O.below K'
  replace K := Below.then_ K K'
  clear K'
  clear I
  clear S
  have S := front O (d := m) (by omega)
  rw [htk.out] at S
  go_wp2_with fail
  refine (mwithout_any S (by omega) hr.out x).mono ?_
  rintro e w8 ⟨IA, In, Ic, rfl, I, K'⟩
  replace H := H.below K'
  replace h := h.below K'
  replace hs := hs.below K'
  replace O := O.below K'
  replace K := Below.then_ K K'
  clear K'
  clear I
  clear S
  obtain ⟨bm, hbm⟩ : ∃ bm, mayR M zs 0 xs = bm := ⟨_, rfl⟩
  have T := rmay9_any (sh := sh) (wo := wo) (qu := qu) (tr := tr) hM h (by omega) hs (by omega)
  rw [hbm] at T
  replace T := Lib.hid T
  have H_0 := H.at_ (v := .int .u32 a) 0 rfl
  have H_1 := H.at_ (v := .int .i64 p) 1 rfl
  have H_2 := H.at_ (v := .slice A n c) 2 rfl
  have H_3 := H.at_ (v := .int .i64 sh) 3 rfl
  have H_4 := H.at_ (v := .int .i64 wo) 4 rfl
  have H_5 := H.at_ (v := .int .i64 qu) 5 rfl
  have H_6 := H.at_ (v := .int .i64 tr) 6 rfl
  have H_z := H.lt
  go_wp2_with fail
  refine (T.out).mono ?_
  rintro e w9 ⟨rfl, K'⟩
  clear H_0 H_1 H_2 H_3 H_4 H_5 H_6 H_z
  replace H := H.below K'
  replace h := h.below K'
  replace hs := hs.below K'
  replace O := O.below K'
  replace K := Below.then_ K K'
  clear K'
  clear T
  rcases bm with _ | _
  · clear hbm
    have S := front O (d := m) (by omega)
    rw [htk.out] at S
    go_wp2_with fail
    refine (ints_same S hs (by omega)).mono ?_
    rintro e w10 ⟨rfl, K'⟩
    replace H := H.below K'
    replace h := h.below K'
    replace hs := hs.below K'
    replace O := O.below K'
    replace K := Below.then_ K K'
    clear K'
    clear S
    have hc1 := O.here (j := m) (by omega)
    have hc2 := O.here (j := m1) (by omega)
    rw [hg1.out] at hc1
    rw [hg2.out] at hc2
    go_wp2
    go_ret
    exact ⟨rfl, K⟩
  have hx := Lib.hid (show ∀ x ∈ xs, 0 ≤ x ∧ x ≤ 65536 from fun x hx => by have := (mayR_iff.1 hbm).2 x hx; omega)
  clear hbm
  go_upto_region 7 with (fail)
  have S := front O (d := m) (by omega)
  rw [htk.out] at S
  refine wp_region_held_drew (S := fun w' => Below w9.heap.size w9 w') (by kernel_rfl) (Below.refl _ _).drew (fun hHeld => ?_)
  refine wpAnyH_take (i := 0) (oi := ⟨some 43, _, _, _, _, _⟩) (v := ?_) rfl (by kernel_rfl) (by kernel_rfl) (by kernel_rfl) (fun _ _ _ h => h) (Or.inl ⟨by rfl, ?_⟩) hHeld ?_
  rotate_left
  · intro ww hSw
    try dsimp only at hSw
    have H_0 := (H.below hSw).at_ (v := .int .u32 a) 0 rfl
    have H_1 := (H.below hSw).at_ (v := .int .i64 p) 1 rfl
    have H_2 := (H.below hSw).at_ (v := .slice A n c) 2 rfl
    have H_3 := (H.below hSw).at_ (v := .int .i64 sh) 3 rfl
    have H_4 := (H.below hSw).at_ (v := .int .i64 wo) 4 rfl
    have H_5 := (H.below hSw).at_ (v := .int .i64 qu) 5 rfl
    have H_6 := (H.below hSw).at_ (v := .int .i64 tr) 6 rfl
    go_simp
    try with_reducible rfl
    try omega
  try simp only [Act.put, List.setIfInBounds_toArray, List.set_cons_zero, List.set_cons_succ]
  refine wpAnyH_take (i := 1) (oi := ⟨some 44, _, _, _, _, _⟩) (v := ?_) rfl (by kernel_rfl) (by kernel_rfl) (by kernel_rfl) (fun _ _ _ h => h) (Or.inl ⟨by rfl, ?_⟩) hHeld ?_
  rotate_left
  · intro ww hSw
    try dsimp only at hSw
    go_simp
    try with_reducible rfl
    try omega
  try simp only [Act.put, List.setIfInBounds_toArray, List.set_cons_zero, List.set_cons_succ]
  refine wpAnyH_take (i := 2) (oi := ⟨some 45, _, _, _, _, _⟩) (v := ?_) rfl (by kernel_rfl) (by kernel_rfl) (by kernel_rfl) (fun _ _ _ h => h) (Or.inl ⟨by rfl, ?_⟩) hHeld ?_
  rotate_left
  · intro ww hSw
    try dsimp only at hSw
    go_simp
    try with_reducible rfl
    try omega
  try simp only [Act.put, List.setIfInBounds_toArray, List.set_cons_zero, List.set_cons_succ]
  refine wpAnyH_take (i := 3) (oi := ⟨some 46, _, _, _, _, _⟩) (v := ?_) rfl (by kernel_rfl) (by kernel_rfl) (by kernel_rfl) (fun _ _ _ h => h) (Or.inl ⟨by rfl, ?_⟩) hHeld ?_
  rotate_left
  · intro ww hSw
    try dsimp only at hSw
    go_simp
    try with_reducible rfl
    try omega
  try simp only [Act.put, List.setIfInBounds_toArray, List.set_cons_zero, List.set_cons_succ]
  refine wpAnyH_take (i := 4) (oi := ⟨some 47, _, _, _, _, _⟩) (v := .slice (some ⟨b, o, none⟩) m b2) rfl (by kernel_rfl) (by kernel_rfl) (by kernel_rfl) (fun _ _ _ h => h) (Or.inl ⟨by rfl, ?_⟩) hHeld ?_
  · intro ww hSw
    try dsimp only at hSw
    go_simp
    try with_reducible rfl
    try omega
  try simp only [Act.put, List.setIfInBounds_toArray, List.set_cons_zero, List.set_cons_succ]
  refine wpAnyH_ready (rs := [5]) (by kernel_rfl) (by simp) ?_
  refine AllReadyH.cons (o := ⟨some 48, _, _, _, _, _⟩) rfl (fun K0 hK => ?_) AllReadyH.nil
  go_simp
  refine (maddrs_any (a := a) (p := p) (sh := sh) (wo := wo) (qu := qu) (tr := tr) (A := A) (n := n) (c := c) (S.below hHeld) (by omega) hx.out).mono ?_
  rintro e ww ⟨gR, rfl, hgR, BR, K'⟩
  have hgR2 : w9.heap.size ≤ gR := Nat.le_trans hHeld.size hgR
  refine hK.out _ _ (Below.then_ hHeld K') (fun hHeld' => ?_)
  clear hHeld K' hK K0
  have hHeld := hHeld'
  clear hHeld'
  try simp only [Act.put, List.setIfInBounds_toArray, List.set_cons_zero, List.set_cons_succ]
  refine wpAnyH_take (i := 6) (oi := ⟨some 8, _, _, _, _, _⟩) (v := ?_) rfl (by kernel_rfl) (by kernel_rfl) (by kernel_rfl) (fun _ _ _ h => h) (Or.inl ⟨by rfl, ?_⟩) hHeld ?_
  rotate_left
  · intro ww hSw
    try dsimp only at hSw
    go_simp
    try with_reducible rfl
    try omega
  try simp only [Act.put, List.setIfInBounds_toArray, List.set_cons_zero, List.set_cons_succ]
  refine wpAnyH_done (by kernel_rfl) ?_ _
  have HB : Hid (∃ ls : List Int, ls.length = m ∧ Bi .u32 ww gR 22 ls) := ⟨_, by rw [ads_len]; exact hl, BR⟩
  clear BR hgR S
  go_wp2
  go_loopw [9] (fun i wr => ∃ k : Nat, k ≤ m ∧ i = .int .i64 k ∧ Hid (∃ ls : List Int, ls.length = m ∧ Bi .u32 wr gR 22 ls) ∧ Below w9.heap.size w9 wr) (fun i _ => m - (intOf i).toNat)
  case atStart => exact ⟨0, Nat.zero_le _, rfl, HB, hHeld⟩
  case round =>
    clear HB hHeld
    obtain ⟨k, hk, rfl, HB, Kr⟩ := hrel
    by_cases hlt : k < m
    · obtain ⟨ls, hls, BL⟩ := HB.out
      have hc := BL.cell (i := k) (by omega)
      have hf := Bk.fz BL k
      have B2 : Hid (∃ ls : List Int, ls.length = m ∧ Bi .u32 (wr.setCell ⟨gR, k, none⟩ (.int .u32 5)) gR 22 ls) := ⟨_, by rw [List.length_set]; exact hls, BL.set_ k 5⟩
      have K5 := Kr.setCell (p := ⟨gR, k, none⟩) hgR2 (.int .u32 5)
      clear HB BL
      go_wp2
      go_roundw
      case rel => exact ⟨k + 1, by omega, by go_num, B2, K5⟩
      case measure => simp [intOf]; omega
    · obtain rfl : k = m := by omega
      clear HB
      replace H := H.below Kr
      replace h := h.below Kr
      replace hs := hs.below Kr
      replace O := O.below Kr
      replace K := Below.then_ K Kr
      clear Kr
      have S := front O (d := k) (by omega)
      rw [htk.out] at S
      go_wp2_with fail
      refine (ints_same S hs (by omega)).mono ?_
      rintro e w11 ⟨rfl, K'⟩
      replace H := H.below K'
      replace h := h.below K'
      replace hs := hs.below K'
      replace O := O.below K'
      replace K := Below.then_ K K'
      clear K'
      clear S
      have hc1 := O.here (j := k) (by omega)
      have hc2 := O.here (j := m1) (by omega)
      rw [hg1.out] at hc1
      rw [hg2.out] at hc2
      go_wp2
      go_ret
      exact ⟨rfl, K⟩
end
theorem walk (a p : Int) (A : Option Addr) (n c : Nat) (z : List Int) (sh wo qu tr : Int) (B : Option Addr) (m d : Nat) (zb : List Int) (x : Int) (w : World) (wa : (Lit.int .u32 a).wf = true) (wr : IsRow .i64 w A n c z) (wb : IsRow .i64 w B m d zb) (_ : (Lit.int .i64 x).wf = true) :
    Calls Try.prog 7 #[.agg #[.int .u32 a, .int .i64 p, .slice A n c, .int .i64 sh, .int .i64 wo, .int .i64 qu, .int .i64 tr], .slice B m d, .int .i64 x] w fun e w' => e = .returned (.bool true) ∧ Below w.heap.size w w' := by
  obtain ⟨a, rfl, ha⟩ := wf_u32 wa
  obtain ⟨zs, h, _⟩ := IS.of_row wr
  obtain ⟨xs, hs, _⟩ := IS.of_row wb
  exact main ha h hs
end Go.Proofs.Ythnmneinimlpcaa.modelKeeps
