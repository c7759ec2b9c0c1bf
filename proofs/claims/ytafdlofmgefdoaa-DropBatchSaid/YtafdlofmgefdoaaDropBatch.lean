/-
  The walk of the law DropBatch: for every configuration, cells and offsets it answers true.
-/
import Derived.Test.YtafdlofmgefdoaaDropTurn
namespace Go.Proofs.Ytafdlofmgefdoaa.dropBatch
open Go.RowKit
set_option linter.unusedVariables false
section
variable {w : World} {lo lo3 a m d N q : Nat} {p sh wo qu tr : Int} {A B C : Option Addr} {n c : Nat} {zs vs : List Int} {ys : List Nat}
theorem cw_here {cw : Array Value} {n : Nat} {xs : List Nat} (h : Cw cw n xs) {j x : Nat} (hj : j < n) (hx : x = gt xs j) : cw[j]? = some (.int .u64 ((x : Nat) : Int)) := by rw [hx]; exact h j hj
theorem elem {k N c lo : Nat} {w : World} {b o : Nat} {vs : List Int} (hV : IS .u16 lo w (some ⟨b, o, none⟩) N c vs) (hv : ∀ x ∈ vs, (Lit.int .u16 x).wf = true) (hk : k < N) : ∃ z : Nat, gi vs k = (z : Int) ∧ z < 65536 ∧ w.cell? ⟨b, o + k, none⟩ = some (.int .u16 (z : Int)) := by
  have hl := hV.len
  obtain ⟨z, hz, hz2⟩ := wf_u16 (hv _ (gi_mem (xs := vs) (j := k) (by omega)))
  obtain ⟨b', o', e, _, hc⟩ := hV.get hk
  cases e
  exact ⟨z, hz, hz2, by rw [hc, hz]⟩
theorem ofs_of {M z j : Nat} {vs : List Int} (hM : 0 < M) (h4 : M ≤ 4096) (hz : gi vs j = (z : Int)) (hz2 : z < 65536) : ∃ o : Nat, o = ofB M vs j ∧ (z : Int) % (M : Int) = (o : Int) ∧ (z : Int).tmod (M : Int) = (o : Int) ∧ o < M ∧ IntKind.u32.wrap (o : Int) = (o : Int) ∧ IntKind.i64.wrap (z : Int) = (z : Int) ∧ IntKind.i64.wrap (o : Int) = (o : Int) := by
  have h1 : ofB M vs j = z % M := by unfold ofB; rw [hz, Int.toNat_natCast]
  have h2 := Nat.mod_lt z hM
  refine ⟨z % M, h1.symm, (Int.natCast_emod z _).symm, ?_, h2, IntWalk.u32_in _ (by omega), IntWalk.i64_in _ (by omega), IntWalk.i64_in _ (by omega)⟩
  rw [Int.tmod_eq_emod_of_nonneg (by omega)]
  exact (Int.natCast_emod z _).symm
theorem leaf_of {M m o : Nat} (h : o < M) (h4 : M ≤ 4096) (hm : m = lv M + tv M + 1) : ∃ lf bt : Nat, lf = o / 32 ∧ bt = o % 32 ∧ (o : Int) / 32 = (lf : Int) ∧ (o : Int) % 32 = (bt : Int) ∧ (o : Int).tmod 32 = (bt : Int) ∧ (o : Int).tdiv 32 = (lf : Int) ∧ IntKind.i64.wrap (lf : Int) = (lf : Int) ∧ bt < 32 ∧ lf < m ∧ (lf : Int) < (m : Int) := by
  have hl : o / 32 < m := by unfold lv at hm; omega
  refine ⟨o / 32, o % 32, rfl, rfl, by omega, by omega, ?_, ?_, IntWalk.i64_in _ (by omega), by omega, hl, by omega⟩
  · rw [Int.tmod_eq_emod_of_nonneg (by omega)]; omega
  · rw [Int.tdiv_eq_ediv_of_nonneg (by omega)]; omega
set_option maxRecDepth 100000 in
set_option maxHeartbeats 4000000 in
theorem none_ (ha : a < 4294967296) (h0 : IS .i64 lo w A n c zs) (hU : US w B m d ys) (hV : IS .u16 lo3 w C N q vs) (hv : ∀ x ∈ vs, (Lit.int .u16 x).wf = true) (hN : N = 0) :
    Calls Try.prog 4 #[.agg #[.int .u32 (a : Int), .int .i64 p, .slice A n c, .int .i64 sh, .int .i64 wo, .int .i64 qu, .int .i64 tr], .slice B m d, .slice C N q] w (RetBo true w) := by
  have g1 : decide ((20 : Int) < (N : Int)) = false := by simp; omega
  have g2 : ((N : Int) == 0) = true := by simp; omega
  replace hv := Lib.hid hv
  clear hN
  go_enter Try.func4, Try.ntmps4
  go_upto_region 1 with (fail)
  have L := Loc.start w
  replace L := (L).alloc #[.int .u32 (a : Int), .int .i64 p, .slice A n c, .int .i64 sh, .int .i64 wo, .int .i64 qu, .int .i64 tr] 27
  try simp only [World.size_alloc] at L
  try dsimp only [nput] at L
  generalize (w).alloc (.cells #[.int .u32 (a : Int), .int .i64 p, .slice A n c, .int .i64 sh, .int .i64 wo, .int .i64 qu, .int .i64 tr] 27) = w1 at L ⊢
  generalize w.heap.size = gH at L ⊢
  go_wp2_with fail
  refine (awake_any _).mono ?_
  rintro e w2 ⟨rfl, K'⟩
  replace L := L.over K'
  go_wp2_with (refine wpList_load_want (by rfl) 27 (.tmp 3) rfl gH rfl _ _ (0, 0) _ (L.bk_ 0 rfl) Try.underlying27 rfl cf_sz ?_)
  refine (fits_any ha (h0.below L.K)).mono ?_
  rintro e w3 ⟨bo, rfl, hB, K'⟩
  replace L := L.over K'
  rcases bo with _ | _
  · clear hB
    go_wp2_with fail
    refine (awake_any _).mono ?_
    rintro e w92 ⟨rfl, K'⟩
    replace L := L.over K'
    go_wp2
    go_ret
    exact ⟨rfl, L.K⟩
  replace hB := hB rfl
  clear hB
  go_wp2_with fail
  refine (awake_any _).mono ?_
  rintro e w4 ⟨rfl, K'⟩
  replace L := L.over K'
  go_wp2
  go_ret
  exact ⟨rfl, L.K⟩
set_option maxRecDepth 100000 in
set_option maxHeartbeats 4000000 in
theorem many (ha : a < 4294967296) (h0 : IS .i64 lo w A n c zs) (hU : US w B m d ys) (hV : IS .u16 lo3 w C N q vs) (hv : ∀ x ∈ vs, (Lit.int .u16 x).wf = true) (hN : 20 < N) :
    Calls Try.prog 4 #[.agg #[.int .u32 (a : Int), .int .i64 p, .slice A n c, .int .i64 sh, .int .i64 wo, .int .i64 qu, .int .i64 tr], .slice B m d, .slice C N q] w (RetBo true w) := by
  have g1 : decide ((20 : Int) < (N : Int)) = true := by simp; omega
  replace hv := Lib.hid hv
  clear hN
  go_enter Try.func4, Try.ntmps4
  go_upto_region 1 with (fail)
  have L := Loc.start w
  replace L := (L).alloc #[.int .u32 (a : Int), .int .i64 p, .slice A n c, .int .i64 sh, .int .i64 wo, .int .i64 qu, .int .i64 tr] 27
  try simp only [World.size_alloc] at L
  try dsimp only [nput] at L
  generalize (w).alloc (.cells #[.int .u32 (a : Int), .int .i64 p, .slice A n c, .int .i64 sh, .int .i64 wo, .int .i64 qu, .int .i64 tr] 27) = w1 at L ⊢
  generalize w.heap.size = gH at L ⊢
  go_wp2_with fail
  refine (awake_any _).mono ?_
  rintro e w2 ⟨rfl, K'⟩
  replace L := L.over K'
  go_wp2_with (refine wpList_load_want (by rfl) 27 (.tmp 3) rfl gH rfl _ _ (0, 0) _ (L.bk_ 0 rfl) Try.underlying27 rfl cf_sz ?_)
  refine (fits_any ha (h0.below L.K)).mono ?_
  rintro e w3 ⟨bo, rfl, hB, K'⟩
  replace L := L.over K'
  rcases bo with _ | _
  · clear hB
    go_wp2_with fail
    refine (awake_any _).mono ?_
    rintro e w92 ⟨rfl, K'⟩
    replace L := L.over K'
    go_wp2
    go_ret
    exact ⟨rfl, L.K⟩
  replace hB := hB rfl
  clear hB
  go_wp2_with fail
  refine (awake_any _).mono ?_
  rintro e w4 ⟨rfl, K'⟩
  replace L := L.over K'
  go_wp2
  go_ret
  exact ⟨rfl, L.K⟩
set_option maxRecDepth 100000 in
set_option maxHeartbeats 4000000 in
theorem asked (ha : a < 4294967296) (h0 : IS .i64 lo w A n c zs) (hU : US w B m d ys) (hV : IS .u16 lo3 w C N q vs) (hv : ∀ x ∈ vs, (Lit.int .u16 x).wf = true) (h1N : 0 < N) (h2N : N ≤ 20) :
    Calls Try.prog 4 #[.agg #[.int .u32 (a : Int), .int .i64 p, .slice A n c, .int .i64 sh, .int .i64 wo, .int .i64 qu, .int .i64 tr], .slice B m d, .slice C N q] w (RetBo true w) := by
  have g1 : decide ((20 : Int) < (N : Int)) = false := by simp; omega
  have g2 : ((N : Int) == 0) = false := by simp; omega
  obtain ⟨cb, co, hCe, hcb, _⟩ := hV.get h1N
  subst hCe
  have hN0 : (0 : Int) < (N : Int) := by omega
  replace hv := Lib.hid hv
  go_enter Try.func4, Try.ntmps4
  go_upto_region 1 with (fail)
  have L := Loc.start w
  replace L := (L).alloc #[.int .u32 (a : Int), .int .i64 p, .slice A n c, .int .i64 sh, .int .i64 wo, .int .i64 qu, .int .i64 tr] 27
  try simp only [World.size_alloc] at L
  try dsimp only [nput] at L
  generalize (w).alloc (.cells #[.int .u32 (a : Int), .int .i64 p, .slice A n c, .int .i64 sh, .int .i64 wo, .int .i64 qu, .int .i64 tr] 27) = w1 at L ⊢
  generalize w.heap.size = gH at L ⊢
  go_wp2_with fail
  refine (awake_any _).mono ?_
  rintro e w2 ⟨rfl, K'⟩
  replace L := L.over K'
  go_wp2_with (refine wpList_load_want (by rfl) 27 (.tmp 3) rfl gH rfl _ _ (0, 0) _ (L.bk_ 0 rfl) Try.underlying27 rfl cf_sz ?_)
  refine (fits_any ha (h0.below L.K)).mono ?_
  rintro e w3 ⟨bo, rfl, hB, K'⟩
  replace L := L.over K'
  rcases bo with _ | _
  · clear hB
    go_wp2_with fail
    refine (awake_any _).mono ?_
    rintro e w92 ⟨rfl, K'⟩
    replace L := L.over K'
    go_wp2
    go_ret
    exact ⟨rfl, L.K⟩
  replace hB := hB rfl
  unfold FitP at hB
  obtain ⟨M, hMe⟩ : ∃ M, M = 2 ^ (32 - p.toNat) := ⟨_, rfl⟩
  rw [← hMe] at hB
  clear hMe
  obtain ⟨hM, hm4, hmm⟩ := hB
  have hMp := hM.pos
  have hMf := hM.fits ha
  have hM4 := hM.most
  have hm6 : m ≤ 65536 := by have := tv_le hM4; have := lv_le hM4; omega
  have hl9 := hU.len
  have hm0 : 0 < m := by omega
  have hM0 : ¬ ((M : Int) = 0) := by omega
  replace hmm := Lib.hid hmm
  have H_0 := L.at_ 0 0 rfl (v := .int .u32 (a : Int)) rfl
  have H_1 := L.at_ 0 1 rfl (v := .int .i64 p) rfl
  have H_z := L.lt 0 rfl
  go_wp2_with fail
  refine (rmany_yes hM).mono ?_
  rintro e w4 ⟨rfl, K'⟩
  clear H_0 H_1 H_z
  replace L := L.over K'
  go_wp2
  clear g1 g2
  obtain ⟨z1, hz1⟩ : ∃ z, z = w4.heap.size := ⟨_, rfl⟩
  have hb1 : w.heap.size ≤ z1 := by rw [hz1]; exact L.K.size
  replace L := L.sz (lo := z1) (by omega)
  replace L := L.ri_new (k := .u32) (t := 22) (base := z1) (A := none) (n := 0) (c := 0) (xs := []) (by rw [hz1]; exact L.lts) (Ri.nil _ _)
  clear hz1
  go_loopw [8, 9] (fun sv i wr => ∃ (k u : Nat) (D : Option Addr), k ≤ N ∧ i = .int .i64 k ∧ sv = .slice D k u ∧ Loc w wr [(gH, 27, #[.int .u32 (a : Int), .int .i64 p, .slice A n c, .int .i64 sh, .int .i64 wo, .int .i64 qu, .int .i64 tr])] [rF .u32 22 z1 D k u (adB a M vs k), zF z1]) (fun _ i _ => N - (intOf i).toNat)
  case atStart => exact ⟨0, 0, none, Nat.zero_le _, rfl, rfl, L⟩
  case round =>
    clear L
    obtain ⟨k, u, D, hk, rfl, rfl, L⟩ := hrel
    by_cases hlt : k < N
    · have hk2 : (k : Int) < (N : Int) := by omega
      obtain ⟨z, hz, hz2, hzc⟩ := elem hV hv.out hlt
      obtain ⟨o, ho, ez1, ez2, hoM, ez3, ez4, ez5⟩ := ofs_of hMp hm4 hz hz2
      obtain ⟨v, hv1⟩ : ∃ v : Nat, v = a + o := ⟨_, rfl⟩
      have e6 : IntKind.u32.wrap ((a : Int) + (o : Int)) = (v : Int) := by rw [IntWalk.u32_in _ (by omega)]; omega
      have hE := adB_succ (a := a) (M := M) (zs := vs) k
      rw [← ho, ← hv1] at hE
      replace hE := Lib.hid hE
      obtain ⟨i0, hi, hi1, hi2, hi3⟩ := info_parts u32_info
      replace ho := Lib.hid ho
      replace hv1 := Lib.hid hv1
      replace hz := Lib.hid hz
      go_upto_region 8 with (fail)
      replace L := L.drew
      refine wp_region_held_drew (S := fun w' => Loc w w' [(gH, 27, #[.int .u32 (a : Int), .int .i64 p, .slice A n c, .int .i64 sh, .int .i64 wo, .int .i64 qu, .int .i64 tr])] [zF z1]) (by kernel_rfl) (L.less 1) (fun hHeld => ?_)
      generalize wr.drew = v5 at hHeld L ⊢
      refine wpAnyH_take (i := 0) (oi := ⟨some 50, _, _, _, _, _⟩) (v := ?_) rfl (by kernel_rfl) (by kernel_rfl) (by kernel_rfl) (fun _ _ _ h => h) (Or.inl ⟨by rfl, ?_⟩) hHeld ?_
      rotate_left
      · intro ww hS
        try dsimp only at hS
        go_simp
        try with_reducible rfl
        try omega
      try simp only [Act.put, List.setIfInBounds_toArray, List.set_cons_zero, List.set_cons_succ]
      refine wpAnyH_take (i := 1) (oi := ⟨some 51, _, _, _, _, _⟩) (v := .pointer (some ⟨gH, 0, none⟩)) rfl (by kernel_rfl) (by kernel_rfl) (by kernel_rfl) (fun _ _ _ h => h) (Or.inl ⟨by rfl, ?_⟩) hHeld ?_
      · intro ww hS
        try dsimp only at hS
        go_simp
        try with_reducible rfl
        try omega
      try simp only [Act.put, List.setIfInBounds_toArray, List.set_cons_zero, List.set_cons_succ]
      refine wpAnyH_take (i := 2) (oi := ⟨some 52, _, _, _, _, _⟩) (v := .pointer (some ⟨gH, 0, none⟩)) rfl (by kernel_rfl) (by kernel_rfl) (by kernel_rfl) (fun _ _ _ h => h) (Or.inl ⟨by rfl, ?_⟩) hHeld ?_
      · intro ww hS
        try dsimp only at hS
        go_simp
        try with_reducible rfl
        try omega
      try simp only [Act.put, List.setIfInBounds_toArray, List.set_cons_zero, List.set_cons_succ]
      refine wpAnyH_take (i := 3) (oi := ⟨some 53, _, _, _, _, _⟩) (v := .int .u32 (a : Int)) rfl (by kernel_rfl) (by kernel_rfl) (by kernel_rfl) (fun _ _ _ h => h) (Or.inl ⟨by rfl, ?_⟩) hHeld ?_
      · intro ww hS
        try dsimp only at hS
        have H_0 := (hS).at_ 0 0 rfl (v := .int .u32 (a : Int)) rfl
        have H_z := (hS).lt 0 rfl
        go_simp
        try with_reducible rfl
        try omega
      try simp only [Act.put, List.setIfInBounds_toArray, List.set_cons_zero, List.set_cons_succ]
      refine wpAnyH_take (i := 4) (oi := ⟨some 54, _, _, _, _, _⟩) (v := .slice (some ⟨cb, co, none⟩) N q) rfl (by kernel_rfl) (by kernel_rfl) (by kernel_rfl) (fun _ _ _ h => h) (Or.inl ⟨by rfl, ?_⟩) hHeld ?_
      · intro ww hS
        try dsimp only at hS
        go_simp
        try with_reducible rfl
        try omega
      try simp only [Act.put, List.setIfInBounds_toArray, List.set_cons_zero, List.set_cons_succ]
      refine wpAnyH_take (i := 5) (oi := ⟨some 55, _, _, _, _, _⟩) (v := .int .i64 (k : Int)) rfl (by kernel_rfl) (by kernel_rfl) (by kernel_rfl) (fun _ _ _ h => h) (Or.inl ⟨by rfl, ?_⟩) hHeld ?_
      · intro ww hS
        try dsimp only at hS
        go_simp
        try with_reducible rfl
        try omega
      try simp only [Act.put, List.setIfInBounds_toArray, List.set_cons_zero, List.set_cons_succ]
      refine wpAnyH_take (i := 6) (oi := ⟨some 56, _, _, _, _, _⟩) (v := .pointer (some ⟨cb, co + k, none⟩)) rfl (by kernel_rfl) (by kernel_rfl) (by kernel_rfl) (fun _ _ _ h => h) (Or.inl ⟨by rfl, ?_⟩) hHeld ?_
      · intro ww hS
        try dsimp only at hS
        go_simp
        try with_reducible rfl
        try omega
      try simp only [Act.put, List.setIfInBounds_toArray, List.set_cons_zero, List.set_cons_succ]
      refine wpAnyH_take (i := 7) (oi := ⟨some 57, _, _, _, _, _⟩) (v := .int .u16 (z : Int)) rfl (by kernel_rfl) (by kernel_rfl) (by kernel_rfl) (fun _ _ _ h => h) (Or.inl ⟨by rfl, ?_⟩) hHeld ?_
      · intro ww hS
        try dsimp only at hS
        have X := ((hS).K.cell (p := ⟨cb, co + k, none⟩) hcb).trans hzc
        go_simp
        try with_reducible rfl
        try omega
      try simp only [Act.put, List.setIfInBounds_toArray, List.set_cons_zero, List.set_cons_succ]
      refine wpAnyH_take (i := 8) (oi := ⟨some 58, _, _, _, _, _⟩) (v := .int .i64 (z : Int)) rfl (by kernel_rfl) (by kernel_rfl) (by kernel_rfl) (fun _ _ _ h => h) (Or.inl ⟨by rfl, ?_⟩) hHeld ?_
      · intro ww hS
        try dsimp only at hS
        go_simp
        try with_reducible rfl
        try omega
      try simp only [Act.put, List.setIfInBounds_toArray, List.set_cons_zero, List.set_cons_succ]
      refine wpAnyH_take (i := 9) (oi := ⟨some 59, _, _, _, _, _⟩) (v := .int .i64 (M : Int)) rfl (by kernel_rfl) (by kernel_rfl) (by kernel_rfl) (fun _ _ _ h => h) (Or.inl ⟨by rfl, ?_⟩) hHeld ?_
      · intro ww hS
        try dsimp only at hS
        go_simp
        try with_reducible rfl
        try omega
      try simp only [Act.put, List.setIfInBounds_toArray, List.set_cons_zero, List.set_cons_succ]
      refine wpAnyH_take (i := 10) (oi := ⟨some 60, _, _, _, _, _⟩) (v := .int .i64 (o : Int)) rfl (by kernel_rfl) (by kernel_rfl) (by kernel_rfl) (fun _ _ _ h => h) (Or.inl ⟨by rfl, ?_⟩) hHeld ?_
      · intro ww hS
        try dsimp only at hS
        go_simp
        try with_reducible rfl
        try omega
      try simp only [Act.put, List.setIfInBounds_toArray, List.set_cons_zero, List.set_cons_succ]
      refine wpAnyH_take (i := 11) (oi := ⟨some 61, _, _, _, _, _⟩) (v := .int .u32 (o : Int)) rfl (by kernel_rfl) (by kernel_rfl) (by kernel_rfl) (fun _ _ _ h => h) (Or.inl ⟨by rfl, ?_⟩) hHeld ?_
      · intro ww hS
        try dsimp only at hS
        go_simp
        try with_reducible rfl
        try omega
      try simp only [Act.put, List.setIfInBounds_toArray, List.set_cons_zero, List.set_cons_succ]
      refine wpAnyH_take (i := 12) (oi := ⟨some 62, _, _, _, _, _⟩) (v := .int .u32 (v : Int)) rfl (by kernel_rfl) (by kernel_rfl) (by kernel_rfl) (fun _ _ _ h => h) (Or.inl ⟨by rfl, ?_⟩) hHeld ?_
      · intro ww hS
        try dsimp only at hS
        go_simp
        try with_reducible rfl
        try omega
      try simp only [Act.put, List.setIfInBounds_toArray, List.set_cons_zero, List.set_cons_succ]
      refine wpAnyH_ready (rs := [13]) (by kernel_rfl) (by simp) ?_
      refine AllReadyH.cons (o := ⟨some 63, _, _, _, _, _⟩) rfl (fun K0 hK => ?_) AllReadyH.nil
      obtain ⟨D2, u2, wA, hapA, LA⟩ := L.app1b (P := Try.prog) (x := (v : Int)) (SepL.cons SepF.z SepL.nil) hb1 (by omega) (L.sz_ 1 rfl) Try.underlying33 hi hi1 hi2 (by omega) 33
      clear hi hi1 hi2 hi3
      go_simp
      refine hK.out _ _ ((L.other _).less 1) (fun hHeld' => ?_)
      clear hHeld hK K0
      have hHeld := hHeld'
      clear hHeld'
      try simp only [Act.put, List.setIfInBounds_toArray, List.set_cons_zero, List.set_cons_succ]
      refine wpAnyH_ready (rs := [14]) (by kernel_rfl) (by simp) ?_
      refine AllReadyH.cons (o := ⟨some 64, _, _, _, _, _⟩) rfl (fun K0 hK => ?_) AllReadyH.nil
      rw [if_pos (by rfl)]
      refine oper_append_run (.tmp 50) (.tmp 63) 33 rfl _ _ _ _ rfl rfl hapA ?_
      refine hK.out _ _ (LA.less 1) (fun hHeld' => ?_)
      clear hHeld hK K0
      have hHeld := hHeld'
      clear hHeld'
      try simp only [Act.put, List.setIfInBounds_toArray, List.set_cons_zero, List.set_cons_succ]
      replace L := LA
      clear LA hapA
      rw [← hE.out] at L
      refine wpAnyH_take (i := 15) (oi := ⟨some 8, _, _, _, _, _⟩) (v := .slice D2 (k + 1) u2) rfl (by kernel_rfl) (by kernel_rfl) (by kernel_rfl) (fun _ _ _ h => h) (Or.inl ⟨by rfl, ?_⟩) hHeld ?_
      · intro ww hS
        try dsimp only at hS
        go_simp
        try with_reducible rfl
        try omega
      try simp only [Act.put, List.setIfInBounds_toArray, List.set_cons_zero, List.set_cons_succ]
      refine wpAnyH_done (by kernel_rfl) ?_ _
      clear hHeld
      go_wp2
      go_roundw
      case rel => exact ⟨k + 1, u2, D2, by omega, by go_num, rfl, L⟩
      case measure => simp [intOf]; omega
    · have hkN : N = k := by omega
      subst hkN
      clear hk hlt
      obtain ⟨z, hz, hz2, hzc⟩ := elem hV hv.out h1N
      obtain ⟨o, ho, ez1, ez2, hoM, ez3, ez4, ez5⟩ := ofs_of hMp hm4 hz hz2
      replace hzc := by simpa using hzc
      obtain ⟨lf, bt, hlf, hbt, f1, f2, f3, f4, f5, hb5, hlm, f6⟩ := leaf_of hoM hm4 hmm.out
      replace hlf := Lib.hid hlf
      replace hbt := Lib.hid hbt
      replace ho := Lib.hid ho
      replace hz := Lib.hid hz
      have X := (L.K.cell (p := ⟨cb, co, none⟩) hcb).trans hzc
      go_upto_region 11 with (refine wpList_store_row rfl 42 (.tmp 11) (.tmp 77) rfl _ _ rfl (show _ = Value.agg (opv ⟨D, N, u, none, 0, 0, none, 0, 0, none, 0, 0⟩ ⟨4, 0, 0, 0, false, 8, 0, 0, (lf : Int), (bt : Int), 0, false, 0, 0, 0, 0⟩) from rfl) _ _ (Bk.new _ _ _) op_sz rfl (opv_one _ _) ?_)
      clear X
      try rw [World.setRow_alloc_new]
      replace L := (L).alloc (opv ⟨D, N, u, none, 0, 0, none, 0, 0, none, 0, 0⟩ ⟨4, 0, 0, 0, false, 8, 0, 0, (lf : Int), (bt : Int), 0, false, 0, 0, 0, 0⟩) 42
      try simp only [World.size_alloc] at L
      try dsimp only [nput] at L
      generalize (wr).alloc (.cells (opv ⟨D, N, u, none, 0, 0, none, 0, 0, none, 0, 0⟩ ⟨4, 0, 0, 0, false, 8, 0, 0, (lf : Int), (bt : Int), 0, false, 0, 0, 0, 0⟩) 42) = w5 at L ⊢
      generalize wr.heap.size = gO at L ⊢
      obtain ⟨i0, hi, hi1, hi2, hi3⟩ := info_parts u64_info
      have hown : (w5.alloc (.cells #[] 40)).ownsRow w5.heap.size 40 1 (.slice (some ⟨w5.heap.size, 0, none⟩) 0 0) 0 [] := World.ownsRow_lit w5 #[] 0 (Nat.le_refl _) (by unfold maxLen; omega) rfl
      have Ka := below_alloc w5 (.cells #[] 40)
      have hUc := hU.below L.K
      obtain ⟨gW, dW, wW, hapW, OR, KR⟩ := run_append_us (P := Try.prog) Try.underlying28 hi hi1 hi2 hi3 hown (hUc.below Ka) hm6 (Nat.le_refl _) Ka.size 28
      have KC := Ka.trans KR
      have hgW := OR.ge
      obtain ⟨cw, hBW, hcw, hdW, hdM⟩ := own_block OR
      clear hown Ka KR OR hi hi1 hi2 hi3 hUc
      go_upto_region 13 with (at_builtin; refine wpList_append_run rfl (.tmp 79) (.tmp 80) 28 rfl _ _ _ _ rfl rfl hapW ?_)
      replace L := L.own KC hgW hBW
      clear KC hgW hBW hapW
      go_wp2
      replace L := L.us_av (fun i b e => hU.apart0 hm0 L i b e) (hU.below L.K)
      replace L := L.lists (h := ⟨none, 0, 0, none, 0, 0, none, 0, 0, none, 0, 0⟩) (l := ⟨[], [], [], []⟩) L.lts ⟨IS.none_ _ _ _, IS.none_ _ _ _, IS.none_ _ _ _, IS.none_ _ _ _⟩
      try dsimp only [lF, List.cons_append, List.nil_append] at L
      replace L := L.ri_is 5 rfl
      replace L := L.only (fs' := [iF .u32 z1 D N u (adB a M vs N), iF .u32 wW.heap.size none 0 0 [], iF .i64 wW.heap.size none 0 0 [], iF .u64 wW.heap.size none 0 0 [], uF B m d ys, rF .u32 22 z1 D N u (adB a M vs N)]) (by simp)
      have hs0 := Lib.hid (show sR lf bt 0 = sR (ofB M vs 0 / 32) (ofB M vs 0 % 32) 0 by rw [hlf.out, hbt.out, ho.out])
      clear hlf hbt ho
      clear f1 f2 f3 f4 f5 f6 hzc hz ez1 ez2 ez3 ez4 ez5 hoM
      go_loopw [12, 14, 15] (fun mv ev sv wr => ∃ (j t : Nat) (s : Sc) (A0 : Option Addr) (c0 lo0 : Nat) (A1 : Option Addr) (n1 c1 : Nat) (A2 : Option Addr) (n2 c2 : Nat) (A3 : Option Addr) (n3 c3 lo2 : Nat) (B' : Option Addr) (d' : Nat), StB N M vs ys s j t ∧ mv = .slice B' m d' ∧ ev = .int .i64 j ∧ sv = .int .i64 t ∧ Loc w wr [(gW, 40, cw), (gO, 42, opv ⟨A0, N, c0, A1, n1, c1, A2, n2, c2, A3, n3, c3⟩ s), (gH, 27, #[.int .u32 (a : Int), .int .i64 p, .slice A n c, .int .i64 sh, .int .i64 wo, .int .i64 qu, .int .i64 tr])] [iF .u32 lo0 A0 N c0 (adB a M vs N), iF .u32 lo2 A1 n1 c1 [], iF .i64 lo2 A2 n2 c2 (erB M vs ys j), iF .u64 lo2 A3 n3 c3 [], uF B' m d' (clB M vs ys j), rF .u32 22 z1 D N u (adB a M vs N)]) (fun _ _ sv _ => 100 - (intOf sv).toNat)
      case atStart => exact ⟨0, 0, sR lf bt 0, D, u, z1, none, 0, 0, none, 0, 0, none, 0, 0, _, B, d, .inl ⟨h1N, hs0.out, Nat.le_refl _⟩, rfl, rfl, rfl, L⟩
      case round =>
        clear L hs0
        obtain ⟨j, t, s, A0, c0, lo0, A1, n1, c1, A2, n2, c2, A3, n3, c3, lo2, B', d', hSt, rfl, rfl, rfl, L⟩ := hrel
        have hn1 : n1 ≤ 20 := by have := (L.is_ 1 rfl).len; simp at this; omega
        have hn3 : n3 ≤ 20 := by have := (L.is_ 3 rfl).len; simp at this; omega
        have hn2 : j = n2 := by have := (L.is_ 2 rfl).len; simpa [erB] using this
        rcases hSt with hSt | hSt | hSt
        · obtain ⟨hj, hs, ht⟩ := hSt
          cases hb : (gt (clB M vs ys j) (ofB M vs j / 32)).testBit (ofB M vs j % 32)
          · have hn2b : n2 ≤ 20 := by omega
            clear hn2
            have ht9 : t < 100 := by omega
            have ht8 : (t : Int) < 100 := by omega
            have eE := erB_no hb
            have eC := clB_no hb
            obtain ⟨s2, hs2⟩ : ∃ s2, s2 = nxB N M vs j (ofB M vs j / 32) (ofB M vs j % 32) := ⟨_, rfl⟩
            have hp4 : (s2.phase == 4) = false := by rw [hs2]; exact nx_ph
            have hSt2 : StB N M vs ys s2 (j + 1) (t + 1) := by rw [hs2]; exact st_nx hj (by omega)
            obtain ⟨lf, bt, hlf, hbt, f1, f2, f3, f4, f5, hb5, hlm, f6⟩ := leaf_of (o := ofB M vs j) (Nat.mod_lt _ hMp) hm4 hmm.out
            clear f1 f2 f3 f4 f5 f6
            rw [← hlf, ← hbt] at hs hs2 hb
            clear hlf hbt
            subst hs
            replace L := L.is 1 (opv ⟨A0, N, c0, A1, n1, c1, A2, n2, c2, A3, n3, c3⟩ ⟨4, 0, 0, 0, false, 8, 0, 0, (lf : Int), (bt : Int), 0, false, 0, 0, (j : Int), 0⟩) rfl
            try dsimp only [nput] at L
            replace hSt2 := Lib.hid hSt2
            have eL : erL ⟨4, 0, 0, 0, false, 8, 0, 0, (lf : Int), (bt : Int), 0, false, 0, 0, (j : Int), 0⟩ ⟨adB a M vs N, [], erB M vs ys j, []⟩ 6 = ⟨adB a M vs N, [], erB M vs ys (j + 1), []⟩ := by unfold erL erE; rw [if_pos (show Sc.kind ⟨4, 0, 0, 0, false, 8, 0, 0, (lf : Int), (bt : Int), 0, false, 0, 0, (j : Int), 0⟩ = 4 from rfl), eE]
            have eS : freeS a N (adB a M vs N) ⟨4, 0, 0, 0, false, 8, 0, 0, (lf : Int), (bt : Int), 0, false, 0, 0, (j : Int), 0⟩ = s2 := free_nx.trans hs2.symm
            have TK : ∀ w1, US w1 B' m d' (clB M vs ys j) → Lists 0 w1 ⟨A0, N, c0, A1, n1, c1, A2, n2, c2, A3, n3, c3⟩ ⟨adB a M vs N, [], erB M vs ys j, []⟩ → Hid (Calls Try.prog 10 #[.agg #[.int .u32 (a : Int), .int .i64 p, .slice A n c, .int .i64 sh, .int .i64 wo, .int .i64 qu, .int .i64 tr], .slice B' m d', .agg (opv ⟨A0, N, c0, A1, n1, c1, A2, n2, c2, A3, n3, c3⟩ ⟨4, 0, 0, 0, false, 8, 0, 0, (lf : Int), (bt : Int), 0, false, 0, 0, (j : Int), 0⟩)] w1 (RetStp w1.heap.size N s2 ⟨adB a M vs N, [], erB M vs ys (j + 1), []⟩ m (clB M vs ys (j + 1)) true B' w1)) := fun w1 U Lh => by
              have := dstep_free (a := a) (p := p) (sh := sh) (wo := wo) (qu := qu) (tr := tr) (A := A) (n := n) (c := c) (w := w1) (lo := 0) (lo2 := 0) (h := ⟨A0, N, c0, A1, n1, c1, A2, n2, c2, A3, n3, c3⟩) (s := ⟨4, 0, 0, 0, false, 8, 0, 0, (lf : Int), (bt : Int), 0, false, 0, 0, (j : Int), 0⟩) (l := ⟨adB a M vs N, [], erB M vs ys j, []⟩) (xs := adB a M vs N) (M := M) Lh ha hM Lh.i0 (by show N ≤ 65536; omega) (adB_in hM N) (by show n1 ≤ 65536; omega) (by show n2 ≤ 65000; omega) (by show n3 ≤ 65536; omega) U rfl hlm rfl hb5 (.inr rfl) rfl hb
              dsimp only at this
              rw [eS, eL] at this
              rw [eC]
              exact this
            clear eE eC eL eS hs2
            clear hb
            have O_8 := L.at_ 1 8 rfl (v := .int .i64 8) rfl
            have O_z := L.lt 1 rfl
            go_wp2_with (first | (refine wpList_load_row rfl 27 (.tmp 3) rfl gH rfl _ _ (0, 0) _ (L.bk_ 2 rfl) Try.underlying27 rfl cf_sz ?_) | (refine wpList_load_row rfl 42 (.tmp 11) rfl gO rfl _ _ (0, 0) _ (L.bk_ 1 rfl) Try.underlying42 rfl op_sz ?_))
            refine ((TK _ (L.us_ 4 rfl) ⟨(L.is_ 0 rfl).lower (Nat.zero_le _), (L.is_ 1 rfl).lower (Nat.zero_le _), (L.is_ 2 rfl).lower (Nat.zero_le _), (L.is_ 3 rfl).lower (Nat.zero_le _)⟩).out).mono ?_
            rintro e w6 ⟨A0_1, c0_1, A1_1, n1_1, c1_1, A2_1, n2_1, c2_1, A3_1, n3_1, c3_1, B_1, d_1, rfl, U, L', hA, K'⟩
            clear O_8 O_z
            have Lb := L.lts
            replace L := L.over K'
            replace L := L.us_av (fun i b e => hA b.1 (Lb i b e) (L.ap_ 4 rfl hm0 i b e)) U
            replace L := L.lists Lb L'
            clear Lb
            try dsimp only [lF, List.cons_append, List.nil_append] at L
            clear L' U hA
            go_upto_region 18 with (refine wpList_store_row rfl 42 (.tmp 17) (.tmp 102) rfl _ _ rfl (show _ = Value.agg (opv ⟨A0_1, N, c0_1, A1_1, n1_1, c1_1, A2_1, n2_1, c2_1, A3_1, n3_1, c3_1⟩ (s2)) from rfl) _ _ (Bk.new _ _ _) op_sz rfl (opv_one _ _) ?_)
            try rw [World.setRow_alloc_new]
            replace L := (L).alloc (opv ⟨A0_1, N, c0_1, A1_1, n1_1, c1_1, A2_1, n2_1, c2_1, A3_1, n3_1, c3_1⟩ (s2)) 42
            try simp only [World.size_alloc] at L
            try dsimp only [nput] at L
            generalize (w6).alloc (.cells (opv ⟨A0_1, N, c0_1, A1_1, n1_1, c1_1, A2_1, n2_1, c2_1, A3_1, n3_1, c3_1⟩ (s2)) 42) = w7 at L ⊢
            generalize w6.heap.size = gP at L ⊢
            go_upto_region 22 with (first | (refine wpList_load_row rfl 42 (.tmp 17) rfl gP rfl _ _ (0, 0) _ (L.bk_ 0 rfl) Try.underlying42 rfl op_sz ?_) | (refine wpList_store_row rfl 42 (.tmp 11) (.tmp 108) rfl gO _ rfl rfl _ _ (L.bk_ 2 rfl) op_sz rfl (opv_one _ _) ?_))
            replace L := (L.row 2 rfl (opv ⟨A0_1, N, c0_1, A1_1, n1_1, c1_1, A2_1, n2_1, c2_1, A3_1, n3_1, c3_1⟩ (s2)))
            try dsimp only [nput] at L
            generalize (w7).setRow gO (opv ⟨A0_1, N, c0_1, A1_1, n1_1, c1_1, A2_1, n2_1, c2_1, A3_1, n3_1, c3_1⟩ (s2)) = w8 at L ⊢
            have O_8 := L.at_ 2 8 rfl (v := .int .i64 s2.phase) rfl
            have O_z := L.lt 2 rfl
            go_wp2_with fail
            clear O_8 O_z
            replace L := L.del 0
            dsimp only [ndel] at L
            replace L := L.only (fs' := [iF .u32 wr.heap.size A0_1 N c0_1 (⟨adB a M vs N, [], erB M vs ys (j + 1), []⟩ : Ls).rqs, iF .u32 wr.heap.size A1_1 n1_1 c1_1 (⟨adB a M vs N, [], erB M vs ys (j + 1), []⟩ : Ls).ads, iF .i64 wr.heap.size A2_1 n2_1 c2_1 (⟨adB a M vs N, [], erB M vs ys (j + 1), []⟩ : Ls).ers, iF .u64 wr.heap.size A3_1 n3_1 c3_1 (⟨adB a M vs N, [], erB M vs ys (j + 1), []⟩ : Ls).ses, uF B_1 m d_1 (clB M vs ys (j + 1)), rF .u32 22 z1 D N u (adB a M vs N)]) (by simp)
            go_roundw
            case rel => exact ⟨(j + 1), t + 1, _, _, _, _, _, _, _, _, _, _, _, _, _, _, _, _, hSt2.out, rfl, by go_num, by go_num, L⟩
            case measure => simp [intOf]; omega
          · have hn2b : n2 ≤ 20 := by omega
            clear hn2
            have ht9 : t < 100 := by omega
            have ht8 : (t : Int) < 100 := by omega
            have hSt2 : StB N M vs ys (sD (ofB M vs j / 32) (ofB M vs j % 32) j (gt (clB M vs ys j) (ofB M vs j / 32))) j (t + 1) := .inr (.inl ⟨hj, rfl, hb, by omega⟩)
            obtain ⟨lf, bt, hlf, hbt, f1, f2, f3, f4, f5, hb5, hlm, f6⟩ := leaf_of (o := ofB M vs j) (Nat.mod_lt _ hMp) hm4 hmm.out
            clear f1 f2 f3 f4 f5 f6
            rw [← hlf, ← hbt] at hs hb hSt2
            obtain ⟨x, hx⟩ : ∃ x, x = gt (clB M vs ys j) lf := ⟨_, rfl⟩
            rw [← hx] at hb hSt2
            clear hlf hbt
            subst hs
            replace L := L.is 1 (opv ⟨A0, N, c0, A1, n1, c1, A2, n2, c2, A3, n3, c3⟩ ⟨4, 0, 0, 0, false, 8, 0, 0, (lf : Int), (bt : Int), 0, false, 0, 0, (j : Int), 0⟩) rfl
            try dsimp only [nput] at L
            replace hSt2 := Lib.hid hSt2
            have TK : ∀ w1, US w1 B' m d' (clB M vs ys j) → Lists 0 w1 ⟨A0, N, c0, A1, n1, c1, A2, n2, c2, A3, n3, c3⟩ ⟨adB a M vs N, [], erB M vs ys j, []⟩ → Hid (Calls Try.prog 10 #[.agg #[.int .u32 (a : Int), .int .i64 p, .slice A n c, .int .i64 sh, .int .i64 wo, .int .i64 qu, .int .i64 tr], .slice B' m d', .agg (opv ⟨A0, N, c0, A1, n1, c1, A2, n2, c2, A3, n3, c3⟩ ⟨4, 0, 0, 0, false, 8, 0, 0, (lf : Int), (bt : Int), 0, false, 0, 0, (j : Int), 0⟩)] w1 (RetStp w1.heap.size N ⟨4, 0, 0, 0, false, 9, 0, 0, (lf : Int), (bt : Int), x, false, 0, 0, (j : Int), 0⟩ ⟨adB a M vs N, [], erB M vs ys j, []⟩ m (clB M vs ys j) false B' w1)) := fun w1 U Lh => by
              have := dstep_used (a := a) (p := p) (sh := sh) (wo := wo) (qu := qu) (tr := tr) (A := A) (n := n) (c := c) (w := w1) (lo := 0) (lo2 := 0) (h := ⟨A0, N, c0, A1, n1, c1, A2, n2, c2, A3, n3, c3⟩) (s := ⟨4, 0, 0, 0, false, 8, 0, 0, (lf : Int), (bt : Int), 0, false, 0, 0, (j : Int), 0⟩) (l := ⟨adB a M vs N, [], erB M vs ys j, []⟩) (xs := adB a M vs N) (M := M) Lh ha hM Lh.i0 (by show N ≤ 65536; omega) (adB_in hM N) (by show n1 ≤ 65536; omega) (by show n2 ≤ 65000; omega) (by show n3 ≤ 65536; omega) U rfl hlm rfl hb5 (.inr rfl) rfl (by rw [← hx]; exact hb)
              rw [← hx] at this
              exact this
            clear hb hx
            have O_8 := L.at_ 1 8 rfl (v := .int .i64 8) rfl
            have O_z := L.lt 1 rfl
            go_wp2_with (first | (refine wpList_load_row rfl 27 (.tmp 3) rfl gH rfl _ _ (0, 0) _ (L.bk_ 2 rfl) Try.underlying27 rfl cf_sz ?_) | (refine wpList_load_row rfl 42 (.tmp 11) rfl gO rfl _ _ (0, 0) _ (L.bk_ 1 rfl) Try.underlying42 rfl op_sz ?_))
            refine ((TK _ (L.us_ 4 rfl) ⟨(L.is_ 0 rfl).lower (Nat.zero_le _), (L.is_ 1 rfl).lower (Nat.zero_le _), (L.is_ 2 rfl).lower (Nat.zero_le _), (L.is_ 3 rfl).lower (Nat.zero_le _)⟩).out).mono ?_
            rintro e w6 ⟨A0_1, c0_1, A1_1, n1_1, c1_1, A2_1, n2_1, c2_1, A3_1, n3_1, c3_1, B_1, d_1, rfl, U, L', hA, K'⟩
            clear O_8 O_z
            have Lb := L.lts
            replace L := L.over K'
            replace L := L.us_av (fun i b e => hA b.1 (Lb i b e) (L.ap_ 4 rfl hm0 i b e)) U
            replace L := L.lists Lb L'
            clear Lb
            try dsimp only [lF, List.cons_append, List.nil_append] at L
            clear L' U hA
            go_upto_region 18 with (refine wpList_store_row rfl 42 (.tmp 17) (.tmp 102) rfl _ _ rfl (show _ = Value.agg (opv ⟨A0_1, N, c0_1, A1_1, n1_1, c1_1, A2_1, n2_1, c2_1, A3_1, n3_1, c3_1⟩ ⟨4, 0, 0, 0, false, 9, 0, 0, (lf : Int), (bt : Int), x, false, 0, 0, (j : Int), 0⟩) from rfl) _ _ (Bk.new _ _ _) op_sz rfl (opv_one _ _) ?_)
            try rw [World.setRow_alloc_new]
            replace L := (L).alloc (opv ⟨A0_1, N, c0_1, A1_1, n1_1, c1_1, A2_1, n2_1, c2_1, A3_1, n3_1, c3_1⟩ ⟨4, 0, 0, 0, false, 9, 0, 0, (lf : Int), (bt : Int), x, false, 0, 0, (j : Int), 0⟩) 42
            try simp only [World.size_alloc] at L
            try dsimp only [nput] at L
            generalize (w6).alloc (.cells (opv ⟨A0_1, N, c0_1, A1_1, n1_1, c1_1, A2_1, n2_1, c2_1, A3_1, n3_1, c3_1⟩ ⟨4, 0, 0, 0, false, 9, 0, 0, (lf : Int), (bt : Int), x, false, 0, 0, (j : Int), 0⟩) 42) = w7 at L ⊢
            generalize w6.heap.size = gP at L ⊢
            go_upto_region 22 with (first | (refine wpList_load_row rfl 42 (.tmp 17) rfl gP rfl _ _ (0, 0) _ (L.bk_ 0 rfl) Try.underlying42 rfl op_sz ?_) | (refine wpList_store_row rfl 42 (.tmp 11) (.tmp 108) rfl gO _ rfl rfl _ _ (L.bk_ 2 rfl) op_sz rfl (opv_one _ _) ?_))
            replace L := (L.row 2 rfl (opv ⟨A0_1, N, c0_1, A1_1, n1_1, c1_1, A2_1, n2_1, c2_1, A3_1, n3_1, c3_1⟩ ⟨4, 0, 0, 0, false, 9, 0, 0, (lf : Int), (bt : Int), x, false, 0, 0, (j : Int), 0⟩))
            try dsimp only [nput] at L
            generalize (w7).setRow gO (opv ⟨A0_1, N, c0_1, A1_1, n1_1, c1_1, A2_1, n2_1, c2_1, A3_1, n3_1, c3_1⟩ ⟨4, 0, 0, 0, false, 9, 0, 0, (lf : Int), (bt : Int), x, false, 0, 0, (j : Int), 0⟩) = w8 at L ⊢
            have O_8 := L.at_ 2 8 rfl (v := .int .i64 9) rfl
            have O_z := L.lt 2 rfl
            go_wp2_with fail
            clear O_8 O_z
            replace L := L.del 0
            dsimp only [ndel] at L
            replace L := L.only (fs' := [iF .u32 wr.heap.size A0_1 N c0_1 (⟨adB a M vs N, [], erB M vs ys j, []⟩ : Ls).rqs, iF .u32 wr.heap.size A1_1 n1_1 c1_1 (⟨adB a M vs N, [], erB M vs ys j, []⟩ : Ls).ads, iF .i64 wr.heap.size A2_1 n2_1 c2_1 (⟨adB a M vs N, [], erB M vs ys j, []⟩ : Ls).ers, iF .u64 wr.heap.size A3_1 n3_1 c3_1 (⟨adB a M vs N, [], erB M vs ys j, []⟩ : Ls).ses, uF B_1 m d_1 (clB M vs ys j), rF .u32 22 z1 D N u (adB a M vs N)]) (by simp)
            go_roundw
            case rel => exact ⟨j, t + 1, _, _, _, _, _, _, _, _, _, _, _, _, _, _, _, _, hSt2.out, rfl, by go_num, by go_num, L⟩
            case measure => simp [intOf]; omega
        · obtain ⟨hj, hs, hbit, ht⟩ := hSt
          cases hfl : fl (gt (clB M vs ys j) (ofB M vs j / 32))
          · have hn2b : n2 ≤ 20 := by omega
            clear hn2
            have ht9 : t < 100 := by omega
            have ht8 : (t : Int) < 100 := by omega
            have eE := erB_yes hbit
            have eC := clB_yes hbit
            obtain ⟨s2, hs2⟩ : ∃ s2, s2 = nxB N M vs j (ofB M vs j / 32) (ofB M vs j % 32) := ⟨_, rfl⟩
            have hp4 : (s2.phase == 4) = false := by rw [hs2]; exact nx_ph
            have hSt2 : StB N M vs ys s2 (j + 1) (t + 1) := by rw [hs2]; exact st_nx hj (by omega)
            obtain ⟨lf, bt, hlf, hbt, f1, f2, f3, f4, f5, hb5, hlm, f6⟩ := leaf_of (o := ofB M vs j) (Nat.mod_lt _ hMp) hm4 hmm.out
            clear f1 f2 f3 f4 f5 f6
            rw [← hlf, ← hbt] at hs hs2 hbit
            rw [← hlf] at hfl
            rw [← hlf, ← hbt] at eC
            obtain ⟨x, hx⟩ : ∃ x, x = gt (clB M vs ys j) lf := ⟨_, rfl⟩
            rw [← hx] at hs hbit eC hfl
            clear hlf hbt
            subst hs
            replace L := L.is 1 (opv ⟨A0, N, c0, A1, n1, c1, A2, n2, c2, A3, n3, c3⟩ ⟨4, 0, 0, 0, false, 9, 0, 0, (lf : Int), (bt : Int), x, false, 0, 0, (j : Int), 0⟩) rfl
            try dsimp only [nput] at L
            replace hSt2 := Lib.hid hSt2
            have hx64 : x < 18446744073709551616 := by rw [hx]; exact gt_lt (L.us_ 4 rfl).fit lf
            have eL : erL ⟨4, 0, 0, 0, false, 9, 0, 0, (lf : Int), (bt : Int), x, false, 0, 0, (j : Int), 0⟩ ⟨adB a M vs N, [], erB M vs ys j, []⟩ 0 = ⟨adB a M vs N, [], erB M vs ys (j + 1), []⟩ := by unfold erL erE; rw [if_pos (show Sc.kind ⟨4, 0, 0, 0, false, 9, 0, 0, (lf : Int), (bt : Int), x, false, 0, 0, (j : Int), 0⟩ = 4 from rfl), eE]
            have eS : hitS a N (adB a M vs N) ⟨4, 0, 0, 0, false, 9, 0, 0, (lf : Int), (bt : Int), x, false, 0, 0, (j : Int), 0⟩ = s2 := (hit_nx hfl).trans hs2.symm
            have TK : ∀ w1, US w1 B' m d' (clB M vs ys j) → Lists 0 w1 ⟨A0, N, c0, A1, n1, c1, A2, n2, c2, A3, n3, c3⟩ ⟨adB a M vs N, [], erB M vs ys j, []⟩ → Hid (Calls Try.prog 10 #[.agg #[.int .u32 (a : Int), .int .i64 p, .slice A n c, .int .i64 sh, .int .i64 wo, .int .i64 qu, .int .i64 tr], .slice B' m d', .agg (opv ⟨A0, N, c0, A1, n1, c1, A2, n2, c2, A3, n3, c3⟩ ⟨4, 0, 0, 0, false, 9, 0, 0, (lf : Int), (bt : Int), x, false, 0, 0, (j : Int), 0⟩)] w1 (RetStp w1.heap.size N s2 ⟨adB a M vs N, [], erB M vs ys (j + 1), []⟩ m (clB M vs ys (j + 1)) true B' w1)) := fun w1 U Lh => by
              have := dstep_hit (a := a) (p := p) (sh := sh) (wo := wo) (qu := qu) (tr := tr) (A := A) (n := n) (c := c) (w := w1) (lo := 0) (lo2 := 0) (h := ⟨A0, N, c0, A1, n1, c1, A2, n2, c2, A3, n3, c3⟩) (s := ⟨4, 0, 0, 0, false, 9, 0, 0, (lf : Int), (bt : Int), x, false, 0, 0, (j : Int), 0⟩) (l := ⟨adB a M vs N, [], erB M vs ys j, []⟩) (xs := adB a M vs N) (M := M) Lh ha hM Lh.i0 (by show N ≤ 65536; omega) (adB_in hM N) (by show n1 ≤ 65536; omega) (by show n2 ≤ 65000; omega) (by show n3 ≤ 65536; omega) U rfl hlm rfl hb5 (.inr rfl) rfl hm6 hx64 hx.symm
              dsimp only at this
              rw [eS, eL] at this
              rw [eC]
              exact this
            clear eE eC eL eS hs2 hfl
            clear hbit hx hx64
            have O_8 := L.at_ 1 8 rfl (v := .int .i64 9) rfl
            have O_z := L.lt 1 rfl
            go_wp2_with (first | (refine wpList_load_row rfl 27 (.tmp 3) rfl gH rfl _ _ (0, 0) _ (L.bk_ 2 rfl) Try.underlying27 rfl cf_sz ?_) | (refine wpList_load_row rfl 42 (.tmp 11) rfl gO rfl _ _ (0, 0) _ (L.bk_ 1 rfl) Try.underlying42 rfl op_sz ?_))
            refine ((TK _ (L.us_ 4 rfl) ⟨(L.is_ 0 rfl).lower (Nat.zero_le _), (L.is_ 1 rfl).lower (Nat.zero_le _), (L.is_ 2 rfl).lower (Nat.zero_le _), (L.is_ 3 rfl).lower (Nat.zero_le _)⟩).out).mono ?_
            rintro e w6 ⟨A0_1, c0_1, A1_1, n1_1, c1_1, A2_1, n2_1, c2_1, A3_1, n3_1, c3_1, B_1, d_1, rfl, U, L', hA, K'⟩
            clear O_8 O_z
            have Lb := L.lts
            replace L := L.over K'
            replace L := L.us_av (fun i b e => hA b.1 (Lb i b e) (L.ap_ 4 rfl hm0 i b e)) U
            replace L := L.lists Lb L'
            clear Lb
            try dsimp only [lF, List.cons_append, List.nil_append] at L
            clear L' U hA
            go_upto_region 18 with (refine wpList_store_row rfl 42 (.tmp 17) (.tmp 102) rfl _ _ rfl (show _ = Value.agg (opv ⟨A0_1, N, c0_1, A1_1, n1_1, c1_1, A2_1, n2_1, c2_1, A3_1, n3_1, c3_1⟩ (s2)) from rfl) _ _ (Bk.new _ _ _) op_sz rfl (opv_one _ _) ?_)
            try rw [World.setRow_alloc_new]
            replace L := (L).alloc (opv ⟨A0_1, N, c0_1, A1_1, n1_1, c1_1, A2_1, n2_1, c2_1, A3_1, n3_1, c3_1⟩ (s2)) 42
            try simp only [World.size_alloc] at L
            try dsimp only [nput] at L
            generalize (w6).alloc (.cells (opv ⟨A0_1, N, c0_1, A1_1, n1_1, c1_1, A2_1, n2_1, c2_1, A3_1, n3_1, c3_1⟩ (s2)) 42) = w7 at L ⊢
            generalize w6.heap.size = gP at L ⊢
            go_upto_region 22 with (first | (refine wpList_load_row rfl 42 (.tmp 17) rfl gP rfl _ _ (0, 0) _ (L.bk_ 0 rfl) Try.underlying42 rfl op_sz ?_) | (refine wpList_store_row rfl 42 (.tmp 11) (.tmp 108) rfl gO _ rfl rfl _ _ (L.bk_ 2 rfl) op_sz rfl (opv_one _ _) ?_))
            replace L := (L.row 2 rfl (opv ⟨A0_1, N, c0_1, A1_1, n1_1, c1_1, A2_1, n2_1, c2_1, A3_1, n3_1, c3_1⟩ (s2)))
            try dsimp only [nput] at L
            generalize (w7).setRow gO (opv ⟨A0_1, N, c0_1, A1_1, n1_1, c1_1, A2_1, n2_1, c2_1, A3_1, n3_1, c3_1⟩ (s2)) = w8 at L ⊢
            have O_8 := L.at_ 2 8 rfl (v := .int .i64 s2.phase) rfl
            have O_z := L.lt 2 rfl
            go_wp2_with fail
            clear O_8 O_z
            replace L := L.del 0
            dsimp only [ndel] at L
            replace L := L.only (fs' := [iF .u32 wr.heap.size A0_1 N c0_1 (⟨adB a M vs N, [], erB M vs ys (j + 1), []⟩ : Ls).rqs, iF .u32 wr.heap.size A1_1 n1_1 c1_1 (⟨adB a M vs N, [], erB M vs ys (j + 1), []⟩ : Ls).ads, iF .i64 wr.heap.size A2_1 n2_1 c2_1 (⟨adB a M vs N, [], erB M vs ys (j + 1), []⟩ : Ls).ers, iF .u64 wr.heap.size A3_1 n3_1 c3_1 (⟨adB a M vs N, [], erB M vs ys (j + 1), []⟩ : Ls).ses, uF B_1 m d_1 (clB M vs ys (j + 1)), rF .u32 22 z1 D N u (adB a M vs N)]) (by simp)
            go_roundw
            case rel => exact ⟨(j + 1), t + 1, _, _, _, _, _, _, _, _, _, _, _, _, _, _, _, _, hSt2.out, rfl, by go_num, by go_num, L⟩
            case measure => simp [intOf]; omega
          · have hn2b : n2 ≤ 20 := by omega
            clear hn2
            have ht9 : t < 100 := by omega
            have ht8 : (t : Int) < 100 := by omega
            have eE := erB_yes hbit
            have eC := clB_yes hbit
            obtain ⟨s2, hs2⟩ : ∃ s2, s2 = nxB N M vs j (ofB M vs j / 32) (ofB M vs j % 32) := ⟨_, rfl⟩
            have hp4 : (s2.phase == 4) = false := by rw [hs2]; exact nx_ph
            have hSt2 : StB N M vs ys s2 (j + 1) (t + 1) := by rw [hs2]; exact st_nx hj (by omega)
            obtain ⟨lf, bt, hlf, hbt, f1, f2, f3, f4, f5, hb5, hlm, f6⟩ := leaf_of (o := ofB M vs j) (Nat.mod_lt _ hMp) hm4 hmm.out
            clear f1 f2 f3 f4 f5 f6
            rw [← hlf, ← hbt] at hs hs2 hbit
            rw [← hlf] at hfl
            rw [← hlf, ← hbt] at eC
            obtain ⟨x, hx⟩ : ∃ x, x = gt (clB M vs ys j) lf := ⟨_, rfl⟩
            rw [← hx] at hs hbit eC hfl
            clear hlf hbt
            subst hs
            replace L := L.is 1 (opv ⟨A0, N, c0, A1, n1, c1, A2, n2, c2, A3, n3, c3⟩ ⟨4, 0, 0, 0, false, 9, 0, 0, (lf : Int), (bt : Int), x, false, 0, 0, (j : Int), 0⟩) rfl
            try dsimp only [nput] at L
            replace hSt2 := Lib.hid hSt2
            have hx64 : x < 18446744073709551616 := by rw [hx]; exact gt_lt (L.us_ 4 rfl).fit lf
            have eL : erL ⟨4, 0, 0, 0, false, 9, 0, 0, (lf : Int), (bt : Int), x, false, 0, 0, (j : Int), 0⟩ ⟨adB a M vs N, [], erB M vs ys j, []⟩ 0 = ⟨adB a M vs N, [], erB M vs ys (j + 1), []⟩ := by unfold erL erE; rw [if_pos (show Sc.kind ⟨4, 0, 0, 0, false, 9, 0, 0, (lf : Int), (bt : Int), x, false, 0, 0, (j : Int), 0⟩ = 4 from rfl), eE]
            have eS : hitS a N (adB a M vs N) ⟨4, 0, 0, 0, false, 9, 0, 0, (lf : Int), (bt : Int), x, false, 0, 0, (j : Int), 0⟩ = ⟨4, 0, 0, 0, false, 4, 0, 0, (lf : Int), (bt : Int), 0, false, 0, 0, (j : Int), 0⟩ := hit_em hfl
            have TK : ∀ w1, US w1 B' m d' (clB M vs ys j) → Lists 0 w1 ⟨A0, N, c0, A1, n1, c1, A2, n2, c2, A3, n3, c3⟩ ⟨adB a M vs N, [], erB M vs ys j, []⟩ → Hid (Calls Try.prog 10 #[.agg #[.int .u32 (a : Int), .int .i64 p, .slice A n c, .int .i64 sh, .int .i64 wo, .int .i64 qu, .int .i64 tr], .slice B' m d', .agg (opv ⟨A0, N, c0, A1, n1, c1, A2, n2, c2, A3, n3, c3⟩ ⟨4, 0, 0, 0, false, 9, 0, 0, (lf : Int), (bt : Int), x, false, 0, 0, (j : Int), 0⟩)] w1 (RetStp w1.heap.size N ⟨4, 0, 0, 0, false, 4, 0, 0, (lf : Int), (bt : Int), 0, false, 0, 0, (j : Int), 0⟩ ⟨adB a M vs N, [], erB M vs ys (j + 1), []⟩ m (clB M vs ys (j + 1)) true B' w1)) := fun w1 U Lh => by
              have := dstep_hit (a := a) (p := p) (sh := sh) (wo := wo) (qu := qu) (tr := tr) (A := A) (n := n) (c := c) (w := w1) (lo := 0) (lo2 := 0) (h := ⟨A0, N, c0, A1, n1, c1, A2, n2, c2, A3, n3, c3⟩) (s := ⟨4, 0, 0, 0, false, 9, 0, 0, (lf : Int), (bt : Int), x, false, 0, 0, (j : Int), 0⟩) (l := ⟨adB a M vs N, [], erB M vs ys j, []⟩) (xs := adB a M vs N) (M := M) Lh ha hM Lh.i0 (by show N ≤ 65536; omega) (adB_in hM N) (by show n1 ≤ 65536; omega) (by show n2 ≤ 65000; omega) (by show n3 ≤ 65536; omega) U rfl hlm rfl hb5 (.inr rfl) rfl hm6 hx64 hx.symm
              dsimp only at this
              rw [eS, eL] at this
              rw [eC]
              exact this
            have TG : ∀ w1 lo0 A0 c0 A1 n1 c1 A2 n2 c2 A3 n3 c3, IS .u32 lo0 w1 A0 N c0 (adB a M vs N) → Hid (Calls Try.prog 15 #[.agg #[.int .u32 (a : Int), .int .i64 p, .slice A n c, .int .i64 sh, .int .i64 wo, .int .i64 qu, .int .i64 tr], .agg (opv ⟨A0, N, c0, A1, n1, c1, A2, n2, c2, A3, n3, c3⟩ ⟨4, 0, 0, 0, false, 4, 0, 0, (lf : Int), (bt : Int), 0, false, 0, 0, (j : Int), 0⟩)] w1 (RetOp ⟨A0, N, c0, A1, n1, c1, A2, n2, c2, A3, n3, c3⟩ s2 w1)) := fun w1 lo0 A0 c0 A1 n1 c1 A2 n2 c2 A3 n3 c3 I => by
              have := rgoes_any (w := w1) (sh := sh) (wo := wo) (qu := qu) (tr := tr) (A := A) (n := n) (c := c) (h := ⟨A0, N, c0, A1, n1, c1, A2, n2, c2, A3, n3, c3⟩) (s := ⟨4, 0, 0, 0, false, 4, 0, 0, (lf : Int), (bt : Int), 0, false, 0, 0, (j : Int), 0⟩) (xs := adB a M vs N) ha hM (by show N ≤ 65536; omega) I (adB_in hM N) (by show (0 : Int) ≤ (j : Int); omega) (by show (j : Int) ≤ 65536; omega)
              dsimp only at this
              rw [gon_nx, ← hs2] at this
              exact this
            clear eE eC eL eS hs2 hfl
            clear hbit hx hx64
            have O_8 := L.at_ 1 8 rfl (v := .int .i64 9) rfl
            have O_z := L.lt 1 rfl
            go_wp2_with (first | (refine wpList_load_row rfl 27 (.tmp 3) rfl gH rfl _ _ (0, 0) _ (L.bk_ 2 rfl) Try.underlying27 rfl cf_sz ?_) | (refine wpList_load_row rfl 42 (.tmp 11) rfl gO rfl _ _ (0, 0) _ (L.bk_ 1 rfl) Try.underlying42 rfl op_sz ?_))
            refine ((TK _ (L.us_ 4 rfl) ⟨(L.is_ 0 rfl).lower (Nat.zero_le _), (L.is_ 1 rfl).lower (Nat.zero_le _), (L.is_ 2 rfl).lower (Nat.zero_le _), (L.is_ 3 rfl).lower (Nat.zero_le _)⟩).out).mono ?_
            rintro e w6 ⟨A0_1, c0_1, A1_1, n1_1, c1_1, A2_1, n2_1, c2_1, A3_1, n3_1, c3_1, B_1, d_1, rfl, U, L', hA, K'⟩
            clear O_8 O_z
            have Lb := L.lts
            replace L := L.over K'
            replace L := L.us_av (fun i b e => hA b.1 (Lb i b e) (L.ap_ 4 rfl hm0 i b e)) U
            replace L := L.lists Lb L'
            clear Lb
            try dsimp only [lF, List.cons_append, List.nil_append] at L
            clear L' U hA
            go_upto_region 18 with (refine wpList_store_row rfl 42 (.tmp 17) (.tmp 102) rfl _ _ rfl (show _ = Value.agg (opv ⟨A0_1, N, c0_1, A1_1, n1_1, c1_1, A2_1, n2_1, c2_1, A3_1, n3_1, c3_1⟩ ⟨4, 0, 0, 0, false, 4, 0, 0, (lf : Int), (bt : Int), 0, false, 0, 0, (j : Int), 0⟩) from rfl) _ _ (Bk.new _ _ _) op_sz rfl (opv_one _ _) ?_)
            try rw [World.setRow_alloc_new]
            replace L := (L).alloc (opv ⟨A0_1, N, c0_1, A1_1, n1_1, c1_1, A2_1, n2_1, c2_1, A3_1, n3_1, c3_1⟩ ⟨4, 0, 0, 0, false, 4, 0, 0, (lf : Int), (bt : Int), 0, false, 0, 0, (j : Int), 0⟩) 42
            try simp only [World.size_alloc] at L
            try dsimp only [nput] at L
            generalize (w6).alloc (.cells (opv ⟨A0_1, N, c0_1, A1_1, n1_1, c1_1, A2_1, n2_1, c2_1, A3_1, n3_1, c3_1⟩ ⟨4, 0, 0, 0, false, 4, 0, 0, (lf : Int), (bt : Int), 0, false, 0, 0, (j : Int), 0⟩) 42) = w7 at L ⊢
            generalize w6.heap.size = gP at L ⊢
            go_upto_region 22 with (first | (refine wpList_load_row rfl 42 (.tmp 17) rfl gP rfl _ _ (0, 0) _ (L.bk_ 0 rfl) Try.underlying42 rfl op_sz ?_) | (refine wpList_store_row rfl 42 (.tmp 11) (.tmp 108) rfl gO _ rfl rfl _ _ (L.bk_ 2 rfl) op_sz rfl (opv_one _ _) ?_))
            replace L := (L.row 2 rfl (opv ⟨A0_1, N, c0_1, A1_1, n1_1, c1_1, A2_1, n2_1, c2_1, A3_1, n3_1, c3_1⟩ ⟨4, 0, 0, 0, false, 4, 0, 0, (lf : Int), (bt : Int), 0, false, 0, 0, (j : Int), 0⟩))
            try dsimp only [nput] at L
            generalize (w7).setRow gO (opv ⟨A0_1, N, c0_1, A1_1, n1_1, c1_1, A2_1, n2_1, c2_1, A3_1, n3_1, c3_1⟩ ⟨4, 0, 0, 0, false, 4, 0, 0, (lf : Int), (bt : Int), 0, false, 0, 0, (j : Int), 0⟩) = w8 at L ⊢
            have O_8 := L.at_ 2 8 rfl (v := .int .i64 4) rfl
            have O_z := L.lt 2 rfl
            go_wp2_with (first | (refine wpList_load_row rfl 27 (.tmp 3) rfl gH rfl _ _ (0, 0) _ (L.bk_ 3 rfl) Try.underlying27 rfl cf_sz ?_) | (refine wpList_load_row rfl 42 (.tmp 11) rfl gO rfl _ _ (0, 0) _ (L.bk_ 2 rfl) Try.underlying42 rfl op_sz ?_))
            refine ((TG _ _ _ _ _ _ _ _ _ _ _ _ _ (L.is_ 0 rfl)).out).mono ?_
            rintro e w9 ⟨rfl, K'⟩
            clear O_8 O_z
            replace L := L.over K'
            go_wp2_with (refine wpList_store_row rfl 42 (.tmp 11) (.tmp 114) rfl gO _ rfl rfl _ _ (L.bk_ 2 rfl) op_sz rfl (opv_one _ _) ?_)
            replace L := (L.row 2 rfl (opv ⟨A0_1, N, c0_1, A1_1, n1_1, c1_1, A2_1, n2_1, c2_1, A3_1, n3_1, c3_1⟩ (s2)))
            try dsimp only [nput] at L
            generalize (w9).setRow gO (opv ⟨A0_1, N, c0_1, A1_1, n1_1, c1_1, A2_1, n2_1, c2_1, A3_1, n3_1, c3_1⟩ (s2)) = w10 at L ⊢
            replace L := L.del 0
            dsimp only [ndel] at L
            replace L := L.only (fs' := [iF .u32 wr.heap.size A0_1 N c0_1 (⟨adB a M vs N, [], erB M vs ys (j + 1), []⟩ : Ls).rqs, iF .u32 wr.heap.size A1_1 n1_1 c1_1 (⟨adB a M vs N, [], erB M vs ys (j + 1), []⟩ : Ls).ads, iF .i64 wr.heap.size A2_1 n2_1 c2_1 (⟨adB a M vs N, [], erB M vs ys (j + 1), []⟩ : Ls).ers, iF .u64 wr.heap.size A3_1 n3_1 c3_1 (⟨adB a M vs N, [], erB M vs ys (j + 1), []⟩ : Ls).ses, uF B_1 m d_1 (clB M vs ys (j + 1)), rF .u32 22 z1 D N u (adB a M vs N)]) (by simp)
            go_roundw
            case rel => exact ⟨(j + 1), t + 1, _, _, _, _, _, _, _, _, _, _, _, _, _, _, _, _, hSt2.out, rfl, by go_num, by go_num, L⟩
            case measure => simp [intOf]; omega
        · obtain ⟨hj, hph, ht⟩ := hSt
          replace hj : N = j := hj.symm
          subst hj
          replace hn2 : N = n2 := hn2
          subst hn2
          have ht8 : (t : Int) < 100 := by omega
          have hp0 : (s.phase != 0) = false := by rw [hph]; rfl
          have hp8 : (s.phase == 8) = false := by rw [hph]; rfl
          have hp9 : (s.phase == 9) = false := by rw [hph]; rfl
          clear hph
          have fN : ((N : Int) != (N : Int)) = false := by simp
          obtain ⟨eb, eo, hA2, _, _⟩ := (L.is_ 2 rfl).get h1N
          subst hA2
          have O_8 := L.at_ 1 8 rfl (v := .int .i64 s.phase) rfl
          have O_7 := L.at_ 1 7 rfl (v := .slice (some ⟨eb, eo, none⟩) N c2) rfl
          have O_z := L.lt 1 rfl
          go_wp2_with fail
          clear O_8 O_7 O_z
          go_loopw [19] (fun i wr => ∃ (k : Nat) (cv : Array Value), k ≤ N ∧ i = .int .i64 k ∧ Cw cv m (clB M vs ys k) ∧ Loc w wr [(gW, 40, cv), (gO, 42, opv ⟨A0, N, c0, A1, n1, c1, (some ⟨eb, eo, none⟩), N, c2, A3, n3, c3⟩ s), (gH, 27, #[.int .u32 (a : Int), .int .i64 p, .slice A n c, .int .i64 sh, .int .i64 wo, .int .i64 qu, .int .i64 tr])] [iF .u32 lo0 A0 N c0 (adB a M vs N), iF .u32 lo2 A1 n1 c1 [], iF .i64 lo2 (some ⟨eb, eo, none⟩) N c2 (erB M vs ys N), iF .u64 lo2 A3 n3 c3 [], uF B' m d' (clB M vs ys N), rF .u32 22 z1 D N u (adB a M vs N)]) (fun i _ => N - (intOf i).toNat)
          case atStart => exact ⟨0, cw, Nat.zero_le _, rfl, hcw, L⟩
          case round =>
            clear L hcw
            obtain ⟨k, cv, hk, rfl, hcv, L⟩ := hrel
            by_cases hlt : k < N
            · have hk2 : (k : Int) < (N : Int) := by omega
              obtain ⟨z, hz, hz2, hzc⟩ := elem hV hv.out hlt
              obtain ⟨o, ho, ez1, ez2, hoM, ez3, ez4, ez5⟩ := ofs_of hMp hm4 hz hz2
              obtain ⟨lf, bt, hlf, hbt, f1, f2, f3, f4, f5, hb5, hlm, f6⟩ := leaf_of hoM hm4 hmm.out
              obtain ⟨x, hx⟩ : ∃ x, x = gt (clB M vs ys k) lf := ⟨_, rfl⟩
              have hx64 : x < 18446744073709551616 := by rw [hx]; exact gt_lt (clB_fit hU.fit k) lf
              have hcx := cw_here hcv hlm hx
              have her : gi (erB M vs ys N) k = if (gt (clB M vs ys k) (ofB M vs k / 32)).testBit (ofB M vs k % 32) = true then 0 else 6 := erB_at hlt
              obtain ⟨eb2, eo2, hq, heb, hec⟩ := (L.is_ 2 rfl).get hlt
              cases hq
              rw [her] at hec
              clear her heb
              cases hb : x.testBit bt
              · have hb2 : (gt (clB M vs ys k) (ofB M vs k / 32)).testBit (ofB M vs k % 32) = false := by rw [← ho, ← hlf, ← hbt, ← hx]; exact hb
                replace hec : wr.cell? ⟨eb, eo + k, none⟩ = some (.int .i64 6) := by rw [hec, hb2]; rfl
                have TH := fun w => Lib.hid (rhas_any x bt hx64 (by omega) w)
                simp only [hb] at TH
                have hcv2 : Cw cv m (clB M vs ys (k + 1)) := by rw [clB_no hb2]; exact hcv
                replace hcv2 := Lib.hid hcv2
                clear hb2 hb
                clear ho hlf hbt hx hcv
                replace hz := Lib.hid hz
                have X := (L.K.cell (p := ⟨cb, co + k, none⟩) hcb).trans hzc
                have XW := L.at_ 0 lf rfl hcx
                go_wp2_with fail
                refine ((TH _).out).mono ?_
                rintro e w' ⟨rfl, rfl⟩
                clear X XW
                have O_7 := L.at_ 1 7 rfl (v := .slice (some ⟨eb, eo, none⟩) N c2) rfl
                have O_z := L.lt 1 rfl
                have XE := hec
                go_wp2_with fail
                clear O_7 O_z XE
                go_roundw
                case rel => exact ⟨k + 1, _, by omega, by go_num, hcv2.out, L⟩
                case measure => simp [intOf]; omega
              · have hb2 : (gt (clB M vs ys k) (ofB M vs k / 32)).testBit (ofB M vs k % 32) = true := by rw [← ho, ← hlf, ← hbt, ← hx]; exact hb
                replace hec : wr.cell? ⟨eb, eo + k, none⟩ = some (.int .i64 0) := by rw [hec, hb2]; rfl
                have TH := fun w => Lib.hid (rhas_any x bt hx64 (by omega) w)
                simp only [hb] at TH
                have TD := fun w => Lib.hid (drop_any x bt hx64 (by omega) w)
                have hcv2 := hcv.set_ (v := drp x bt) (by rw [clB_len]; exact hl9) hlm
                have hC := clB_yes hb2
                rw [← ho, ← hlf, ← hbt, ← hx] at hC
                rw [← hC] at hcv2
                replace hcv2 := Lib.hid hcv2
                clear hC hb2 hb
                generalize drp x bt = y at *
                clear ho hlf hbt hx hcv
                replace hz := Lib.hid hz
                have X := (L.K.cell (p := ⟨cb, co + k, none⟩) hcb).trans hzc
                have XW := L.at_ 0 lf rfl hcx
                go_wp2_with fail
                refine ((TH _).out).mono ?_
                rintro e w' ⟨rfl, rfl⟩
                clear X XW
                have O_7 := L.at_ 1 7 rfl (v := .slice (some ⟨eb, eo, none⟩) N c2) rfl
                have O_z := L.lt 1 rfl
                have XE := hec
                have XW := L.at_ 0 lf rfl hcx
                go_wp2_with fail
                refine ((TD _).out).mono ?_
                rintro e w' ⟨rfl, rfl⟩
                clear O_7 O_z XE XW
                have XV := L.at_ 0 lf rfl hcx
                have XF := L.fz 0 lf rfl
                have XZ := L.lt 0 rfl
                go_wp2_with fail
                clear XV XF XZ
                replace L := L.set 0 lf rfl (.int .u64 ((y : Nat) : Int))
                try dsimp only [nput] at L
                generalize (wr).setCell ⟨gW, lf, none⟩ (.int .u64 ((y : Nat) : Int)) = w6 at L ⊢
                go_roundw
                case rel => exact ⟨k + 1, _, by omega, by go_num, hcv2.out, L⟩
                case measure => simp [intOf]; omega
            · have hkN : N = k := by omega
              subst hkN
              have UW := hcv.us (L.bk_ 0 rfl) (by rw [clB_len]; exact hl9) (clB_fit hU.fit N) hdW hdM
              go_wp2_with fail
              refine (same_any (L.us_ 4 rfl) UW hm6).mono ?_
              rintro e w6 ⟨rfl, K'⟩
              replace L := L.over K'
              go_wp2
              go_ret
              exact ⟨rfl, L.K⟩
theorem main (ha : a < 4294967296) (h0 : IS .i64 lo w A n c zs) (hU : US w B m d ys) (hV : IS .u16 lo3 w C N q vs) (hv : ∀ x ∈ vs, (Lit.int .u16 x).wf = true) :
    Calls Try.prog 4 #[.agg #[.int .u32 (a : Int), .int .i64 p, .slice A n c, .int .i64 sh, .int .i64 wo, .int .i64 qu, .int .i64 tr], .slice B m d, .slice C N q] w (RetBo true w) := by
  by_cases h1 : N = 0
  · exact none_ ha h0 hU hV hv h1
  · by_cases h2 : 20 < N
    · exact many ha h0 hU hV hv h2
    · exact asked ha h0 hU hV hv (by omega) (by omega)
end
theorem walk (a p : Int) (A : Option Addr) (n c : Nat) (z : List Int) (sh wo qu tr : Int) (B : Option Addr) (m d : Nat) (zb : List Int) (C : Option Addr) (N q : Nat) (zc : List Int) (w : World) (wa : (Lit.int .u32 a).wf = true) (wr : IsRow .i64 w A n c z) (wb : IsRow .u64 w B m d zb) (wc : IsRow .u16 w C N q zc) :
    Calls Try.prog 4 #[.agg #[.int .u32 a, .int .i64 p, .slice A n c, .int .i64 sh, .int .i64 wo, .int .i64 qu, .int .i64 tr], .slice B m d, .slice C N q] w fun e w' => e = .returned (.bool true) ∧ Below w.heap.size w w' := by
  obtain ⟨a, rfl, ha⟩ := wf_u32 wa
  obtain ⟨zs, h0, _⟩ := IS.of_row wr
  obtain ⟨ys, hU⟩ := US.of_row wb
  obtain ⟨vs, hV, hv⟩ := IS.of_row wc
  exact main ha h0 hU hV hv
end Go.Proofs.Ytafdlofmgefdoaa.dropBatch
