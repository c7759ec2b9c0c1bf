/-
  The walk of the law ExactOnce: for every configuration, request and doings of others it answers true.
-/
import Derived.Test.YtacgjaohfcoigaaEx12
namespace Go.Proofs.Ytacgjaohfcoigaa.exactOnce
set_option maxRecDepth 100000
open Go.RowKit
set_option linter.unusedVariables false
section
variable {w : World} {lo lo2 lo3 lo4 a X k q k2 q2 n0 c0 : Nat} {p sh wo qu tr kd : Int} {A A0 E E2 : Option Addr} {n c : Nat} {zs xs es es2 : List Int}
set_option maxRecDepth 100000 in
set_option maxHeartbeats 2000000 in
theorem far1 (ha : a < 4294967296) (h0 : IS .i64 lo w A n c zs) (hs : IS .u32 lo2 w A0 n0 c0 xs) (hX : X < 4294967296) (hw : W32 xs) (hE : IS .u32 lo3 w E k q es) (he : ∀ x ∈ es, (Lit.int .u32 x).wf = true) (hE2 : IS .u32 lo4 w E2 k2 q2 es2) (he2 : ∀ x ∈ es2, (Lit.int .u32 x).wf = true) (hk : 200 < k) :
    Calls Try.prog 3 #[.agg #[.int .u32 (a : Int), .int .i64 p, .slice A n c, .int .i64 sh, .int .i64 wo, .int .i64 qu, .int .i64 tr], .agg #[.int .i64 kd, .int .u32 (X : Int), .slice A0 n0 c0], .slice E k q, .slice E2 k2 q2] w (RetBo true w) := by
  have f0 : decide ((200 : Int) < (k : Int)) = true := by simp; omega
  go_enter Try.func3, Try.ntmps3
  go_upto_region 1 with (fail)
  have L := Loc.start w
  replace L := ((L).alloc #[.int .u32 (a : Int), .int .i64 p, .slice A n c, .int .i64 sh, .int .i64 wo, .int .i64 qu, .int .i64 tr] 27).alloc #[.int .i64 kd, .int .u32 (X : Int), .slice A0 n0 c0] 30
  try simp only [World.size_alloc] at L
  try dsimp only [nput] at L
  generalize ((w).alloc (.cells #[.int .u32 (a : Int), .int .i64 p, .slice A n c, .int .i64 sh, .int .i64 wo, .int .i64 qu, .int .i64 tr] 27)).alloc (.cells #[.int .i64 kd, .int .u32 (X : Int), .slice A0 n0 c0] 30) = w1 at L ⊢
  generalize w.heap.size + 1 = gX5 at L ⊢
  generalize w.heap.size = gH at L ⊢
  go_wp2_with fail
  refine (awake_any _).mono ?_
  rintro e w2 ⟨rfl, K'⟩
  replace L := L.over K'
  go_wp2_with (first | (refine wpList_load_want (by rfl) 27 (.tmp 4) rfl gH rfl _ _ (0, 0) _ (L.bk_ 1 rfl) Try.underlying27 rfl cf_sz ?_) | (refine wpList_load_want (by rfl) 30 (.tmp 5) rfl gX5 rfl _ _ (0, 0) _ (L.bk_ 0 rfl) Try.underlying30 rfl ak_sz ?_))
  refine (right_any ha (h0.below L.K) (hs.below L.K) hX hw).mono ?_
  rintro e w3 ⟨bo, rfl, hB, K'⟩
  replace L := L.over K'
  rcases bo with _ | _
  · clear hB
    go_wp2_with fail
    refine (awake_any _).mono ?_
    rintro e w92 ⟨rfl, K'⟩
    replace L := L.over K'
    go_wp2
    go_ret
    exact ⟨rfl, L.K⟩
  replace hB := hB rfl
  clear hB
  go_wp2_with fail
  refine (awake_any _).mono ?_
  rintro e w4 ⟨rfl, K'⟩
  replace L := L.over K'
  go_wp2
  go_ret
  exact ⟨rfl, L.K⟩
set_option maxRecDepth 100000 in
set_option maxHeartbeats 2000000 in
theorem far2 (ha : a < 4294967296) (h0 : IS .i64 lo w A n c zs) (hs : IS .u32 lo2 w A0 n0 c0 xs) (hX : X < 4294967296) (hw : W32 xs) (hE : IS .u32 lo3 w E k q es) (he : ∀ x ∈ es, (Lit.int .u32 x).wf = true) (hE2 : IS .u32 lo4 w E2 k2 q2 es2) (he2 : ∀ x ∈ es2, (Lit.int .u32 x).wf = true) (hk : k ≤ 200) (hk2 : 200 < k2) :
    Calls Try.prog 3 #[.agg #[.int .u32 (a : Int), .int .i64 p, .slice A n c, .int .i64 sh, .int .i64 wo, .int .i64 qu, .int .i64 tr], .agg #[.int .i64 kd, .int .u32 (X : Int), .slice A0 n0 c0], .slice E k q, .slice E2 k2 q2] w (RetBo true w) := by
  have f0 : decide ((200 : Int) < (k : Int)) = false := by simp; omega
  have f1 : decide ((200 : Int) < (k2 : Int)) = true := by simp; omega
  go_enter Try.func3, Try.ntmps3
  go_upto_region 1 with (fail)
  have L := Loc.start w
  replace L := ((L).alloc #[.int .u32 (a : Int), .int .i64 p, .slice A n c, .int .i64 sh, .int .i64 wo, .int .i64 qu, .int .i64 tr] 27).alloc #[.int .i64 kd, .int .u32 (X : Int), .slice A0 n0 c0] 30
  try simp only [World.size_alloc] at L
  try dsimp only [nput] at L
  generalize ((w).alloc (.cells #[.int .u32 (a : Int), .int .i64 p, .slice A n c, .int .i64 sh, .int .i64 wo, .int .i64 qu, .int .i64 tr] 27)).alloc (.cells #[.int .i64 kd, .int .u32 (X : Int), .slice A0 n0 c0] 30) = w1 at L ⊢
  generalize w.heap.size + 1 = gX5 at L ⊢
  generalize w.heap.size = gH at L ⊢
  go_wp2_with fail
  refine (awake_any _).mono ?_
  rintro e w2 ⟨rfl, K'⟩
  replace L := L.over K'
  go_wp2_with (first | (refine wpList_load_want (by rfl) 27 (.tmp 4) rfl gH rfl _ _ (0, 0) _ (L.bk_ 1 rfl) Try.underlying27 rfl cf_sz ?_) | (refine wpList_load_want (by rfl) 30 (.tmp 5) rfl gX5 rfl _ _ (0, 0) _ (L.bk_ 0 rfl) Try.underlying30 rfl ak_sz ?_))
  refine (right_any ha (h0.below L.K) (hs.below L.K) hX hw).mono ?_
  rintro e w3 ⟨bo, rfl, hB, K'⟩
  replace L := L.over K'
  rcases bo with _ | _
  · clear hB
    go_wp2_with fail
    refine (awake_any _).mono ?_
    rintro e w92 ⟨rfl, K'⟩
    replace L := L.over K'
    go_wp2
    go_ret
    exact ⟨rfl, L.K⟩
  replace hB := hB rfl
  clear hB
  go_wp2_with fail
  refine (awake_any _).mono ?_
  rintro e w4 ⟨rfl, K'⟩
  replace L := L.over K'
  go_wp2
  go_ret
  exact ⟨rfl, L.K⟩
set_option maxRecDepth 100000 in
set_option maxHeartbeats 40000000 in
theorem near (ha : a < 4294967296) (h0 : IS .i64 lo w A n c zs) (hs : IS .u32 lo2 w A0 n0 c0 xs) (hX : X < 4294967296) (hw : W32 xs) (hE : IS .u32 lo3 w E k q es) (he : ∀ x ∈ es, (Lit.int .u32 x).wf = true) (hE2 : IS .u32 lo4 w E2 k2 q2 es2) (he2 : ∀ x ∈ es2, (Lit.int .u32 x).wf = true) (hk : k ≤ 200) (hk2 : k2 ≤ 200) :
    Calls Try.prog 3 #[.agg #[.int .u32 (a : Int), .int .i64 p, .slice A n c, .int .i64 sh, .int .i64 wo, .int .i64 qu, .int .i64 tr], .agg #[.int .i64 kd, .int .u32 (X : Int), .slice A0 n0 c0], .slice E k q, .slice E2 k2 q2] w (RetBo true w) := by
  have f0 : decide ((200 : Int) < (k : Int)) = false := by simp; omega
  have f1 : decide ((200 : Int) < (k2 : Int)) = false := by simp; omega
  have hH0 : Lists 0 w ⟨A0, n0, c0, none, 0, 0, none, 0, 0, none, 0, 0⟩ ⟨xs, [], [], []⟩ := ⟨hs.lower (Nat.zero_le _), IS.none_ _ _ _, IS.none_ _ _ _, IS.none_ _ _ _⟩
  replace he := Lib.hid he
  replace he2 := Lib.hid he2
  go_enter Try.func3, Try.ntmps3
  go_upto_region 1 with (fail)
  have L := Loc.start w
  replace L := ((L).alloc #[.int .u32 (a : Int), .int .i64 p, .slice A n c, .int .i64 sh, .int .i64 wo, .int .i64 qu, .int .i64 tr] 27).alloc #[.int .i64 kd, .int .u32 (X : Int), .slice A0 n0 c0] 30
  try simp only [World.size_alloc] at L
  try dsimp only [nput] at L
  generalize ((w).alloc (.cells #[.int .u32 (a : Int), .int .i64 p, .slice A n c, .int .i64 sh, .int .i64 wo, .int .i64 qu, .int .i64 tr] 27)).alloc (.cells #[.int .i64 kd, .int .u32 (X : Int), .slice A0 n0 c0] 30) = w1 at L ⊢
  generalize w.heap.size + 1 = gX5 at L ⊢
  generalize w.heap.size = gH at L ⊢
  go_wp2_with fail
  refine (awake_any _).mono ?_
  rintro e w2 ⟨rfl, K'⟩
  replace L := L.over K'
  go_wp2_with (first | (refine wpList_load_want (by rfl) 27 (.tmp 4) rfl gH rfl _ _ (0, 0) _ (L.bk_ 1 rfl) Try.underlying27 rfl cf_sz ?_) | (refine wpList_load_want (by rfl) 30 (.tmp 5) rfl gX5 rfl _ _ (0, 0) _ (L.bk_ 0 rfl) Try.underlying30 rfl ak_sz ?_))
  refine (right_any ha (h0.below L.K) (hs.below L.K) hX hw).mono ?_
  rintro e w3 ⟨bo, rfl, hB, K'⟩
  replace L := L.over K'
  rcases bo with _ | _
  · clear hB
    go_wp2_with fail
    refine (awake_any _).mono ?_
    rintro e w92 ⟨rfl, K'⟩
    replace L := L.over K'
    go_wp2
    go_ret
    exact ⟨rfl, L.K⟩
  replace hB := hB rfl
  obtain ⟨⟨M, ns, hC, hfi⟩, hn1, hkd⟩ := hB
  obtain ⟨o, hxo, hoM, hho⟩ := fi_in hfi
  clear hfi
  have hshe := hC.ns_
  subst hshe
  have hM := hC.much
  have h1 := hC.ns1
  have h2 := hC.ns2
  have hM9 := hC.sml
  have hMp := hM.pos
  have hMm := hM.most
  have hn9 := hC.few
  have hfit := hM.fits ha
  have hlv : lv M ≤ 8 ∧ 1 ≤ lv M ∧ tv M = 1 := by unfold tv tq lv; omega
  obtain ⟨m, hm⟩ : ∃ m, m = lv M + tv M + 1 := ⟨_, rfl⟩
  have hm6 : m ≤ 65536 ∧ 0 < m ∧ lv M ≤ m := by omega
  obtain ⟨y0, hy0⟩ : ∃ y0, y0 = cl (nw M zs) (lv M) (tv M) (lv M) := ⟨_, rfl⟩
  have hY0 := yi_start (M := M) (zs := zs)
  have TW := fun w (h : IS .i64 lo w A n c zs) => Lib.hid (wcells_new (w := w) (sh := (ns : Int)) (wo := wo) (qu := qu) (tr := tr) ha hM h (by omega) hC.ris)
  rw [← hy0] at hY0
  simp only [← hy0, ← hm] at TW
  replace hm := Lib.hid hm
  clear hy0
  have TD := fun w D B d ys (hD : D < 4294967296) (hY : YI M zs ys) (h : IS .i64 lo w A n c zs) (U : US w B m d ys) => Lib.hid (dist_any (w := w) (p := p) (wo := wo) (qu := qu) (tr := tr) hD hC h hY U)
  have TO := fun w B d ys (h : IS .i64 lo w A n c zs) (U : US w B m d ys) => Lib.hid (rof_new (w := w) (sh := (ns : Int)) (wo := wo) (qu := qu) (tr := tr) hM h (by omega) U hm6.2.2 hm6.1)
  replace hC := Lib.hid hC
  have hxl : xs.length ≤ 65536 := by have := hs.len; omega
  have TS := fun w lo h B d ys s (hEI : EI a M zs o s) (hY : YI M zs ys) (U : US w B m d ys) (L : Lists lo w h ⟨xs, [], [], []⟩) => Lib.hid (xs_any (w := w) (ns := ns) (wo := wo) (qu := qu) (tr := tr) (A := A) (n := n) (c := c) ha hM hEI hY U L hxl)
  have TB := fun w (h : IS .u32 lo2 w A0 n0 c0 xs) => Lib.hid (xbegin_any (w := w) (ns := ns) (kd := kd) (p := p) (wo := wo) (qu := qu) (tr := tr) (A := A) (n := n) (c := c) ha hM hX hxo hoM h (by omega))
  have TF := fun w (h : IS .i64 lo w A n c zs) => Lib.hid (rfind_ok (w := w) (sh := (ns : Int)) (wo := wo) (qu := qu) (tr := tr) (a + o) (by omega) hM (by omega) (by omega) h (by omega) (by rw [Nat.add_sub_cancel_left]; exact hho))
  simp only [Nat.add_sub_cancel_left] at TF
  simp only [← hxo] at TF
  obtain ⟨s0, hs0⟩ : ∃ s0, s0 = eS0 kd (X : Int) o := ⟨_, rfl⟩
  have hE0 : EI a M zs o s0 := by rw [hs0]; exact ei_start hkd hoM hho
  have hk0 : s0.kind = kd := by rw [hs0]; rfl
  have hO0 : EO s0 0 := by rw [hs0]; exact .inl ⟨rfl, .inl rfl⟩
  simp only [← hs0] at TB
  clear hs0
  replace hxo := Lib.hid hxo
  go_upto_region 3 with fail
  go_wp2_with (refine wpList_load_row rfl 27 (.tmp 4) rfl gH rfl _ _ (0, 0) _ (L.bk_ 1 rfl) Try.underlying27 rfl cf_sz ?_)
  refine ((TW _ (h0.below L.K)).out).mono ?_
  rintro e w4 ⟨gU, dU, rfl, U, hgU, K'⟩
  have Lb := L.lts
  replace L := L.over K'
  replace L := L.us_av (fun i b e b' o e' => by injection e' with e'; injection e' with e1; have := Lb i b e; omega) U
  clear Lb
  try dsimp only [lF, List.cons_append, List.nil_append] at L
  clear U hgU
  go_wp2
  go_loopw [9, 10] (fun lv_ iv wr => ∃ (j : Nat) (B : Option Addr) (d : Nat) (ys : List Nat), j ≤ k ∧ lv_ = .slice B m d ∧ iv = .int .i64 (j : Nat) ∧ YI M zs ys ∧ Loc w wr [(gX5, 30, #[.int .i64 kd, .int .u32 (X : Int), .slice A0 n0 c0]), (gH, 27, #[.int .u32 (a : Int), .int .i64 p, .slice A n c, .int .i64 (ns : Int), .int .i64 wo, .int .i64 qu, .int .i64 tr])] [uF B m d ys]) (fun _ iv _ => k - (intOf iv).toNat)
  case atStart => exact ⟨0, _, _, y0, Nat.zero_le _, rfl, rfl, hY0.1, L⟩
  case round =>
    clear L
    obtain ⟨j, B, d, ys, hj, rfl, rfl, hY, L⟩ := hrel
    by_cases hlt : j < k
    · obtain ⟨be, oe, hEe, hbe, hce⟩ := hE.get hlt
      obtain ⟨D, hD, hD2⟩ := wf_u32 (he.out (gi es j) (gi_mem (by have := hE.len; omega)))
      rw [hD] at hce
      subst hEe
      clear hD
      have hj2 : (j : Int) < (k : Int) := by omega
      go_upto_region 7 with (fail)
      replace L := L.drew
      refine wp_region_held_drew (S := fun w' => Loc w w' [(gX5, 30, #[.int .i64 kd, .int .u32 (X : Int), .slice A0 n0 c0]), (gH, 27, #[.int .u32 (a : Int), .int .i64 p, .slice A n c, .int .i64 (ns : Int), .int .i64 wo, .int .i64 qu, .int .i64 tr])] [uF B m d ys]) (by kernel_rfl) L (fun hHeld => ?_)
      generalize wr.drew = v5 at hHeld L ⊢
      refine wpAnyH_take (i := 0) (oi := ⟨some 49, _, _, _, _, _⟩) (v := .agg (#[.int .u32 (a : Int), .int .i64 p, .slice A n c, .int .i64 (ns : Int), .int .i64 wo, .int .i64 qu, .int .i64 tr])) rfl (by kernel_rfl) (by kernel_rfl) (by kernel_rfl) (fun _ _ _ h => h) (yieldsIf_load_row (by rfl) 27 (.tmp 4) rfl gH rfl 27 _ (0, 0) _ (fun _ hS => ((hS).bk_ 1 rfl)) Try.underlying27 rfl cf_sz) hHeld ?_
      try simp only [Act.put, List.setIfInBounds_toArray, List.set_cons_zero, List.set_cons_succ]
      refine wpAnyH_take (i := 1) (oi := ⟨some 50, _, _, _, _, _⟩) (v := ?_) rfl (by kernel_rfl) (by kernel_rfl) (by kernel_rfl) (fun _ _ _ h => h) (Or.inl ⟨by rfl, ?_⟩) hHeld ?_
      rotate_left
      · intro ww hS
        try dsimp only at hS
        go_simp
        try with_reducible rfl
        try omega
      try simp only [Act.put, List.setIfInBounds_toArray, List.set_cons_zero, List.set_cons_succ]
      refine wpAnyH_take (i := 2) (oi := ⟨some 51, _, _, _, _, _⟩) (v := .slice (some ⟨be, oe, none⟩) k q) rfl (by kernel_rfl) (by kernel_rfl) (by kernel_rfl) (fun _ _ _ h => h) (Or.inl ⟨by rfl, ?_⟩) hHeld ?_
      · intro ww hS
        try dsimp only at hS
        go_simp
        try with_reducible rfl
        try omega
      try simp only [Act.put, List.setIfInBounds_toArray, List.set_cons_zero, List.set_cons_succ]
      refine wpAnyH_take (i := 3) (oi := ⟨some 52, _, _, _, _, _⟩) (v := .int .i64 (j : Int)) rfl (by kernel_rfl) (by kernel_rfl) (by kernel_rfl) (fun _ _ _ h => h) (Or.inl ⟨by rfl, ?_⟩) hHeld ?_
      · intro ww hS
        try dsimp only at hS
        go_simp
        try with_reducible rfl
        try omega
      try simp only [Act.put, List.setIfInBounds_toArray, List.set_cons_zero, List.set_cons_succ]
      refine wpAnyH_take (i := 4) (oi := ⟨some 53, _, _, _, _, _⟩) (v := .pointer (some ⟨be, oe + j, none⟩)) rfl (by kernel_rfl) (by kernel_rfl) (by kernel_rfl) (fun _ _ _ h => h) (Or.inl ⟨by rfl, ?_⟩) hHeld ?_
      · intro ww hS
        try dsimp only at hS
        go_simp
        try with_reducible rfl
        try omega
      try simp only [Act.put, List.setIfInBounds_toArray, List.set_cons_zero, List.set_cons_succ]
      refine wpAnyH_take (i := 5) (oi := ⟨some 54, _, _, _, _, _⟩) (v := .int .u32 (D : Int)) rfl (by kernel_rfl) (by kernel_rfl) (by kernel_rfl) (fun _ _ _ h => h) (Or.inl ⟨by rfl, ?_⟩) hHeld ?_
      · intro ww hS
        try dsimp only at hS
        have XE := (((hS)).K.cell (p := ⟨be, oe + j, none⟩) hbe).trans hce
        go_simp
        try with_reducible rfl
        try omega
      try simp only [Act.put, List.setIfInBounds_toArray, List.set_cons_zero, List.set_cons_succ]
      refine wpAnyH_ready (rs := [6]) (by kernel_rfl) (by simp) ?_
      refine AllReadyH.cons (o := ⟨some 55, _, _, _, _, _⟩) rfl (fun K0 hK => ?_) AllReadyH.nil
      go_simp
      refine ((TD _ _ _ _ _ hD2 hY (h0.below L.K) (L.us_ 0 rfl)).out).mono ?_
      rintro e w6 ⟨B3, d3, y3, rfl, U, hDR, hA, K'⟩
      have Lb := L.lts
      replace L := L.over K'
      replace L := L.us_av (fun i b e => hA b.1 (Lb i b e) (L.ap_ 0 rfl hm6.2.1 i b e)) U
      clear Lb
      try dsimp only [lF, List.cons_append, List.nil_append] at L
      clear U hA
      refine hK.out _ _ (L.less 1) (fun hHeld' => ?_)
      clear hHeld hK K0
      have hHeld := hHeld'
      clear hHeld'
      clear K'
      try simp only [Act.put, List.setIfInBounds_toArray, List.set_cons_zero, List.set_cons_succ]
      refine wpAnyH_take (i := 7) (oi := ⟨some 9, _, _, _, _, _⟩) (v := .slice B3 m d3) rfl (by kernel_rfl) (by kernel_rfl) (by kernel_rfl) (fun _ _ _ h => h) (Or.inl ⟨by rfl, ?_⟩) hHeld ?_
      · intro ww hS
        try dsimp only at hS
        go_simp
        try with_reducible rfl
        try omega
      try simp only [Act.put, List.setIfInBounds_toArray, List.set_cons_zero, List.set_cons_succ]
      refine wpAnyH_done (by kernel_rfl) ?_ _
      clear hHeld
      go_wp2
      replace L := L.only (fs' := [uF B3 m d3 y3]) (by simp)
      go_roundw
      case rel => exact ⟨j + 1, B3, d3, y3, by omega, rfl, by go_num, (dist_leaf hMm hY hDR).1, L⟩
      case measure => simp [intOf]; omega
    have hjk : j = k := by omega
    have hno : ¬ ((j : Int) < (k : Int)) := by omega
    clear hj hlt
    have X5_1 := L.at_ 0 1 rfl (v := .int .u32 (X : Int)) rfl
    have X5_z := L.lt 0 rfl
    go_wp2_with (refine wpList_load_row rfl 27 (.tmp 4) rfl gH rfl _ _ (0, 0) _ (L.bk_ 1 rfl) Try.underlying27 rfl cf_sz ?_)
    refine ((TF _ (h0.below L.K)).out).mono ?_
    rintro e w5 ⟨rfl, K'⟩
    clear X5_1 X5_z
    replace L := L.over K'
    go_wp2_with (first | (refine wpList_load_row rfl 27 (.tmp 4) rfl gH rfl _ _ (0, 0) _ (L.bk_ 1 rfl) Try.underlying27 rfl cf_sz ?_) | (refine wpList_load_row rfl 30 (.tmp 5) rfl gX5 rfl _ _ (0, 0) _ (L.bk_ 0 rfl) Try.underlying30 rfl ak_sz ?_))
    refine ((TB _ (hs.below L.K)).out).mono ?_
    rintro e w6 ⟨h6, rfl, L', hSA, K'⟩
    have Lb := L.lts
    replace L := L.over K'
    replace L := L.of_ap L' (fun i b e => hSA b.1 (Lb i b e) (hH0.hap L i b e))
    clear Lb
    try dsimp only [lF, List.cons_append, List.nil_append] at L
    clear L' hSA
    go_upto_region 10 with (refine wpList_store_row rfl 44 (.tmp 13) (.tmp 65) rfl _ _ rfl (show _ = Value.agg (opv h6 s0) from rfl) _ _ (Bk.new _ _ _) op_sz rfl (opv_one _ _) ?_)
    try rw [World.setRow_alloc_new]
    replace L := (L).alloc (opv h6 s0) 44
    try simp only [World.size_alloc] at L
    try dsimp only [nput] at L
    generalize (w6).alloc (.cells (opv h6 s0) 44) = w7 at L ⊢
    generalize w6.heap.size = gO at L ⊢
    go_wp2
    clear hno TB TF
    replace L := L.only (fs' := [oF h6 ⟨xs, [], [], []⟩, uF B m d ys]) (by simp)
    go_loopw [9, 14, 15] (fun lv_ ev iv wr => ∃ (u e : Nat) (h : Hd) (s : Sc) (B2 : Option Addr) (d2 : Nat) (y2 : List Nat), u ≤ k2 ∧ lv_ = .slice B2 m d2 ∧ ev = .int .i64 (e : Nat) ∧ iv = .int .i64 (u : Nat) ∧ EI a M zs o s ∧ YI M zs y2 ∧ EO s e ∧ s.kind = kd ∧ Loc w wr [(gO, 44, opv h s), (gX5, 30, #[.int .i64 kd, .int .u32 (X : Int), .slice A0 n0 c0]), (gH, 27, #[.int .u32 (a : Int), .int .i64 p, .slice A n c, .int .i64 (ns : Int), .int .i64 wo, .int .i64 qu, .int .i64 tr])] [oF h ⟨xs, [], [], []⟩, uF B2 m d2 y2]) (fun _ _ iv _ => k2 - (intOf iv).toNat)
    case atStart =>
      exact ⟨0, 0, h6, s0, B, d, ys, by omega, rfl, rfl, rfl, hE0, hY, hO0, hk0, L⟩
    case round =>
      clear L
      obtain ⟨u, e, h, s, B2, d2, y2, hu, rfl, rfl, rfl, hEI, hY2, hO, hkd2, L⟩ := hrel
      by_cases hlt : u < k2
      · obtain ⟨be, oe, hEe, hbe, hce⟩ := hE2.get hlt
        obtain ⟨D, hD, hD2⟩ := wf_u32 (he2.out (gi es2 u) (gi_mem (by have := hE2.len; omega)))
        rw [hD] at hce
        subst hEe
        clear hD
        have hu2 : (u : Int) < (k2 : Int) := by omega
        by_cases hp : s.phase = 0
        rotate_left
        · have hp1 : (s.phase != 0) = true := by simp [hp]
          have he0 : e ≤ 1 := by rcases hO with ⟨h, _⟩ | ⟨h, _⟩ <;> omega
          have e1 : IntKind.i64.wrap ((e : Int) + 1) = (e : Int) + 1 := IntWalk.i64_in _ (by omega)
          have O_8 := L.at_ 0 8 rfl (v := .int .i64 s.phase) rfl
          have O_z := L.lt 0 rfl
          go_upto_region 14 with fail
          clear O_8 O_z
          replace L := L.drew
          refine wp_region_held_drew (S := fun w' => Loc w w' [(gO, 44, opv h s), (gX5, 30, #[.int .i64 kd, .int .u32 (X : Int), .slice A0 n0 c0]), (gH, 27, #[.int .u32 (a : Int), .int .i64 p, .slice A n c, .int .i64 (ns : Int), .int .i64 wo, .int .i64 qu, .int .i64 tr])] [oF h ⟨xs, [], [], []⟩, uF B2 m d2 y2]) (by kernel_rfl) L (fun hHeld => ?_)
          generalize wr.drew = v8 at hHeld L ⊢
          refine wpAnyH_take (i := 0) (oi := ⟨some 77, _, _, _, _, _⟩) (v := .agg (#[.int .u32 (a : Int), .int .i64 p, .slice A n c, .int .i64 (ns : Int), .int .i64 wo, .int .i64 qu, .int .i64 tr])) rfl (by kernel_rfl) (by kernel_rfl) (by kernel_rfl) (fun _ _ _ h => h) (yieldsIf_load_row (by rfl) 27 (.tmp 4) rfl gH rfl 27 _ (0, 0) _ (fun _ hS => ((hS).bk_ 2 rfl)) Try.underlying27 rfl cf_sz) hHeld ?_
          try simp only [Act.put, List.setIfInBounds_toArray, List.set_cons_zero, List.set_cons_succ]
          refine wpAnyH_take (i := 1) (oi := ⟨some 78, _, _, _, _, _⟩) (v := ?_) rfl (by kernel_rfl) (by kernel_rfl) (by kernel_rfl) (fun _ _ _ h => h) (Or.inl ⟨by rfl, ?_⟩) hHeld ?_
          rotate_left
          · intro ww hS
            try dsimp only at hS
            go_simp
            try with_reducible rfl
            try omega
          try simp only [Act.put, List.setIfInBounds_toArray, List.set_cons_zero, List.set_cons_succ]
          refine wpAnyH_take (i := 2) (oi := ⟨some 79, _, _, _, _, _⟩) (v := .slice (some ⟨be, oe, none⟩) k2 q2) rfl (by kernel_rfl) (by kernel_rfl) (by kernel_rfl) (fun _ _ _ h => h) (Or.inl ⟨by rfl, ?_⟩) hHeld ?_
          · intro ww hS
            try dsimp only at hS
            go_simp
            try with_reducible rfl
            try omega
          try simp only [Act.put, List.setIfInBounds_toArray, List.set_cons_zero, List.set_cons_succ]
          refine wpAnyH_take (i := 3) (oi := ⟨some 80, _, _, _, _, _⟩) (v := .int .i64 (u : Int)) rfl (by kernel_rfl) (by kernel_rfl) (by kernel_rfl) (fun _ _ _ h => h) (Or.inl ⟨by rfl, ?_⟩) hHeld ?_
          · intro ww hS
            try dsimp only at hS
            go_simp
            try with_reducible rfl
            try omega
          try simp only [Act.put, List.setIfInBounds_toArray, List.set_cons_zero, List.set_cons_succ]
          refine wpAnyH_take (i := 4) (oi := ⟨some 81, _, _, _, _, _⟩) (v := .pointer (some ⟨be, oe + u, none⟩)) rfl (by kernel_rfl) (by kernel_rfl) (by kernel_rfl) (fun _ _ _ h => h) (Or.inl ⟨by rfl, ?_⟩) hHeld ?_
          · intro ww hS
            try dsimp only at hS
            go_simp
            try with_reducible rfl
            try omega
          try simp only [Act.put, List.setIfInBounds_toArray, List.set_cons_zero, List.set_cons_succ]
          refine wpAnyH_take (i := 5) (oi := ⟨some 82, _, _, _, _, _⟩) (v := .int .u32 (D : Int)) rfl (by kernel_rfl) (by kernel_rfl) (by kernel_rfl) (fun _ _ _ h => h) (Or.inl ⟨by rfl, ?_⟩) hHeld ?_
          · intro ww hS
            try dsimp only at hS
            have XE := (((hS)).K.cell (p := ⟨be, oe + u, none⟩) hbe).trans hce
            go_simp
            try with_reducible rfl
            try omega
          try simp only [Act.put, List.setIfInBounds_toArray, List.set_cons_zero, List.set_cons_succ]
          refine wpAnyH_ready (rs := [6]) (by kernel_rfl) (by simp) ?_
          refine AllReadyH.cons (o := ⟨some 83, _, _, _, _, _⟩) rfl (fun K0 hK => ?_) AllReadyH.nil
          go_simp
          refine ((TD _ _ _ _ _ hD2 hY2 (h0.below L.K) (L.us_ 1 rfl)).out).mono ?_
          rintro e w9 ⟨B3, d3, y3, rfl, U, hDR, hA, K'⟩
          have Lb := L.lts
          replace L := L.over K'
          replace L := L.us_av (fun i b e => hA b.1 (Lb i b e) (L.ap_ 1 rfl hm6.2.1 i b e)) U
          clear Lb
          try dsimp only [lF, List.cons_append, List.nil_append] at L
          clear U hA
          refine hK.out _ _ (L.less 1) (fun hHeld' => ?_)
          clear hHeld hK K0
          have hHeld := hHeld'
          clear hHeld'
          clear K'
          try simp only [Act.put, List.setIfInBounds_toArray, List.set_cons_zero, List.set_cons_succ]
          refine wpAnyH_take (i := 7) (oi := ⟨some 9, _, _, _, _, _⟩) (v := .slice B3 m d3) rfl (by kernel_rfl) (by kernel_rfl) (by kernel_rfl) (fun _ _ _ h => h) (Or.inl ⟨by rfl, ?_⟩) hHeld ?_
          · intro ww hS
            try dsimp only at hS
            go_simp
            try with_reducible rfl
            try omega
          try simp only [Act.put, List.setIfInBounds_toArray, List.set_cons_zero, List.set_cons_succ]
          refine wpAnyH_done (by kernel_rfl) ?_ _
          clear hHeld
          have hY3 := (dist_leaf hMm hY2 hDR).1
          obtain ⟨_, hq1, hq2, hq3⟩ := e_eff hMm hfit hEI hY3
          obtain ⟨hE3, hY4⟩ := ei_step hMm hfit hEI hY3
          have hO4 := eo_step hMm hEI hY3 hO hp
          have hk4 := (es_kind hMm hEI hY3).trans hkd2
          rw [hkd2] at hq2 hq3
          have TK := fun w lo h B d U L => TS w lo h B d y3 s hEI hY3 U L
          obtain ⟨s3, hs3⟩ : ∃ s3, s3 = eS a M y3 s := ⟨_, rfl⟩
          obtain ⟨y4, hy4⟩ : ∃ y4, y4 = gC M y3 s := ⟨_, rfl⟩
          obtain ⟨b3, hb3⟩ : ∃ b3, b3 = eB y3 s := ⟨_, rfl⟩
          simp only [← hs3, ← hy4, ← hb3] at TK hq1 hq2 hq3 hO4 hE3 hY4 hk4
          have TO3 := fun w B d h U => TO w B d y3 h U
          obtain ⟨zw, hzw⟩ : ∃ z, z = os (uf zs y3) M := ⟨_, rfl⟩
          have hrw : Ris zw := by rw [hzw]; exact ris_os _ _
          have hlz : zw.length ≤ M := by rw [hzw]; exact len_os _ _
          simp only [← hzw] at TO3 hq1 hq2 hq3
          obtain ⟨ub, hub⟩ : ∃ ub, ub = hasB zw (o : Int) := ⟨_, rfl⟩
          simp only [← hub] at hq2 hq3
          clear hs3 hy4 hb3 hEI hO hY2 TS hp hDR hzw
          replace hub := Lib.hid hub
          replace hO4 := Lib.hid hO4
          replace hE3 := Lib.hid hE3
          replace hY4 := Lib.hid hY4
          replace hk4 := Lib.hid hk4
          replace hkd2 := Lib.hid hkd2
          replace hq1 := Lib.hid hq1
          replace hq2 := Lib.hid hq2
          replace hq3 := Lib.hid hq3
          go_wp2_with (refine wpList_load_row rfl 27 (.tmp 4) rfl gH rfl _ _ (0, 0) _ (L.bk_ 2 rfl) Try.underlying27 rfl cf_sz ?_)
          refine ((TO3 _ _ _ (h0.below L.K) (L.us_ 0 rfl)).out).mono ?_
          rintro e w10 ⟨Az, nz, cz, rfl, I, K'⟩
          have Lb := L.lts
          replace L := L.over K'
          replace L := L.is_new Lb I
          clear Lb
          try dsimp only [lF, List.cons_append, List.nil_append] at L
          have hlw : nz ≤ 65535 := by have := I.len; omega
          clear I
          generalize w9.heap.size = lz at L
          cases b3
          · have qos := hq1.out rfl
            clear hq1 hq2 hq3
            rcases hkd with hkd | hkd
            · subst hkd
              go_wp2_with (first | (refine wpList_load_row rfl 27 (.tmp 4) rfl gH rfl _ _ (0, 0) _ (L.bk_ 2 rfl) Try.underlying27 rfl cf_sz ?_) | (refine wpList_load_row rfl 44 (.tmp 13) rfl gO rfl _ _ (0, 0) _ (L.bk_ 0 rfl) Try.underlying44 rfl op_sz ?_))
              refine ((TK _ _ _ _ _ (L.us_ 1 rfl) (L.of_ 2 rfl)).out).mono ?_
              rintro e w11 ⟨h4, B4, d4, rfl, U, L', hA, K'⟩
              have Lb := L.lts
              replace L := L.over K'
              replace L := L.us_av (fun i b e => hA b.1 (Lb i b e) (L.ap_ 1 rfl hm6.2.1 i b e)) U
              replace L := L.of_new Lb L'
              clear Lb
              try dsimp only [lF, List.cons_append, List.nil_append] at L
              clear U L' hA
              go_upto_region 17 with (refine wpList_store_row rfl 44 (.tmp 18) (.tmp 93) rfl _ _ rfl (show _ = Value.agg (opv h4 s3) from rfl) _ _ (Bk.new _ _ _) op_sz rfl (opv_one _ _) ?_)
              try rw [World.setRow_alloc_new]
              replace L := (L).alloc (opv h4 s3) 44
              try simp only [World.size_alloc] at L
              try dsimp only [nput] at L
              generalize (w11).alloc (.cells (opv h4 s3) 44) = w12 at L ⊢
              generalize w11.heap.size = gP at L ⊢
              go_wp2_with (refine wpList_load_row rfl 27 (.tmp 4) rfl gH rfl _ _ (0, 0) _ (L.bk_ 3 rfl) Try.underlying27 rfl cf_sz ?_)
              have TO4 := TO _ B4 d4 y4 (h0.below L.K) (L.us_ 1 rfl)
              rw [qos] at TO4
              refine (TO4.out).mono ?_
              rintro e w13 ⟨Ax, nx, cx, rfl, I, K'⟩
              have Lb := L.lts
              replace L := L.over K'
              replace L := L.is_new Lb I
              clear Lb
              try dsimp only [lF, List.cons_append, List.nil_append] at L
              clear I TO4
              generalize w12.heap.size = lx at L
              go_wp2_with fail
              have THs := rhas9_any (w := w13) (L.is_ 3 rfl) (by omega) (o : Int)
              rw [← hub.out] at THs
              refine (THs).mono ?_
              rintro e w' ⟨rfl, rfl⟩
              clear THs
              have X5_0 := L.at_ 2 0 rfl (v := .int .i64 2) rfl
              have X5_z := L.lt 2 rfl
              go_wp2_with fail
              refine (ints_same (L.is_ 3 rfl) (L.is_ 0 rfl) (by omega)).mono ?_
              rintro e w14 ⟨rfl, K'⟩
              clear X5_0 X5_z
              replace L := L.over K'
              go_upto_region 26 with fail
              go_upto_region 13 with (first | (refine wpList_load_row rfl 44 (.tmp 18) rfl gP rfl _ _ (0, 0) _ (L.bk_ 0 rfl) Try.underlying44 rfl op_sz ?_) | (refine wpList_store_row rfl 44 (.tmp 13) (.tmp 172) rfl gO _ rfl rfl _ _ (L.bk_ 1 rfl) op_sz rfl (opv_one _ _) ?_))
              replace L := (L.row 1 rfl (opv h4 s3))
              try dsimp only [nput] at L
              generalize (w14).setRow gO (opv h4 s3) = w15 at L ⊢
              go_wp2
              replace L := L.only (fs' := [oF h4 ⟨xs, [], [], []⟩, uF B4 m d4 y4]) (by simp)
              replace L := L.del 0
              dsimp only [ndel] at L
              go_roundw
              case rel => exact ⟨u + 1, e, h4, s3, B4, d4, y4, by omega, rfl, by go_num, by go_num, hE3.out, hY4.out, by have := hO4.out; simpa using this, hk4.out, L⟩
              case measure => simp [intOf]; omega
            · subst hkd
              go_wp2_with (first | (refine wpList_load_row rfl 27 (.tmp 4) rfl gH rfl _ _ (0, 0) _ (L.bk_ 2 rfl) Try.underlying27 rfl cf_sz ?_) | (refine wpList_load_row rfl 44 (.tmp 13) rfl gO rfl _ _ (0, 0) _ (L.bk_ 0 rfl) Try.underlying44 rfl op_sz ?_))
              refine ((TK _ _ _ _ _ (L.us_ 1 rfl) (L.of_ 2 rfl)).out).mono ?_
              rintro e w11 ⟨h4, B4, d4, rfl, U, L', hA, K'⟩
              have Lb := L.lts
              replace L := L.over K'
              replace L := L.us_av (fun i b e => hA b.1 (Lb i b e) (L.ap_ 1 rfl hm6.2.1 i b e)) U
              replace L := L.of_new Lb L'
              clear Lb
              try dsimp only [lF, List.cons_append, List.nil_append] at L
              clear U L' hA
              go_upto_region 17 with (refine wpList_store_row rfl 44 (.tmp 18) (.tmp 93) rfl _ _ rfl (show _ = Value.agg (opv h4 s3) from rfl) _ _ (Bk.new _ _ _) op_sz rfl (opv_one _ _) ?_)
              try rw [World.setRow_alloc_new]
              replace L := (L).alloc (opv h4 s3) 44
              try simp only [World.size_alloc] at L
              try dsimp only [nput] at L
              generalize (w11).alloc (.cells (opv h4 s3) 44) = w12 at L ⊢
              generalize w11.heap.size = gP at L ⊢
              go_wp2_with (refine wpList_load_row rfl 27 (.tmp 4) rfl gH rfl _ _ (0, 0) _ (L.bk_ 3 rfl) Try.underlying27 rfl cf_sz ?_)
              have TO4 := TO _ B4 d4 y4 (h0.below L.K) (L.us_ 1 rfl)
              rw [qos] at TO4
              refine (TO4.out).mono ?_
              rintro e w13 ⟨Ax, nx, cx, rfl, I, K'⟩
              have Lb := L.lts
              replace L := L.over K'
              replace L := L.is_new Lb I
              clear Lb
              try dsimp only [lF, List.cons_append, List.nil_append] at L
              clear I TO4
              generalize w12.heap.size = lx at L
              go_wp2_with fail
              have THs := rhas9_any (w := w13) (L.is_ 3 rfl) (by omega) (o : Int)
              rw [← hub.out] at THs
              refine (THs).mono ?_
              rintro e w' ⟨rfl, rfl⟩
              clear THs
              have X5_0 := L.at_ 2 0 rfl (v := .int .i64 5) rfl
              have X5_z := L.lt 2 rfl
              go_wp2_with fail
              refine (ints_same (L.is_ 3 rfl) (L.is_ 0 rfl) (by omega)).mono ?_
              rintro e w14 ⟨rfl, K'⟩
              clear X5_0 X5_z
              replace L := L.over K'
              go_upto_region 26 with fail
              go_upto_region 13 with (first | (refine wpList_load_row rfl 44 (.tmp 18) rfl gP rfl _ _ (0, 0) _ (L.bk_ 0 rfl) Try.underlying44 rfl op_sz ?_) | (refine wpList_store_row rfl 44 (.tmp 13) (.tmp 172) rfl gO _ rfl rfl _ _ (L.bk_ 1 rfl) op_sz rfl (opv_one _ _) ?_))
              replace L := (L.row 1 rfl (opv h4 s3))
              try dsimp only [nput] at L
              generalize (w14).setRow gO (opv h4 s3) = w15 at L ⊢
              go_wp2
              replace L := L.only (fs' := [oF h4 ⟨xs, [], [], []⟩, uF B4 m d4 y4]) (by simp)
              replace L := L.del 0
              dsimp only [ndel] at L
              go_roundw
              case rel => exact ⟨u + 1, e, h4, s3, B4, d4, y4, by omega, rfl, by go_num, by go_num, hE3.out, hY4.out, by have := hO4.out; simpa using this, hk4.out, L⟩
              case measure => simp [intOf]; omega
          · rcases hkd with hkd | hkd
            · have hq4 := hq3.out rfl hkd
              clear hq1 hq2 hq3
              subst hkd
              rcases hq4 with ⟨q1, qos, quv⟩ | ⟨q1, q2, quv, qos⟩
              · go_wp2_with (first | (refine wpList_load_row rfl 27 (.tmp 4) rfl gH rfl _ _ (0, 0) _ (L.bk_ 2 rfl) Try.underlying27 rfl cf_sz ?_) | (refine wpList_load_row rfl 44 (.tmp 13) rfl gO rfl _ _ (0, 0) _ (L.bk_ 0 rfl) Try.underlying44 rfl op_sz ?_))
                refine ((TK _ _ _ _ _ (L.us_ 1 rfl) (L.of_ 2 rfl)).out).mono ?_
                rintro e w11 ⟨h4, B4, d4, rfl, U, L', hA, K'⟩
                have Lb := L.lts
                replace L := L.over K'
                replace L := L.us_av (fun i b e => hA b.1 (Lb i b e) (L.ap_ 1 rfl hm6.2.1 i b e)) U
                replace L := L.of_new Lb L'
                clear Lb
                try dsimp only [lF, List.cons_append, List.nil_append] at L
                clear U L' hA
                go_upto_region 17 with (refine wpList_store_row rfl 44 (.tmp 18) (.tmp 93) rfl _ _ rfl (show _ = Value.agg (opv h4 s3) from rfl) _ _ (Bk.new _ _ _) op_sz rfl (opv_one _ _) ?_)
                try rw [World.setRow_alloc_new]
                replace L := (L).alloc (opv h4 s3) 44
                try simp only [World.size_alloc] at L
                try dsimp only [nput] at L
                generalize (w11).alloc (.cells (opv h4 s3) 44) = w12 at L ⊢
                generalize w11.heap.size = gP at L ⊢
                go_wp2_with (refine wpList_load_row rfl 27 (.tmp 4) rfl gH rfl _ _ (0, 0) _ (L.bk_ 3 rfl) Try.underlying27 rfl cf_sz ?_)
                have TO4 := TO _ B4 d4 y4 (h0.below L.K) (L.us_ 1 rfl)
                rw [qos] at TO4
                refine (TO4.out).mono ?_
                rintro e w13 ⟨Ax, nx, cx, rfl, I, K'⟩
                have Lb := L.lts
                replace L := L.over K'
                replace L := L.is_new Lb I
                clear Lb
                try dsimp only [lF, List.cons_append, List.nil_append] at L
                clear I TO4
                generalize w12.heap.size = lx at L
                go_wp2_with fail
                have THs := rhas9_any (w := w13) (L.is_ 3 rfl) (by omega) (o : Int)
                rw [← hub.out, quv] at THs
                refine (THs).mono ?_
                rintro e w' ⟨rfl, rfl⟩
                clear THs
                have X5_0 := L.at_ 2 0 rfl (v := .int .i64 2) rfl
                have X5_z := L.lt 2 rfl
                have P_3 := L.at_ 0 3 rfl (v := .int .i64 5) (by show some (Value.int .i64 s3.err) = _; rw [q1])
                have P_z := L.lt 0 rfl
                go_wp2_with fail
                refine (ints_same (L.is_ 3 rfl) (L.is_ 0 rfl) (by omega)).mono ?_
                rintro e w14 ⟨rfl, K'⟩
                clear X5_0 X5_z P_3 P_z
                replace L := L.over K'
                have X5_0 := L.at_ 2 0 rfl (v := .int .i64 2) rfl
                have X5_z := L.lt 2 rfl
                have P_3 := L.at_ 0 3 rfl (v := .int .i64 5) (by show some (Value.int .i64 s3.err) = _; rw [q1])
                have P_z := L.lt 0 rfl
                go_upto_region 26 with fail
                clear X5_0 X5_z P_3 P_z
                go_upto_region 13 with (first | (refine wpList_load_row rfl 44 (.tmp 18) rfl gP rfl _ _ (0, 0) _ (L.bk_ 0 rfl) Try.underlying44 rfl op_sz ?_) | (refine wpList_store_row rfl 44 (.tmp 13) (.tmp 172) rfl gO _ rfl rfl _ _ (L.bk_ 1 rfl) op_sz rfl (opv_one _ _) ?_))
                replace L := (L.row 1 rfl (opv h4 s3))
                try dsimp only [nput] at L
                generalize (w14).setRow gO (opv h4 s3) = w15 at L ⊢
                go_wp2
                replace L := L.only (fs' := [oF h4 ⟨xs, [], [], []⟩, uF B4 m d4 y4]) (by simp)
                replace L := L.del 0
                dsimp only [ndel] at L
                go_roundw
                case rel => exact ⟨u + 1, e + 1, h4, s3, B4, d4, y4, by omega, rfl, by go_num, by go_num, hE3.out, hY4.out, by have := hO4.out; simpa using this, hk4.out, L⟩
                case measure => simp [intOf]; omega
              · have q2b : s3.aad = (X : Int) := by rw [q2, hxo.out]
                clear q2
                go_wp2_with (first | (refine wpList_load_row rfl 27 (.tmp 4) rfl gH rfl _ _ (0, 0) _ (L.bk_ 2 rfl) Try.underlying27 rfl cf_sz ?_) | (refine wpList_load_row rfl 44 (.tmp 13) rfl gO rfl _ _ (0, 0) _ (L.bk_ 0 rfl) Try.underlying44 rfl op_sz ?_))
                refine ((TK _ _ _ _ _ (L.us_ 1 rfl) (L.of_ 2 rfl)).out).mono ?_
                rintro e w11 ⟨h4, B4, d4, rfl, U, L', hA, K'⟩
                have Lb := L.lts
                replace L := L.over K'
                replace L := L.us_av (fun i b e => hA b.1 (Lb i b e) (L.ap_ 1 rfl hm6.2.1 i b e)) U
                replace L := L.of_new Lb L'
                clear Lb
                try dsimp only [lF, List.cons_append, List.nil_append] at L
                clear U L' hA
                go_upto_region 17 with (refine wpList_store_row rfl 44 (.tmp 18) (.tmp 93) rfl _ _ rfl (show _ = Value.agg (opv h4 s3) from rfl) _ _ (Bk.new _ _ _) op_sz rfl (opv_one _ _) ?_)
                try rw [World.setRow_alloc_new]
                replace L := (L).alloc (opv h4 s3) 44
                try simp only [World.size_alloc] at L
                try dsimp only [nput] at L
                generalize (w11).alloc (.cells (opv h4 s3) 44) = w12 at L ⊢
                generalize w11.heap.size = gP at L ⊢
                go_wp2_with (refine wpList_load_row rfl 27 (.tmp 4) rfl gH rfl _ _ (0, 0) _ (L.bk_ 3 rfl) Try.underlying27 rfl cf_sz ?_)
                have TO4 := TO _ B4 d4 y4 (h0.below L.K) (L.us_ 1 rfl)
                rw [qos] at TO4
                refine (TO4.out).mono ?_
                rintro e w13 ⟨Ax, nx, cx, rfl, I, K'⟩
                have Lb := L.lts
                replace L := L.over K'
                replace L := L.is_new Lb I
                clear Lb
                try dsimp only [lF, List.cons_append, List.nil_append] at L
                clear I TO4
                generalize w12.heap.size = lx at L
                go_wp2_with fail
                have THs := rhas9_any (w := w13) (L.is_ 3 rfl) (by omega) (o : Int)
                rw [← hub.out, quv] at THs
                refine (THs).mono ?_
                rintro e w' ⟨rfl, rfl⟩
                clear THs
                have X5_0 := L.at_ 2 0 rfl (v := .int .i64 2) rfl
                have X5_1 := L.at_ 2 1 rfl (v := .int .u32 (X : Int)) rfl
                have X5_z := L.lt 2 rfl
                have P_3 := L.at_ 0 3 rfl (v := .int .i64 0) (by show some (Value.int .i64 s3.err) = _; rw [q1])
                have P_z := L.lt 0 rfl
                have P_4 := L.at_ 0 4 rfl (v := .int .u32 (X : Int)) (by show some (Value.int .u32 s3.aad) = _; rw [q2b])
                have P_z := L.lt 0 rfl
                go_wp2_with fail
                refine (rwith_new (L.is_ 3 rfl) (by omega) hrw (o : Int)).mono ?_
                rintro e w14 ⟨Av, nv, cv, rfl, I, K'⟩
                clear X5_0 X5_1 X5_z P_3 P_z P_4
                have Lb := L.lts
                replace L := L.over K'
                replace L := L.is_new Lb I
                clear Lb
                try dsimp only [lF, List.cons_append, List.nil_append] at L
                clear I
                generalize w13.heap.size = lv1 at L
                go_wp2_with fail
                have hnn : nx ≤ 65536 := by have := (L.is_ 1 rfl).len; have h8 := len_ins (xs := zw) (o : Int); have h9 := (L.is_ 4 rfl).len; omega
                refine (ints_same (L.is_ 1 rfl) (L.is_ 0 rfl) hnn).mono ?_
                rintro e w15 ⟨rfl, K'⟩
                replace L := L.over K'
                go_upto_region 26 with fail
                go_upto_region 13 with (first | (refine wpList_load_row rfl 44 (.tmp 18) rfl gP rfl _ _ (0, 0) _ (L.bk_ 0 rfl) Try.underlying44 rfl op_sz ?_) | (refine wpList_store_row rfl 44 (.tmp 13) (.tmp 172) rfl gO _ rfl rfl _ _ (L.bk_ 1 rfl) op_sz rfl (opv_one _ _) ?_))
                replace L := (L.row 1 rfl (opv h4 s3))
                try dsimp only [nput] at L
                generalize (w15).setRow gO (opv h4 s3) = w16 at L ⊢
                go_wp2
                replace L := L.only (fs' := [oF h4 ⟨xs, [], [], []⟩, uF B4 m d4 y4]) (by simp)
                replace L := L.del 0
                dsimp only [ndel] at L
                go_roundw
                case rel => exact ⟨u + 1, e + 1, h4, s3, B4, d4, y4, by omega, rfl, by go_num, by go_num, hE3.out, hY4.out, by have := hO4.out; simpa using this, hk4.out, L⟩
                case measure => simp [intOf]; omega
            · obtain ⟨qos, q1⟩ := hq2.out rfl hkd
              clear hq1 hq2 hq3
              subst hkd
              go_wp2_with (first | (refine wpList_load_row rfl 27 (.tmp 4) rfl gH rfl _ _ (0, 0) _ (L.bk_ 2 rfl) Try.underlying27 rfl cf_sz ?_) | (refine wpList_load_row rfl 44 (.tmp 13) rfl gO rfl _ _ (0, 0) _ (L.bk_ 0 rfl) Try.underlying44 rfl op_sz ?_))
              refine ((TK _ _ _ _ _ (L.us_ 1 rfl) (L.of_ 2 rfl)).out).mono ?_
              rintro e w11 ⟨h4, B4, d4, rfl, U, L', hA, K'⟩
              have Lb := L.lts
              replace L := L.over K'
              replace L := L.us_av (fun i b e => hA b.1 (Lb i b e) (L.ap_ 1 rfl hm6.2.1 i b e)) U
              replace L := L.of_new Lb L'
              clear Lb
              try dsimp only [lF, List.cons_append, List.nil_append] at L
              clear U L' hA
              go_upto_region 17 with (refine wpList_store_row rfl 44 (.tmp 18) (.tmp 93) rfl _ _ rfl (show _ = Value.agg (opv h4 s3) from rfl) _ _ (Bk.new _ _ _) op_sz rfl (opv_one _ _) ?_)
              try rw [World.setRow_alloc_new]
              replace L := (L).alloc (opv h4 s3) 44
              try simp only [World.size_alloc] at L
              try dsimp only [nput] at L
              generalize (w11).alloc (.cells (opv h4 s3) 44) = w12 at L ⊢
              generalize w11.heap.size = gP at L ⊢
              go_wp2_with (refine wpList_load_row rfl 27 (.tmp 4) rfl gH rfl _ _ (0, 0) _ (L.bk_ 3 rfl) Try.underlying27 rfl cf_sz ?_)
              have TO4 := TO _ B4 d4 y4 (h0.below L.K) (L.us_ 1 rfl)
              rw [qos] at TO4
              refine (TO4.out).mono ?_
              rintro e w13 ⟨Ax, nx, cx, rfl, I, K'⟩
              have Lb := L.lts
              replace L := L.over K'
              replace L := L.is_new Lb I
              clear Lb
              try dsimp only [lF, List.cons_append, List.nil_append] at L
              clear I TO4
              generalize w12.heap.size = lx at L
              go_wp2_with fail
              have THs := rhas9_any (w := w13) (L.is_ 3 rfl) (by omega) (o : Int)
              rw [← hub.out] at THs
              refine (THs).mono ?_
              rintro e w' ⟨rfl, rfl⟩
              clear THs
              have X5_0 := L.at_ 2 0 rfl (v := .int .i64 5) rfl
              have X5_z := L.lt 2 rfl
              go_wp2_with fail
              refine (ints_same (L.is_ 3 rfl) (L.is_ 0 rfl) (by omega)).mono ?_
              rintro e w14 ⟨rfl, K'⟩
              clear X5_0 X5_z
              replace L := L.over K'
              have X5_0 := L.at_ 2 0 rfl (v := .int .i64 5) rfl
              have X5_z := L.lt 2 rfl
              have P_5 := L.at_ 0 5 rfl (v := .bool ub) (by show some (Value.bool s3.used) = _; rw [q1])
              have P_z := L.lt 0 rfl
              go_upto_region 26 with fail
              clear X5_0 X5_z P_5 P_z
              go_upto_region 13 with (first | (refine wpList_load_row rfl 44 (.tmp 18) rfl gP rfl _ _ (0, 0) _ (L.bk_ 0 rfl) Try.underlying44 rfl op_sz ?_) | (refine wpList_store_row rfl 44 (.tmp 13) (.tmp 172) rfl gO _ rfl rfl _ _ (L.bk_ 1 rfl) op_sz rfl (opv_one _ _) ?_))
              replace L := (L.row 1 rfl (opv h4 s3))
              try dsimp only [nput] at L
              generalize (w14).setRow gO (opv h4 s3) = w15 at L ⊢
              go_wp2
              replace L := L.only (fs' := [oF h4 ⟨xs, [], [], []⟩, uF B4 m d4 y4]) (by simp)
              replace L := L.del 0
              dsimp only [ndel] at L
              go_roundw
              case rel => exact ⟨u + 1, e + 1, h4, s3, B4, d4, y4, by omega, rfl, by go_num, by go_num, hE3.out, hY4.out, by have := hO4.out; simpa using this, hk4.out, L⟩
              case measure => simp [intOf]; omega
        · have he1 : e = 1 := by rcases hO with ⟨_, h | h⟩ | ⟨h, _⟩ <;> omega
          subst he1
          clear hO TS
          have O_8 := L.at_ 0 8 rfl (v := .int .i64 0) (by show some (Value.int .i64 s.phase) = _; rw [hp])
          have O_z := L.lt 0 rfl
          have O_8 := L.at_ 0 8 rfl (v := .int .i64 0) (by show some (Value.int .i64 s.phase) = _; rw [hp])
          have O_z := L.lt 0 rfl
          go_wp2_with fail
          clear O_8 O_z
          go_ret
          exact ⟨rfl, L.K⟩
      · have huk : u = k2 := by omega
        have hno : ¬ ((u : Int) < (k2 : Int)) := by omega
        clear hu hlt
        by_cases hp : s.phase = 0
        rotate_left
        · have hp1 : (s.phase != 0) = true := by simp [hp]
          have he2 : (e : Int) ≤ 1 := by rcases hO with ⟨h, _⟩ | ⟨h, _⟩ <;> omega
          clear hO TS
          have O_8 := L.at_ 0 8 rfl (v := .int .i64 s.phase) rfl
          have O_z := L.lt 0 rfl
          go_wp2_with fail
          clear O_8 O_z
          go_ret
          exact ⟨rfl, L.K⟩
        · have he1 : e = 1 := by rcases hO with ⟨_, h | h⟩ | ⟨h, _⟩ <;> omega
          subst he1
          clear hO TS
          have O_8 := L.at_ 0 8 rfl (v := .int .i64 0) (by show some (Value.int .i64 s.phase) = _; rw [hp])
          have O_z := L.lt 0 rfl
          go_wp2_with fail
          clear O_8 O_z
          go_ret
          exact ⟨rfl, L.K⟩
theorem main (ha : a < 4294967296) (h0 : IS .i64 lo w A n c zs) (hs : IS .u32 lo2 w A0 n0 c0 xs) (hX : X < 4294967296) (hw : W32 xs) (hE : IS .u32 lo3 w E k q es) (he : ∀ x ∈ es, (Lit.int .u32 x).wf = true) (hE2 : IS .u32 lo4 w E2 k2 q2 es2) (he2 : ∀ x ∈ es2, (Lit.int .u32 x).wf = true) :
    Calls Try.prog 3 #[.agg #[.int .u32 (a : Int), .int .i64 p, .slice A n c, .int .i64 sh, .int .i64 wo, .int .i64 qu, .int .i64 tr], .agg #[.int .i64 kd, .int .u32 (X : Int), .slice A0 n0 c0], .slice E k q, .slice E2 k2 q2] w (RetBo true w) := by
  by_cases hk : k ≤ 200
  · by_cases hk2 : k2 ≤ 200
    · exact near ha h0 hs hX hw hE he hE2 he2 hk hk2
    · exact far2 ha h0 hs hX hw hE he hE2 he2 hk (by omega)
  · exact far1 ha h0 hs hX hw hE he hE2 he2 (by omega)
end
theorem walk (a p : Int) (A : Option Addr) (n c : Nat) (z : List Int) (sh wo qu tr : Int) (kd x : Int) (A0 : Option Addr) (n0 c0 : Nat) (zx : List Int) (E : Option Addr) (k q : Nat) (ze : List Int) (E2 : Option Addr) (k2 q2 : Nat) (ze2 : List Int) (w : World) (wa : (Lit.int .u32 a).wf = true) (wr : IsRow .i64 w A n c z) (wx : (Lit.int .u32 x).wf = true) (wxs : IsRow .u32 w A0 n0 c0 zx) (we : IsRow .u32 w E k q ze) (we2 : IsRow .u32 w E2 k2 q2 ze2) :
    Calls Try.prog 3 #[.agg #[.int .u32 a, .int .i64 p, .slice A n c, .int .i64 sh, .int .i64 wo, .int .i64 qu, .int .i64 tr], .agg #[.int .i64 kd, .int .u32 x, .slice A0 n0 c0], .slice E k q, .slice E2 k2 q2] w fun e w' => e = .returned (.bool true) ∧ Below w.heap.size w w' := by
  obtain ⟨a, rfl, ha⟩ := wf_u32 wa
  obtain ⟨zs, h0, _⟩ := IS.of_row wr
  obtain ⟨X, rfl, hX⟩ := wf_u32 wx
  obtain ⟨xs, hs, hw⟩ := row_w32 wxs
  obtain ⟨es, hE, he⟩ := IS.of_row we
  obtain ⟨es2, hE2, he2⟩ := IS.of_row we2
  exact main ha h0 hs hX hw hE he hE2 he2
end Go.Proofs.Ytacgjaohfcoigaa.exactOnce
