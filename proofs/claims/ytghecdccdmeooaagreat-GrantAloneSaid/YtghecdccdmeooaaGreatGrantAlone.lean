/-
  The walk of the law GrantAlone: for every configuration, home and doings of others it answers true.
-/
import Derived.Test.YtghecdccdmeooaaGreatGrA15
namespace Go.Proofs.YtghecdccdmeooaaGreat.grantAlone
set_option maxRecDepth 100000
open Go.RowKit
set_option linter.unusedVariables false
section
variable {w : World} {lo lo2 lo4 a X k q k2 q2 : Nat} {p sh wo qu tr : Int} {A E E2 : Option Addr} {n c : Nat} {zs es es2 : List Int}
set_option maxRecDepth 100000 in
set_option maxHeartbeats 2000000 in
theorem far (ha : a < 4294967296) (h0 : IS .i64 lo w A n c zs) (hX : X < 256) (hE : IS .u32 lo2 w E k q es) (he : ∀ x ∈ es, (Lit.int .u32 x).wf = true) (hk : 300 < k) :
    Calls Tryz.prog 4 #[.agg #[.int .u32 (a : Int), .int .i64 p, .slice A n c, .int .i64 sh, .int .i64 wo, .int .i64 qu, .int .i64 tr], .int .u8 (X : Int), .slice E k q] w (RetBo true w) := by
  have f0 : decide ((300 : Int) < (k : Int)) = true := by simp; omega
  go_enter Tryz.func4, Tryz.ntmps4
  go_upto_region 1 with (fail)
  have L := Loc.start w
  replace L := (L).alloc #[.int .u32 (a : Int), .int .i64 p, .slice A n c, .int .i64 sh, .int .i64 wo, .int .i64 qu, .int .i64 tr] 27
  try simp only [World.size_alloc] at L
  try dsimp only [nput] at L
  generalize (w).alloc (.cells #[.int .u32 (a : Int), .int .i64 p, .slice A n c, .int .i64 sh, .int .i64 wo, .int .i64 qu, .int .i64 tr] 27) = w1 at L ⊢
  generalize w.heap.size = gH at L ⊢
  go_wp2_with fail
  refine (awake_any _).mono ?_
  rintro e w2 ⟨rfl, K'⟩
  replace L := L.over K'
  go_wp2_with (refine wpList_load_want (by rfl) 27 (.tmp 3) rfl gH rfl _ _ (0, 0) _ (L.bk_ 0 rfl) Tryz.underlying27 rfl cf_sz ?_)
  refine (small_any ha (h0.below L.K)).mono ?_
  rintro e w3 ⟨bo, rfl, hB, K'⟩
  replace L := L.over K'
  rcases bo with _ | _
  · clear hB
    go_wp2_with fail
    refine (awake_any _).mono ?_
    rintro e w92 ⟨rfl, K'⟩
    replace L := L.over K'
    go_wp2
    go_ret
    exact ⟨rfl, L.K⟩
  replace hB := hB rfl
  clear hB
  go_wp2_with fail
  refine (awake_any _).mono ?_
  rintro e w4 ⟨rfl, K'⟩
  replace L := L.over K'
  go_wp2
  go_ret
  exact ⟨rfl, L.K⟩
set_option maxRecDepth 100000 in
set_option maxHeartbeats 2000000 in
theorem near (ha : a < 4294967296) (h0 : IS .i64 lo w A n c zs) (hX : X < 256) (hE : IS .u32 lo2 w E k q es) (he : ∀ x ∈ es, (Lit.int .u32 x).wf = true) (hk : k ≤ 300) :
    Calls Tryz.prog 4 #[.agg #[.int .u32 (a : Int), .int .i64 p, .slice A n c, .int .i64 sh, .int .i64 wo, .int .i64 qu, .int .i64 tr], .int .u8 (X : Int), .slice E k q] w (RetBo true w) := by
  have f0 : decide ((300 : Int) < (k : Int)) = false := by simp; omega
  replace he := Lib.hid he
  go_enter Tryz.func4, Tryz.ntmps4
  go_upto_region 1 with (fail)
  have L := Loc.start w
  replace L := (L).alloc #[.int .u32 (a : Int), .int .i64 p, .slice A n c, .int .i64 sh, .int .i64 wo, .int .i64 qu, .int .i64 tr] 27
  try simp only [World.size_alloc] at L
  try dsimp only [nput] at L
  generalize (w).alloc (.cells #[.int .u32 (a : Int), .int .i64 p, .slice A n c, .int .i64 sh, .int .i64 wo, .int .i64 qu, .int .i64 tr] 27) = w1 at L ⊢
  generalize w.heap.size = gH at L ⊢
  go_wp2_with fail
  refine (awake_any _).mono ?_
  rintro e w2 ⟨rfl, K'⟩
  replace L := L.over K'
  go_wp2_with (refine wpList_load_want (by rfl) 27 (.tmp 3) rfl gH rfl _ _ (0, 0) _ (L.bk_ 0 rfl) Tryz.underlying27 rfl cf_sz ?_)
  refine (small_any ha (h0.below L.K)).mono ?_
  rintro e w3 ⟨bo, rfl, hB, K'⟩
  replace L := L.over K'
  rcases bo with _ | _
  · clear hB
    go_wp2_with fail
    refine (awake_any _).mono ?_
    rintro e w92 ⟨rfl, K'⟩
    replace L := L.over K'
    go_wp2
    go_ret
    exact ⟨rfl, L.K⟩
  replace hB := hB rfl
  obtain ⟨M, ns, hC⟩ := hB
  have hshe := hC.ns_
  subst hshe
  have hM := hC.much
  have h1 := hC.ns1
  have h2 := hC.ns2
  have hM9 := hC.sml
  have hMp := hM.pos
  have hMm := hM.most
  have hn9 := hC.few
  have hfit := hM.fits ha
  have hlv : lv M ≤ 8 ∧ 1 ≤ lv M ∧ tv M = 1 := by unfold tv tq lv; omega
  obtain ⟨m, hm⟩ : ∃ m, m = lv M + tv M + 1 := ⟨_, rfl⟩
  have hm6 : m ≤ 65536 ∧ 0 < m ∧ lv M ≤ m := by omega
  obtain ⟨y0, hy0⟩ : ∃ y0, y0 = cl (nw M zs) (lv M) (tv M) (lv M) := ⟨_, rfl⟩
  have hY0 := yi_start (M := M) (zs := zs)
  have TW := fun w (h : IS .i64 lo w A n c zs) => Lib.hid (wcells_new (w := w) (sh := (ns : Int)) (wo := wo) (qu := qu) (tr := tr) ha hM h (by omega) hC.ris)
  rw [← hy0] at hY0
  simp only [← hy0, ← hm] at TW
  replace hm := Lib.hid hm
  clear hy0
  have TD := fun w D B d ys (hD : D < 4294967296) (hY : YI M zs ys) (h : IS .i64 lo w A n c zs) (U : US w B m d ys) => Lib.hid (dist_any (w := w) (p := p) (wo := wo) (qu := qu) (tr := tr) hD hC h hY U)
  have TO := fun w B d ys (h : IS .i64 lo w A n c zs) (U : US w B m d ys) => Lib.hid (rof_new (w := w) (sh := (ns : Int)) (wo := wo) (qu := qu) (tr := tr) hM h (by omega) U hm6.2.2 hm6.1)
  have TM := fun w => Lib.hid (most_any (w := w) (wo := wo) (qu := qu) (tr := tr) (A := A) (n := n) (c := c) hM h2)
  obtain ⟨MO, hMO⟩ : ∃ x, x = ns * (3 + tv M) + 2 * lv M + 6 := ⟨_, rfl⟩
  simp only [← hMO] at TM
  have hMOb : 1 ≤ MO ∧ MO ≤ 1000 := by rw [hMO]; have : ns * (3 + tv M) ≤ 64 * 4 := Nat.mul_le_mul h2 (by omega); omega
  have TS := fun w lo h B d ys s sn N (hN : N ≤ 60000) (hG : GI M ns zs N s sn) (hY : YI M zs ys) (U : US w B m d ys) (L : Lists lo w h (gl sn)) => Lib.hid (gstep_any (w := w) (lo := lo) (h := h) (s := s) (wo := wo) (qu := qu) (tr := tr) (A := A) (n := n) (c := c) ha hM h1 h2 hN hG hY U L)
  replace hMO := Lib.hid hMO
  go_wp2_with (refine wpList_load_row rfl 27 (.tmp 3) rfl gH rfl _ _ (0, 0) _ (L.bk_ 0 rfl) Tryz.underlying27 rfl cf_sz ?_)
  refine ((TW _ (h0.below L.K)).out).mono ?_
  rintro e w4 ⟨gU, dU, rfl, U, hgU, K'⟩
  have Lb := L.lts
  replace L := L.over K'
  replace L := L.us_av (fun i b e b' o e' => by injection e' with e'; injection e' with e1; have := Lb i b e; omega) U
  clear Lb
  try dsimp only [lF, List.cons_append, List.nil_append] at L
  clear U hgU
  go_wp2
  go_loopw [7, 8] (fun lv_ iv wr => ∃ (j : Nat) (B : Option Addr) (d : Nat) (ys : List Nat), j ≤ k ∧ lv_ = .slice B m d ∧ iv = .int .i64 (j : Nat) ∧ YI M zs ys ∧ Loc w wr [(gH, 27, #[.int .u32 (a : Int), .int .i64 p, .slice A n c, .int .i64 (ns : Int), .int .i64 wo, .int .i64 qu, .int .i64 tr])] [uF B m d ys]) (fun _ iv _ => k - (intOf iv).toNat)
  case atStart => exact ⟨0, _, _, y0, Nat.zero_le _, rfl, rfl, hY0.1, L⟩
  case round =>
    clear L
    obtain ⟨j, B, d, ys, hj, rfl, rfl, hY, L⟩ := hrel
    by_cases hlt : j < k
    · obtain ⟨be, oe, hEe, hbe, hce⟩ := hE.get hlt
      obtain ⟨D, hD, hD2⟩ := wf_u32 (he.out (gi es j) (gi_mem (by have := hE.len; omega)))
      rw [hD] at hce
      subst hEe
      clear hD
      have hj2 : (j : Int) < (k : Int) := by omega
      go_upto_region 7 with (fail)
      replace L := L.drew
      refine wp_region_held_drew (S := fun w' => Loc w w' [(gH, 27, #[.int .u32 (a : Int), .int .i64 p, .slice A n c, .int .i64 (ns : Int), .int .i64 wo, .int .i64 qu, .int .i64 tr])] [uF B m d ys]) (by kernel_rfl) L (fun hHeld => ?_)
      generalize wr.drew = v5 at hHeld L ⊢
      refine wpAnyH_take (i := 0) (oi := ⟨some 40, _, _, _, _, _⟩) (v := .agg (#[.int .u32 (a : Int), .int .i64 p, .slice A n c, .int .i64 (ns : Int), .int .i64 wo, .int .i64 qu, .int .i64 tr])) rfl (by kernel_rfl) (by kernel_rfl) (by kernel_rfl) (fun _ _ _ h => h) (yieldsIf_load_row (by rfl) 27 (.tmp 3) rfl gH rfl 27 _ (0, 0) _ (fun _ hS => (hS).bk_ 0 rfl) Tryz.underlying27 rfl cf_sz) hHeld ?_
      try simp only [Act.put, List.setIfInBounds_toArray, List.set_cons_zero, List.set_cons_succ]
      refine wpAnyH_take (i := 1) (oi := ⟨some 41, _, _, _, _, _⟩) (v := ?_) rfl (by kernel_rfl) (by kernel_rfl) (by kernel_rfl) (fun _ _ _ h => h) (Or.inl ⟨by rfl, ?_⟩) hHeld ?_
      rotate_left
      · intro ww hS
        try dsimp only at hS
        go_simp
        try with_reducible rfl
        try omega
      try simp only [Act.put, List.setIfInBounds_toArray, List.set_cons_zero, List.set_cons_succ]
      refine wpAnyH_take (i := 2) (oi := ⟨some 42, _, _, _, _, _⟩) (v := .slice (some ⟨be, oe, none⟩) k q) rfl (by kernel_rfl) (by kernel_rfl) (by kernel_rfl) (fun _ _ _ h => h) (Or.inl ⟨by rfl, ?_⟩) hHeld ?_
      · intro ww hS
        try dsimp only at hS
        go_simp
        try with_reducible rfl
        try omega
      try simp only [Act.put, List.setIfInBounds_toArray, List.set_cons_zero, List.set_cons_succ]
      refine wpAnyH_take (i := 3) (oi := ⟨some 43, _, _, _, _, _⟩) (v := .int .i64 (j : Int)) rfl (by kernel_rfl) (by kernel_rfl) (by kernel_rfl) (fun _ _ _ h => h) (Or.inl ⟨by rfl, ?_⟩) hHeld ?_
      · intro ww hS
        try dsimp only at hS
        go_simp
        try with_reducible rfl
        try omega
      try simp only [Act.put, List.setIfInBounds_toArray, List.set_cons_zero, List.set_cons_succ]
      refine wpAnyH_take (i := 4) (oi := ⟨some 44, _, _, _, _, _⟩) (v := .pointer (some ⟨be, oe + j, none⟩)) rfl (by kernel_rfl) (by kernel_rfl) (by kernel_rfl) (fun _ _ _ h => h) (Or.inl ⟨by rfl, ?_⟩) hHeld ?_
      · intro ww hS
        try dsimp only at hS
        go_simp
        try with_reducible rfl
        try omega
      try simp only [Act.put, List.setIfInBounds_toArray, List.set_cons_zero, List.set_cons_succ]
      refine wpAnyH_take (i := 5) (oi := ⟨some 45, _, _, _, _, _⟩) (v := .int .u32 (D : Int)) rfl (by kernel_rfl) (by kernel_rfl) (by kernel_rfl) (fun _ _ _ h => h) (Or.inl ⟨by rfl, ?_⟩) hHeld ?_
      · intro ww hS
        try dsimp only at hS
        have XE := (((hS)).K.cell (p := ⟨be, oe + j, none⟩) hbe).trans hce
        go_simp
        try with_reducible rfl
        try omega
      try simp only [Act.put, List.setIfInBounds_toArray, List.set_cons_zero, List.set_cons_succ]
      refine wpAnyH_ready (rs := [6]) (by kernel_rfl) (by simp) ?_
      refine AllReadyH.cons (o := ⟨some 46, _, _, _, _, _⟩) rfl (fun K0 hK => ?_) AllReadyH.nil
      go_simp
      refine ((TD _ _ _ _ _ hD2 hY (h0.below L.K) (L.us_ 0 rfl)).out).mono ?_
      rintro e w6 ⟨B3, d3, y3, rfl, U, hDR, hA, K'⟩
      have Lb := L.lts
      replace L := L.over K'
      replace L := L.us_av (fun i b e => hA b.1 (Lb i b e) (L.ap_ 0 rfl hm6.2.1 i b e)) U
      clear Lb
      try dsimp only [lF, List.cons_append, List.nil_append] at L
      clear U hA
      refine hK.out _ _ (L.less 1) (fun hHeld' => ?_)
      clear hHeld hK K0
      have hHeld := hHeld'
      clear hHeld'
      clear K'
      try simp only [Act.put, List.setIfInBounds_toArray, List.set_cons_zero, List.set_cons_succ]
      refine wpAnyH_take (i := 7) (oi := ⟨some 7, _, _, _, _, _⟩) (v := .slice B3 m d3) rfl (by kernel_rfl) (by kernel_rfl) (by kernel_rfl) (fun _ _ _ h => h) (Or.inl ⟨by rfl, ?_⟩) hHeld ?_
      · intro ww hS
        try dsimp only at hS
        go_simp
        try with_reducible rfl
        try omega
      try simp only [Act.put, List.setIfInBounds_toArray, List.set_cons_zero, List.set_cons_succ]
      refine wpAnyH_done (by kernel_rfl) ?_ _
      clear hHeld
      go_wp2
      replace L := L.only (fs' := [uF B3 m d3 y3]) (by simp)
      go_roundw
      case rel => exact ⟨j + 1, B3, d3, y3, by omega, rfl, by go_num, (dist_leaf hMm hY hDR).1, L⟩
      case measure => simp [intOf]; omega
    have hjk : j = k := by omega
    have hno : ¬ ((j : Int) < (k : Int)) := by omega
    clear hj hlt
    obtain ⟨hd, ehd1, ehd2, hhd⟩ := ghd_of (X := X) h1
    have hns0 : ¬ ((ns : Int) = 0) := by omega
    go_wp2_with (refine wpList_load_row rfl 27 (.tmp 3) rfl gH rfl _ _ (0, 0) _ (L.bk_ 0 rfl) Tryz.underlying27 rfl cf_sz ?_)
    refine ((TO _ _ _ _ (h0.below L.K) (L.us_ 0 rfl)).out).mono ?_
    rintro e w5 ⟨Az, nz, cz, rfl, I, K'⟩
    have Lb := L.lts
    replace L := L.over K'
    replace L := L.is_new Lb I
    clear Lb
    try dsimp only [lF, List.cons_append, List.nil_append] at L
    clear I
    generalize wr.heap.size = lz at L
    have H_3 := L.at_ 0 3 rfl (v := .int .i64 (ns : Int)) rfl
    have H_z := L.lt 0 rfl
    go_wp2_with fail
    refine (gbegin_any (hd : Int)).mono ?_
    rintro e w6 ⟨rfl, K'⟩
    clear H_3 H_z
    replace L := L.over K'
    go_upto_region 10 with (refine wpList_store_row rfl 40 (.tmp 10) (.tmp 55) rfl _ _ rfl (show _ = Value.agg (opv hd0 (gS0 (hd : Int))) from rfl) _ _ (Bk.new _ _ _) op_sz rfl (opv_one _ _) ?_)
    try rw [World.setRow_alloc_new]
    replace L := (L).alloc (opv hd0 (gS0 (hd : Int))) 40
    try simp only [World.size_alloc] at L
    try dsimp only [nput] at L
    generalize (w6).alloc (.cells (opv hd0 (gS0 (hd : Int))) 40) = w7 at L ⊢
    generalize w6.heap.size = gO at L ⊢
    go_wp2
    clear ehd1 ehd2 hns0 hno
    replace L := L.gf0
    go_loopw [7, 11, 12] (fun lv_ ev iv wr => ∃ (u e : Nat) (h : Hd) (s : Sc) (sn : List Nat) (B2 : Option Addr) (d2 : Nat) (y2 : List Nat), u < MO ∧ e ≤ 1 ∧ lv_ = .slice B2 m d2 ∧ ev = .int .i64 (e : Nat) ∧ iv = .int .i64 (u : Nat) ∧ GI M ns zs u s sn ∧ YI M zs y2 ∧ GA a M ns zs ys y2 s sn e (MO - 1 - u) ∧ Loc w wr [(gO, 40, opv h s), (gH, 27, #[.int .u32 (a : Int), .int .i64 p, .slice A n c, .int .i64 (ns : Int), .int .i64 wo, .int .i64 qu, .int .i64 tr])] [gF h sn, uF B2 m d2 y2, iF .i64 lz Az nz cz (os (uf zs ys) M)]) (fun _ _ iv _ => MO - (intOf iv).toNat)
    case atStart =>
      replace L := L.only (fs' := [gF hd0 [], uF B m d ys, iF .i64 lz Az nz cz (os (uf zs ys) M)]) (by simp)
      exact ⟨0, 0, hd0, gS0 (hd : Int), [], B, d, ys, by omega, by omega, rfl, rfl, rfl, gi_start (by omega) (by omega), hY, by have := ga_start (a := a) (M := M) (ns := ns) (zs := zs) (ys := ys) (hd := (hd : Int)) h1; rwa [show MO - 1 - 0 = ns * (3 + tv M) + 2 * lv M + 5 by rw [hMO.out]; omega], L⟩
    case round =>
      clear L
      obtain ⟨u, e, h, s, sn, B2, d2, y2, hu, hee, rfl, rfl, rfl, hG, hY2, hA, L⟩ := hrel
      have hu2 : (u : Int) < (MO : Int) := by omega
      by_cases hp : s.phase = 0
      rotate_left
      · have hp1 : (s.phase != 0) = true := by simp [hp]
        obtain ⟨hl1, hA3⟩ := ga_step hMm hMp h1 hG hY2 hA hp
        obtain ⟨hG3, hY3⟩ := gi_step (a := a) hMm hMp h1 hG hY2
        have TK := fun w lo h B d U L => TS w lo h B d y2 s sn u (by omega) hG hY2 U L
        obtain ⟨s3, hs3⟩ : ∃ s3, s3 = gS a M ns y2 s sn := ⟨_, rfl⟩
        obtain ⟨n3, hn3⟩ : ∃ n3, n3 = gN M y2 s sn := ⟨_, rfl⟩
        obtain ⟨y3, hy3⟩ : ∃ y3, y3 = gC M y2 s := ⟨_, rfl⟩
        obtain ⟨b3, hb3⟩ : ∃ b3, b3 = gB M y2 s sn := ⟨_, rfl⟩
        simp only [← hs3, ← hn3, ← hy3, ← hb3] at TK hA3 hG3 hY3
        clear hs3 hn3 hy3 hb3 hG hA hY2 TS hp
        have e1 : IntKind.i64.wrap ((e : Int) + 1) = (e : Int) + 1 := IntWalk.i64_in _ (by omega)
        replace hA3 := Lib.hid hA3
        replace hG3 := Lib.hid hG3
        have hb4 : e + (if b3 = true then 1 else 0) ≤ 1 := by rcases hA3.out with ⟨h, _⟩ | ⟨h, _⟩ <;> omega
        replace hb4 := Lib.hid hb4
        cases b3
        · skip
          go_wp2_with (refine wpList_load_row rfl 27 (.tmp 3) rfl gH rfl _ _ (0, 0) _ (L.bk_ 1 rfl) Tryz.underlying27 rfl cf_sz ?_)
          refine ((TM _).out).mono ?_
          rintro e w8 ⟨rfl, K'⟩
          replace L := L.over K'
          have O_8 := L.at_ 0 8 rfl (v := .int .i64 s.phase) rfl
          have O_z := L.lt 0 rfl
          go_wp2_with (first | (refine wpList_load_row rfl 27 (.tmp 3) rfl gH rfl _ _ (0, 0) _ (L.bk_ 1 rfl) Tryz.underlying27 rfl cf_sz ?_) | (refine wpList_load_row rfl 40 (.tmp 10) rfl gO rfl _ _ (0, 0) _ (L.bk_ 0 rfl) Tryz.underlying40 rfl op_sz ?_))
          refine ((TK _ _ _ _ _ (L.us_ 1 rfl) (L.gf_ 0 rfl)).out).mono ?_
          rintro e w9 ⟨h3, B3, d3, rfl, U, L', hA, K'⟩
          clear O_8 O_z
          have Lb := L.lts
          replace L := L.over K'
          replace L := L.us_av (fun i b e => hA b.1 (Lb i b e) (L.ap_ 1 rfl hm6.2.1 i b e)) U
          replace L := L.gf Lb L'
          clear Lb
          try dsimp only [lF, List.cons_append, List.nil_append] at L
          clear U L' hA
          go_upto_region 15 with (refine wpList_store_row rfl 40 (.tmp 14) (.tmp 73) rfl _ _ rfl (show _ = Value.agg (opv h3 s3) from rfl) _ _ (Bk.new _ _ _) op_sz rfl (opv_one _ _) ?_)
          try rw [World.setRow_alloc_new]
          replace L := (L).alloc (opv h3 s3) 40
          try simp only [World.size_alloc] at L
          try dsimp only [nput] at L
          generalize (w9).alloc (.cells (opv h3 s3) 40) = w10 at L ⊢
          generalize w9.heap.size = gP at L ⊢
          go_upto_region 13 with (first | (refine wpList_load_row rfl 40 (.tmp 14) rfl gP rfl _ _ (0, 0) _ (L.bk_ 0 rfl) Tryz.underlying40 rfl op_sz ?_) | (refine wpList_store_row rfl 40 (.tmp 10) (.tmp 79) rfl gO _ rfl rfl _ _ (L.bk_ 1 rfl) op_sz rfl (opv_one _ _) ?_))
          replace L := (L.row 1 rfl (opv h3 s3))
          try dsimp only [nput] at L
          generalize (w10).setRow gO (opv h3 s3) = w11 at L ⊢
          go_wp2
          replace L := L.only (fs' := [gF h3 n3, uF B3 m d3 y3, iF .i64 lz Az nz cz (os (uf zs ys) M)]) (by simp)
          replace L := L.del 0
          dsimp only [ndel] at L
          go_roundw
          case rel => exact ⟨u + 1, e, h3, s3, n3, B3, d3, y3, by omega, by have := hb4.out; simpa using this, rfl, by go_num, by go_num, hG3.out, hY3, by have := hA3.out; simpa [show MO - 1 - u - 1 = MO - 1 - (u + 1) by omega] using this, L⟩
          case measure => simp [intOf]; omega
        · skip
          go_wp2_with (refine wpList_load_row rfl 27 (.tmp 3) rfl gH rfl _ _ (0, 0) _ (L.bk_ 1 rfl) Tryz.underlying27 rfl cf_sz ?_)
          refine ((TM _).out).mono ?_
          rintro e w8 ⟨rfl, K'⟩
          replace L := L.over K'
          have O_8 := L.at_ 0 8 rfl (v := .int .i64 s.phase) rfl
          have O_z := L.lt 0 rfl
          go_wp2_with (first | (refine wpList_load_row rfl 27 (.tmp 3) rfl gH rfl _ _ (0, 0) _ (L.bk_ 1 rfl) Tryz.underlying27 rfl cf_sz ?_) | (refine wpList_load_row rfl 40 (.tmp 10) rfl gO rfl _ _ (0, 0) _ (L.bk_ 0 rfl) Tryz.underlying40 rfl op_sz ?_))
          refine ((TK _ _ _ _ _ (L.us_ 1 rfl) (L.gf_ 0 rfl)).out).mono ?_
          rintro e w9 ⟨h3, B3, d3, rfl, U, L', hA, K'⟩
          clear O_8 O_z
          have Lb := L.lts
          replace L := L.over K'
          replace L := L.us_av (fun i b e => hA b.1 (Lb i b e) (L.ap_ 1 rfl hm6.2.1 i b e)) U
          replace L := L.gf Lb L'
          clear Lb
          try dsimp only [lF, List.cons_append, List.nil_append] at L
          clear U L' hA
          go_upto_region 15 with (refine wpList_store_row rfl 40 (.tmp 14) (.tmp 73) rfl _ _ rfl (show _ = Value.agg (opv h3 s3) from rfl) _ _ (Bk.new _ _ _) op_sz rfl (opv_one _ _) ?_)
          try rw [World.setRow_alloc_new]
          replace L := (L).alloc (opv h3 s3) 40
          try simp only [World.size_alloc] at L
          try dsimp only [nput] at L
          generalize (w9).alloc (.cells (opv h3 s3) 40) = w10 at L ⊢
          generalize w9.heap.size = gP at L ⊢
          go_upto_region 13 with (first | (refine wpList_load_row rfl 40 (.tmp 14) rfl gP rfl _ _ (0, 0) _ (L.bk_ 0 rfl) Tryz.underlying40 rfl op_sz ?_) | (refine wpList_store_row rfl 40 (.tmp 10) (.tmp 79) rfl gO _ rfl rfl _ _ (L.bk_ 1 rfl) op_sz rfl (opv_one _ _) ?_))
          replace L := (L.row 1 rfl (opv h3 s3))
          try dsimp only [nput] at L
          generalize (w10).setRow gO (opv h3 s3) = w11 at L ⊢
          go_wp2
          replace L := L.only (fs' := [gF h3 n3, uF B3 m d3 y3, iF .i64 lz Az nz cz (os (uf zs ys) M)]) (by simp)
          replace L := L.del 0
          dsimp only [ndel] at L
          go_roundw
          case rel => exact ⟨u + 1, e + 1, h3, s3, n3, B3, d3, y3, by omega, by have := hb4.out; simpa using this, rfl, by go_num, by go_num, hG3.out, hY3, by have := hA3.out; simpa [show MO - 1 - u - 1 = MO - 1 - (u + 1) by omega] using this, L⟩
          case measure => simp [intOf]; omega
      · have hp1 : (s.phase != 0) = false := by rw [hp]; rfl
        obtain ⟨he1, hR⟩ := ga_done hA hp
        subst he1
        have hRs := hR.sets hY
        clear hA hR TS
        rcases hRs with ⟨q1, q2, o, q3, q4, q5, q6, q7⟩ | ⟨q1, q2, q3⟩
        · have q6b : s.aad = ((a + o : Nat) : Int) := by rw [q6, Nat.mod_eq_of_lt (by omega)]
          have TF := fun w (h : IS .i64 lo w A n c zs) => Lib.hid (rfind_ok (w := w) (sh := (ns : Int)) (wo := wo) (qu := qu) (tr := tr) (a + o) (by omega) hM (by omega) (by omega) h (by omega) (by rw [Nat.add_sub_cancel_left]; exact q4))
          simp only [Nat.add_sub_cancel_left] at TF
          obtain ⟨x, hx⟩ : ∃ x, x = a + o := ⟨_, rfl⟩
          rw [← hx] at q6b
          simp only [← hx] at TF
          clear q6 q4 hx q2
          have TO2 := fun w h U => TO w B2 d2 y2 h U
          simp only [q7] at TO2
          obtain ⟨zw, hzw⟩ : ∃ z, z = os (uf zs ys) M := ⟨_, rfl⟩
          have hrw : Ris zw := by rw [hzw]; exact ris_os _ _
          rw [← hzw] at L q5
          simp only [← hzw] at TO2
          have hlw : nz ≤ 65535 := by have h9 := (L.is_ 2 rfl).len; have := len_os (uf zs ys) M; rw [← hzw] at this; omega
          clear hzw q7 TO
          go_wp2_with (refine wpList_load_row rfl 27 (.tmp 3) rfl gH rfl _ _ (0, 0) _ (L.bk_ 1 rfl) Tryz.underlying27 rfl cf_sz ?_)
          refine ((TM _).out).mono ?_
          rintro e w8 ⟨rfl, K'⟩
          replace L := L.over K'
          have O_8 := L.at_ 0 8 rfl (v := .int .i64 s.phase) rfl
          have O_z := L.lt 0 rfl
          go_wp2_with (refine wpList_load_row rfl 27 (.tmp 3) rfl gH rfl _ _ (0, 0) _ (L.bk_ 1 rfl) Tryz.underlying27 rfl cf_sz ?_)
          refine ((TO2 _ (h0.below L.K) (L.us_ 1 rfl)).out).mono ?_
          rintro e w9 ⟨An, nn, cn, rfl, I, K'⟩
          clear O_8 O_z
          have Lb := L.lts
          replace L := L.over K'
          replace L := L.is_new Lb I
          clear Lb
          try dsimp only [lF, List.cons_append, List.nil_append] at L
          clear I
          have O_8 := L.at_ 0 8 rfl (v := .int .i64 0) (by show some (Value.int .i64 s.phase) = _; rw [hp])
          have O_z := L.lt 0 rfl
          have O_3 := L.at_ 0 3 rfl (v := .int .i64 0) (by show some (Value.int .i64 s.err) = _; rw [q1])
          have O_z := L.lt 0 rfl
          have O_4 := L.at_ 0 4 rfl (v := .int .u32 (x : Int)) (by show some (Value.int .u32 s.aad) = _; rw [q6b])
          have O_z := L.lt 0 rfl
          go_wp2_with (refine wpList_load_row rfl 27 (.tmp 3) rfl gH rfl _ _ (0, 0) _ (L.bk_ 1 rfl) Tryz.underlying27 rfl cf_sz ?_)
          refine ((TF _ (h0.below L.K)).out).mono ?_
          rintro e w10 ⟨rfl, K'⟩
          clear O_8 O_z O_3 O_4
          replace L := L.over K'
          go_wp2_with fail
          have THs := rhas9_any (w := w10) (L.is_ 3 rfl) (by omega) (o : Int)
          rw [q5] at THs
          refine (THs).mono ?_
          rintro e w' ⟨rfl, rfl⟩
          clear THs
          go_wp2_with fail
          refine (rwith_new (L.is_ 3 rfl) (by omega) hrw (o : Int)).mono ?_
          rintro e w11 ⟨Ax, nx, cx, rfl, I, K'⟩
          have Lb := L.lts
          replace L := L.over K'
          replace L := L.is_new Lb I
          clear Lb
          try dsimp only [lF, List.cons_append, List.nil_append] at L
          clear I
          go_wp2_with fail
          have hnn : nn ≤ 65536 := by have := (L.is_ 1 rfl).len; have h8 := len_ins (xs := zw) (o : Int); have h9 := (L.is_ 4 rfl).len; omega
          refine (ints_same (L.is_ 1 rfl) (L.is_ 0 rfl) hnn).mono ?_
          rintro e w12 ⟨rfl, K'⟩
          replace L := L.over K'
          go_wp2
          go_ret
          exact ⟨rfl, L.K⟩
        · have TO2 := fun w h U => TO w B2 d2 y2 h U
          simp only [q3] at TO2
          obtain ⟨zw, hzw⟩ : ∃ z, z = os (uf zs ys) M := ⟨_, rfl⟩
          rw [← hzw] at L q2
          simp only [← hzw] at TO2
          have hlw : nz ≤ 65536 := by have h9 := (L.is_ 2 rfl).len; have := len_os (uf zs ys) M; rw [← hzw] at this; omega
          clear hzw q3
          go_wp2_with (refine wpList_load_row rfl 27 (.tmp 3) rfl gH rfl _ _ (0, 0) _ (L.bk_ 1 rfl) Tryz.underlying27 rfl cf_sz ?_)
          refine ((TM _).out).mono ?_
          rintro e w8 ⟨rfl, K'⟩
          replace L := L.over K'
          have O_8 := L.at_ 0 8 rfl (v := .int .i64 s.phase) rfl
          have O_z := L.lt 0 rfl
          go_wp2_with (refine wpList_load_row rfl 27 (.tmp 3) rfl gH rfl _ _ (0, 0) _ (L.bk_ 1 rfl) Tryz.underlying27 rfl cf_sz ?_)
          refine ((TO2 _ (h0.below L.K) (L.us_ 1 rfl)).out).mono ?_
          rintro e w9 ⟨An, nn, cn, rfl, I, K'⟩
          clear O_8 O_z
          have Lb := L.lts
          replace L := L.over K'
          replace L := L.is_new Lb I
          clear Lb
          try dsimp only [lF, List.cons_append, List.nil_append] at L
          clear I
          have O_8 := L.at_ 0 8 rfl (v := .int .i64 0) (by show some (Value.int .i64 s.phase) = _; rw [hp])
          have O_z := L.lt 0 rfl
          have O_3 := L.at_ 0 3 rfl (v := .int .i64 9) (by show some (Value.int .i64 s.err) = _; rw [q1])
          have O_z := L.lt 0 rfl
          have O_3 := L.at_ 0 3 rfl (v := .int .i64 9) (by show some (Value.int .i64 s.err) = _; rw [q1])
          have O_z := L.lt 0 rfl
          go_wp2_with (refine wpList_load_want (by rfl) 27 (.tmp 3) rfl gH rfl _ _ (0, 0) _ (L.bk_ 1 rfl) Tryz.underlying27 rfl cf_sz ?_)
          have TFu := rfull9_any (w := w9) (sh := (ns : Int)) (wo := wo) (qu := qu) (tr := tr) hM (h0.below L.K) (by omega) (L.is_ 3 rfl) hlw
          rw [q2] at TFu
          refine (TFu).mono ?_
          rintro e w10 ⟨rfl, K'⟩
          clear O_8 O_z O_3
          replace L := L.over K'
          clear TFu
          go_wp2_with fail
          refine (ints_same (L.is_ 3 rfl) (L.is_ 0 rfl) hlw).mono ?_
          rintro e w11 ⟨rfl, K'⟩
          replace L := L.over K'
          go_wp2
          go_ret
          exact ⟨rfl, L.K⟩
theorem main (ha : a < 4294967296) (h0 : IS .i64 lo w A n c zs) (hX : X < 256) (hE : IS .u32 lo2 w E k q es) (he : ∀ x ∈ es, (Lit.int .u32 x).wf = true) :
    Calls Tryz.prog 4 #[.agg #[.int .u32 (a : Int), .int .i64 p, .slice A n c, .int .i64 sh, .int .i64 wo, .int .i64 qu, .int .i64 tr], .int .u8 (X : Int), .slice E k q] w (RetBo true w) := by
  by_cases hk : k ≤ 300
  · exact near ha h0 hX hE he hk
  · exact far ha h0 hX hE he (by omega)
end
theorem walk (a p : Int) (A : Option Addr) (n c : Nat) (z : List Int) (sh wo qu tr : Int) (x : Int) (E : Option Addr) (k q : Nat) (ze : List Int) (w : World) (wa : (Lit.int .u32 a).wf = true) (wr : IsRow .i64 w A n c z) (wx : (Lit.int .u8 x).wf = true) (we : IsRow .u32 w E k q ze) :
    Calls Tryz.prog 4 #[.agg #[.int .u32 a, .int .i64 p, .slice A n c, .int .i64 sh, .int .i64 wo, .int .i64 qu, .int .i64 tr], .int .u8 x, .slice E k q] w fun e w' => e = .returned (.bool true) ∧ Below w.heap.size w w' := by
  obtain ⟨a, rfl, ha⟩ := wf_u32 wa
  obtain ⟨zs, h0, _⟩ := IS.of_row wr
  obtain ⟨X, rfl, hX⟩ := wf_u8 wx
  obtain ⟨es, hE, he⟩ := IS.of_row we
  exact main ha h0 hX hE he
end Go.Proofs.YtghecdccdmeooaaGreat.grantAlone

