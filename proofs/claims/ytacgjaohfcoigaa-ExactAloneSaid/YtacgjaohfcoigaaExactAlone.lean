/-
  The walk of the law ExactAlone: for every configuration, request and doings of others it answers true.
-/
import Derived.Test.YtacgjaohfcoigaaEx12
import Derived.Deep.DeepCutAuto
namespace Go.Proofs.Ytacgjaohfcoigaa.exactAlone
set_option maxRecDepth 100000
open Go.RowKit
set_option linter.unusedVariables false
section
variable {w : World} {lo lo2 lo3 lo4 a X k q k2 q2 n0 c0 : Nat} {p sh wo qu tr kd : Int} {A A0 E E2 : Option Addr} {n c : Nat} {zs xs es es2 : List Int}
theorem qy_used {a M o : Nat} {zs : List Int} {ys : List Nat} {s : Sc} (hE : EI a M zs o s) (hk : s.kind = 5) (hp : s.phase = 8) (hu : usd o ys = true) : eB ys s = true ∧ (eS a M ys s).used = true ∧ (eS a M ys s).phase = 0 := by
  rw [(es_read (a := a) (M := M) (ys := ys) hp).1]
  unfold eB xkS
  rw [if_pos hp, if_neg (by omega), hk, hE.fl, hE.fb]
  exact ⟨rfl, hu, rfl⟩
theorem ex_used {a M o : Nat} {zs : List Int} {ys : List Nat} {s : Sc} (hE : EI a M zs o s) (hk : s.kind = 2) (hp : s.phase = 8) (hu : usd o ys = true) : eB ys s = true ∧ (eS a M ys s).err = 5 := by
  unfold usd at hu
  rw [(es_read (a := a) (M := M) (ys := ys) hp).1]
  unfold eB xkS
  rw [if_pos hp, if_pos hk, hk, hE.fl, hE.fb, hu]
  exact ⟨rfl, rfl⟩
theorem ea_start {o : Nat} {ys : List Nat} {s : Sc} (hp : s.phase = 8) : EA o ys s (usd o ys) := by
  cases hu : usd o ys with
  | false => exact .inl ⟨rfl, hu, .inl hp⟩
  | true => exact .inr (.inr ⟨rfl, hu, .inl hp⟩)
set_option maxRecDepth 100000 in
set_option maxHeartbeats 2000000 in
theorem far (ha : a < 4294967296) (h0 : IS .i64 lo w A n c zs) (hX : X < 4294967296) (hE : IS .u32 lo3 w E k q es) (he : ∀ x ∈ es, (Lit.int .u32 x).wf = true) (hk : 300 < k) :
    Calls Try.prog 4 #[.agg #[.int .u32 (a : Int), .int .i64 p, .slice A n c, .int .i64 sh, .int .i64 wo, .int .i64 qu, .int .i64 tr], .int .u32 (X : Int), .slice E k q] w (RetBo true w) := by
  have f0 : decide ((300 : Int) < (k : Int)) = true := by simp; omega
  go_enter Try.func4, Try.ntmps4
  go_upto_region 1 with (fail)
  have L := Loc.start w
  replace L := (L).alloc #[.int .u32 (a : Int), .int .i64 p, .slice A n c, .int .i64 sh, .int .i64 wo, .int .i64 qu, .int .i64 tr] 27
  try simp only [World.size_alloc] at L
  try dsimp only [nput] at L
  generalize (w).alloc (.cells #[.int .u32 (a : Int), .int .i64 p, .slice A n c, .int .i64 sh, .int .i64 wo, .int .i64 qu, .int .i64 tr] 27) = w1 at L ⊢
  generalize w.heap.size = gH at L ⊢
  go_wp2_with fail
  refine (awake_any _).mono ?_
  rintro e w2 ⟨rfl, K'⟩
  replace L := L.over K'
  go_wp2_with (refine wpList_load_want (by rfl) 27 (.tmp 3) rfl gH rfl _ _ (0, 0) _ (L.bk_ 0 rfl) Try.underlying27 rfl cf_sz ?_)
  refine (right_any ha (h0.below L.K) (IS.none_ .u32 0 _) hX (by intro y hy; cases hy)).mono ?_
  rintro e w3 ⟨bo, rfl, hB, K'⟩
  replace L := L.over K'
  rcases bo with _ | _
  · clear hB
    go_wp2_with fail
    refine (awake_any _).mono ?_
    rintro e w92 ⟨rfl, K'⟩
    replace L := L.over K'
    go_wp2
    go_ret
    exact ⟨rfl, L.K⟩
  replace hB := hB rfl
  clear hB
  go_wp2_with fail
  refine (awake_any _).mono ?_
  rintro e w4 ⟨rfl, K'⟩
  replace L := L.over K'
  go_wp2
  go_ret
  exact ⟨rfl, L.K⟩
set_option maxRecDepth 100000 in
set_option maxHeartbeats 4000000 in
theorem near (ha : a < 4294967296) (h0 : IS .i64 lo w A n c zs) (hX : X < 4294967296) (hE : IS .u32 lo3 w E k q es) (he : ∀ x ∈ es, (Lit.int .u32 x).wf = true) (hk : k ≤ 300) :
    Calls Try.prog 4 #[.agg #[.int .u32 (a : Int), .int .i64 p, .slice A n c, .int .i64 sh, .int .i64 wo, .int .i64 qu, .int .i64 tr], .int .u32 (X : Int), .slice E k q] w (RetBo true w) := by
  have f0 : decide ((300 : Int) < (k : Int)) = false := by simp; omega
  have hH0 : Lists 0 w hd0 ⟨[], [], [], []⟩ := ⟨IS.none_ _ _ _, IS.none_ _ _ _, IS.none_ _ _ _, IS.none_ _ _ _⟩
  replace he := Lib.hid he
  go_enter Try.func4, Try.ntmps4
  go_upto_region 1 with (fail)
  have L := Loc.start w
  replace L := (L).alloc #[.int .u32 (a : Int), .int .i64 p, .slice A n c, .int .i64 sh, .int .i64 wo, .int .i64 qu, .int .i64 tr] 27
  try simp only [World.size_alloc] at L
  try dsimp only [nput] at L
  generalize (w).alloc (.cells #[.int .u32 (a : Int), .int .i64 p, .slice A n c, .int .i64 sh, .int .i64 wo, .int .i64 qu, .int .i64 tr] 27) = w1 at L ⊢
  generalize w.heap.size = gH at L ⊢
  go_wp2_with fail
  refine (awake_any _).mono ?_
  rintro e w2 ⟨rfl, K'⟩
  replace L := L.over K'
  go_wp2_with (refine wpList_load_want (by rfl) 27 (.tmp 3) rfl gH rfl _ _ (0, 0) _ (L.bk_ 0 rfl) Try.underlying27 rfl cf_sz ?_)
  refine (right_any ha (h0.below L.K) (IS.none_ .u32 0 _) hX (by intro y hy; cases hy)).mono ?_
  rintro e w3 ⟨bo, rfl, hB, K'⟩
  replace L := L.over K'
  rcases bo with _ | _
  · clear hB
    go_wp2_with fail
    refine (awake_any _).mono ?_
    rintro e w92 ⟨rfl, K'⟩
    replace L := L.over K'
    go_wp2
    go_ret
    exact ⟨rfl, L.K⟩
  replace hB := hB rfl
  obtain ⟨⟨M, ns, hC, hfi⟩, hn1, hkd⟩ := hB
  obtain ⟨o, hxo, hoM, hho⟩ := fi_in hfi
  clear hfi
  have hshe := hC.ns_
  subst hshe
  have hM := hC.much
  have h1 := hC.ns1
  have h2 := hC.ns2
  have hM9 := hC.sml
  have hMp := hM.pos
  have hMm := hM.most
  have hn9 := hC.few
  have hfit := hM.fits ha
  have hlv : lv M ≤ 8 ∧ 1 ≤ lv M ∧ tv M = 1 := by unfold tv tq lv; omega
  obtain ⟨m, hm⟩ : ∃ m, m = lv M + tv M + 1 := ⟨_, rfl⟩
  have hm6 : m ≤ 65536 ∧ 0 < m ∧ lv M ≤ m := by omega
  obtain ⟨y0, hy0⟩ : ∃ y0, y0 = cl (nw M zs) (lv M) (tv M) (lv M) := ⟨_, rfl⟩
  have hY0 := yi_start (M := M) (zs := zs)
  have TW := fun w (h : IS .i64 lo w A n c zs) => Lib.hid (wcells_new (w := w) (sh := (ns : Int)) (wo := wo) (qu := qu) (tr := tr) ha hM h (by omega) hC.ris)
  rw [← hy0] at hY0
  simp only [← hy0, ← hm] at TW
  replace hm := Lib.hid hm
  clear hy0
  have TD := fun w D B d ys (hD : D < 4294967296) (hY : YI M zs ys) (h : IS .i64 lo w A n c zs) (U : US w B m d ys) => Lib.hid (dist_any (w := w) (p := p) (wo := wo) (qu := qu) (tr := tr) hD hC h hY U)
  have TO := fun w B d ys (h : IS .i64 lo w A n c zs) (U : US w B m d ys) => Lib.hid (rof_new (w := w) (sh := (ns : Int)) (wo := wo) (qu := qu) (tr := tr) hM h (by omega) U hm6.2.2 hm6.1)
  replace hC := Lib.hid hC
  have TS := fun w lo h B d ys s (hEI : EI a M zs o s) (hY : YI M zs ys) (U : US w B m d ys) (L : Lists lo w h ⟨[], [], [], []⟩) => Lib.hid (xs_any (w := w) (ns := ns) (wo := wo) (qu := qu) (tr := tr) (A := A) (n := n) (c := c) ha hM hEI hY U L (Nat.zero_le _))
  have TB := fun w => Lib.hid (xbegin_any (w := w) (ns := ns) (kd := 2) (p := p) (wo := wo) (qu := qu) (tr := tr) (A := A) (n := n) (c := c) ha hM hX hxo hoM (IS.none_ .u32 0 w) (by omega))
  have TBQ := fun w => Lib.hid (xbegin_any (w := w) (ns := ns) (kd := 5) (p := p) (wo := wo) (qu := qu) (tr := tr) (A := A) (n := n) (c := c) ha hM hX hxo hoM (IS.none_ .u32 0 w) (by omega))
  have TF := fun w (h : IS .i64 lo w A n c zs) => Lib.hid (rfind_ok (w := w) (sh := (ns : Int)) (wo := wo) (qu := qu) (tr := tr) (a + o) (by omega) hM (by omega) (by omega) h (by omega) (by rw [Nat.add_sub_cancel_left]; exact hho))
  simp only [Nat.add_sub_cancel_left] at TF
  simp only [← hxo] at TF
  obtain ⟨s0, hs0⟩ : ∃ s0, s0 = eS0 2 (X : Int) o := ⟨_, rfl⟩
  have hE0 : EI a M zs o s0 := by rw [hs0]; exact ei_start (.inl rfl) hoM hho
  obtain ⟨sq, hsq⟩ : ∃ s0, s0 = eS0 5 (X : Int) o := ⟨_, rfl⟩
  have hEq : EI a M zs o sq := by rw [hsq]; exact ei_start (.inr rfl) hoM hho
  have hk0 : s0.kind = 2 := by rw [hs0]; rfl
  have hp0 : s0.phase = 8 := by rw [hs0]; rfl
  have hkq : sq.kind = 5 := by rw [hsq]; rfl
  have hpq : sq.phase = 8 := by rw [hsq]; rfl
  simp only [← hs0] at TB
  simp only [← hsq] at TBQ
  clear hs0 hsq
  replace hxo := Lib.hid hxo
  go_upto_region 3 with fail
  go_wp2_with (refine wpList_load_row rfl 27 (.tmp 3) rfl gH rfl _ _ (0, 0) _ (L.bk_ 0 rfl) Try.underlying27 rfl cf_sz ?_)
  refine ((TW _ (h0.below L.K)).out).mono ?_
  rintro e w4 ⟨gU, dU, rfl, U, hgU, K'⟩
  have Lb := L.lts
  replace L := L.over K'
  replace L := L.us_av (fun i b e b' o e' => by injection e' with e'; injection e' with e1; have := Lb i b e; omega) U
  clear Lb
  try dsimp only [lF, List.cons_append, List.nil_append] at L
  clear U hgU
  go_wp2
  go_loopw [7, 8] (fun lv_ iv wr => ∃ (j : Nat) (B : Option Addr) (d : Nat) (ys : List Nat), j ≤ k ∧ lv_ = .slice B m d ∧ iv = .int .i64 (j : Nat) ∧ YI M zs ys ∧ Loc w wr [(gH, 27, #[.int .u32 (a : Int), .int .i64 p, .slice A n c, .int .i64 (ns : Int), .int .i64 wo, .int .i64 qu, .int .i64 tr])] [uF B m d ys]) (fun _ iv _ => k - (intOf iv).toNat)
  case atStart => exact ⟨0, _, _, y0, Nat.zero_le _, rfl, rfl, hY0.1, L⟩
  case round =>
    clear L
    obtain ⟨j, B, d, ys, hj, rfl, rfl, hY, L⟩ := hrel
    by_cases hlt : j < k
    · obtain ⟨be, oe, hEe, hbe, hce⟩ := hE.get hlt
      obtain ⟨D, hD, hD2⟩ := wf_u32 (he.out (gi es j) (gi_mem (by have := hE.len; omega)))
      rw [hD] at hce
      subst hEe
      clear hD
      have hj2 : (j : Int) < (k : Int) := by omega
      go_upto_region 7 with (fail)
      replace L := L.drew
      refine wp_region_held_drew (S := fun w' => Loc w w' [(gH, 27, #[.int .u32 (a : Int), .int .i64 p, .slice A n c, .int .i64 (ns : Int), .int .i64 wo, .int .i64 qu, .int .i64 tr])] [uF B m d ys]) (by kernel_rfl) L (fun hHeld => ?_)
      generalize wr.drew = v5 at hHeld L ⊢
      refine wpAnyH_take (i := 0) (oi := ⟨some 43, _, _, _, _, _⟩) (v := .agg (#[.int .u32 (a : Int), .int .i64 p, .slice A n c, .int .i64 (ns : Int), .int .i64 wo, .int .i64 qu, .int .i64 tr])) rfl (by kernel_rfl) (by kernel_rfl) (by kernel_rfl) (fun _ _ _ h => h) (yieldsIf_load_row (by rfl) 27 (.tmp 3) rfl gH rfl 27 _ (0, 0) _ (fun _ hS => ((hS).bk_ 0 rfl)) Try.underlying27 rfl cf_sz) hHeld ?_
      try simp only [Act.put, List.setIfInBounds_toArray, List.set_cons_zero, List.set_cons_succ]
      refine wpAnyH_take (i := 1) (oi := ⟨some 44, _, _, _, _, _⟩) (v := ?_) rfl (by kernel_rfl) (by kernel_rfl) (by kernel_rfl) (fun _ _ _ h => h) (Or.inl ⟨by rfl, ?_⟩) hHeld ?_
      rotate_left
      · intro ww hS
        try dsimp only at hS
        go_simp
        try with_reducible rfl
        try omega
      try simp only [Act.put, List.setIfInBounds_toArray, List.set_cons_zero, List.set_cons_succ]
      refine wpAnyH_take (i := 2) (oi := ⟨some 45, _, _, _, _, _⟩) (v := .slice (some ⟨be, oe, none⟩) k q) rfl (by kernel_rfl) (by kernel_rfl) (by kernel_rfl) (fun _ _ _ h => h) (Or.inl ⟨by rfl, ?_⟩) hHeld ?_
      · intro ww hS
        try dsimp only at hS
        go_simp
        try with_reducible rfl
        try omega
      try simp only [Act.put, List.setIfInBounds_toArray, List.set_cons_zero, List.set_cons_succ]
      refine wpAnyH_take (i := 3) (oi := ⟨some 46, _, _, _, _, _⟩) (v := .int .i64 (j : Int)) rfl (by kernel_rfl) (by kernel_rfl) (by kernel_rfl) (fun _ _ _ h => h) (Or.inl ⟨by rfl, ?_⟩) hHeld ?_
      · intro ww hS
        try dsimp only at hS
        go_simp
        try with_reducible rfl
        try omega
      try simp only [Act.put, List.setIfInBounds_toArray, List.set_cons_zero, List.set_cons_succ]
      refine wpAnyH_take (i := 4) (oi := ⟨some 47, _, _, _, _, _⟩) (v := .pointer (some ⟨be, oe + j, none⟩)) rfl (by kernel_rfl) (by kernel_rfl) (by kernel_rfl) (fun _ _ _ h => h) (Or.inl ⟨by rfl, ?_⟩) hHeld ?_
      · intro ww hS
        try dsimp only at hS
        go_simp
        try with_reducible rfl
        try omega
      try simp only [Act.put, List.setIfInBounds_toArray, List.set_cons_zero, List.set_cons_succ]
      refine wpAnyH_take (i := 5) (oi := ⟨some 48, _, _, _, _, _⟩) (v := .int .u32 (D : Int)) rfl (by kernel_rfl) (by kernel_rfl) (by kernel_rfl) (fun _ _ _ h => h) (Or.inl ⟨by rfl, ?_⟩) hHeld ?_
      · intro ww hS
        try dsimp only at hS
        have XE := (((hS)).K.cell (p := ⟨be, oe + j, none⟩) hbe).trans hce
        go_simp
        try with_reducible rfl
        try omega
      try simp only [Act.put, List.setIfInBounds_toArray, List.set_cons_zero, List.set_cons_succ]
      refine wpAnyH_ready (rs := [6]) (by kernel_rfl) (by simp) ?_
      refine AllReadyH.cons (o := ⟨some 49, _, _, _, _, _⟩) rfl (fun K0 hK => ?_) AllReadyH.nil
      go_simp
      refine ((TD _ _ _ _ _ hD2 hY (h0.below L.K) (L.us_ 0 rfl)).out).mono ?_
      rintro e w6 ⟨B3, d3, y3, rfl, U, hDR, hA, K'⟩
      have Lb := L.lts
      replace L := L.over K'
      replace L := L.us_av (fun i b e => hA b.1 (Lb i b e) (L.ap_ 0 rfl hm6.2.1 i b e)) U
      clear Lb
      try dsimp only [lF, List.cons_append, List.nil_append] at L
      clear U hA
      refine hK.out _ _ (L.less 1) (fun hHeld' => ?_)
      clear hHeld hK K0
      have hHeld := hHeld'
      clear hHeld'
      clear K'
      try simp only [Act.put, List.setIfInBounds_toArray, List.set_cons_zero, List.set_cons_succ]
      refine wpAnyH_take (i := 7) (oi := ⟨some 7, _, _, _, _, _⟩) (v := .slice B3 m d3) rfl (by kernel_rfl) (by kernel_rfl) (by kernel_rfl) (fun _ _ _ h => h) (Or.inl ⟨by rfl, ?_⟩) hHeld ?_
      · intro ww hS
        try dsimp only at hS
        go_simp
        try with_reducible rfl
        try omega
      try simp only [Act.put, List.setIfInBounds_toArray, List.set_cons_zero, List.set_cons_succ]
      refine wpAnyH_done (by kernel_rfl) ?_ _
      clear hHeld
      go_wp2
      replace L := L.only (fs' := [uF B3 m d3 y3]) (by simp)
      go_roundw
      case rel => exact ⟨j + 1, B3, d3, y3, by omega, rfl, by go_num, (dist_leaf hMm hY hDR).1, L⟩
      case measure => simp [intOf]; omega
    have hjk : j = k := by omega
    have hno : ¬ ((j : Int) < (k : Int)) := by omega
    clear hj hlt
    obtain ⟨ub, hub⟩ : ∃ ub, ub = usd o ys := ⟨_, rfl⟩
    have hEA : EA o ys s0 ub := by rw [hub]; exact ea_start hp0
    have hmx : mux ys s0 ≤ 6 := by rw [mux_8 hp0]; omega
    replace hub := Lib.hid hub
    go_wp2_with (refine wpList_load_row rfl 27 (.tmp 3) rfl gH rfl _ _ (0, 0) _ (L.bk_ 0 rfl) Try.underlying27 rfl cf_sz ?_)
    refine ((TF _ (h0.below L.K)).out).mono ?_
    rintro e w5 ⟨rfl, K'⟩
    replace L := L.over K'
    go_wp2_with (refine wpList_load_row rfl 27 (.tmp 3) rfl gH rfl _ _ (0, 0) _ (L.bk_ 0 rfl) Try.underlying27 rfl cf_sz ?_)
    refine ((TO _ _ _ _ (h0.below L.K) (L.us_ 0 rfl)).out).mono ?_
    rintro e w6 ⟨Az, nz, cz, rfl, I, K'⟩
    have Lb := L.lts
    replace L := L.over K'
    replace L := L.is_new Lb I
    clear Lb
    try dsimp only [lF, List.cons_append, List.nil_append] at L
    have hlw : nz ≤ 65535 := by have := I.len; have := len_os (uf zs ys) M; omega
    clear I
    generalize w5.heap.size = lz at L
    go_wp2_with fail
    have THs := rhas9_any (w := w6) (L.is_ 0 rfl) (by omega) (o : Int)
    rw [has_os (zs := zs) (ys := ys) hoM hho, show (gt ys (o / 32)).testBit (o % 32) = usd o ys from rfl, ← hub.out] at THs
    refine (THs).mono ?_
    rintro e w' ⟨rfl, rfl⟩
    clear THs
    go_upto_region 10 with (fail)
    replace L := L.only (fs' := [uF B m d ys]) (by simp)
    clear hub TF TW TD TO
    go_wp2_with (refine wpList_load_row rfl 27 (.tmp 3) rfl gH rfl _ _ (0, 0) _ (L.bk_ 0 rfl) Try.underlying27 rfl cf_sz ?_)
    refine ((TB _).out).mono ?_
    rintro e w7 ⟨h6, rfl, L', hSA, K'⟩
    have Lb := L.lts
    replace L := L.over K'
    replace L := L.of_ap L' (fun i b e => hSA b.1 (Lb i b e) (hH0.hap L i b e))
    clear Lb
    try dsimp only [lF, List.cons_append, List.nil_append] at L
    clear L' hSA
    go_upto_region 11 with (refine wpList_store_row rfl 44 (.tmp 12) (.tmp 64) rfl _ _ rfl (show _ = Value.agg (opv h6 s0) from rfl) _ _ (Bk.new _ _ _) op_sz rfl (opv_one _ _) ?_)
    try rw [World.setRow_alloc_new]
    replace L := (L).alloc (opv h6 s0) 44
    try simp only [World.size_alloc] at L
    try dsimp only [nput] at L
    generalize (w7).alloc (.cells (opv h6 s0) 44) = w8 at L ⊢
    generalize w7.heap.size = gO at L ⊢
    go_wp2
    clear hno
    replace L := L.only (fs' := [oF h6 ⟨[], [], [], []⟩, uF B m d ys]) (by simp)
    go_loopw [7, 13] (fun lv_ iv wr => ∃ (u : Nat) (h : Hd) (s : Sc) (B2 : Option Addr) (d2 : Nat) (y2 : List Nat), u ≤ 6 ∧ lv_ = .slice B2 m d2 ∧ iv = .int .i64 (u : Nat) ∧ EI a M zs o s ∧ YI M zs y2 ∧ s.kind = 2 ∧ EA o y2 s ub ∧ mux y2 s ≤ 6 - u ∧ Loc w wr [(gO, 44, opv h s), (gH, 27, #[.int .u32 (a : Int), .int .i64 p, .slice A n c, .int .i64 (ns : Int), .int .i64 wo, .int .i64 qu, .int .i64 tr])] [oF h ⟨[], [], [], []⟩, uF B2 m d2 y2]) (fun _ iv _ => 6 - (intOf iv).toNat)
    case atStart =>
      exact ⟨0, h6, s0, B, d, ys, by omega, rfl, rfl, hE0, hY, hk0, hEA, hmx, L⟩
    case round =>
      clear L hEA hmx
      obtain ⟨u, h, s, B2, d2, y2, hu, rfl, rfl, hEI, hY2, hk2, hEA, hmx, L⟩ := hrel
      by_cases hp : s.phase = 0
      rotate_left
      · have hlt : u < 6 := Classical.byContradiction fun h => hp (mux_zero (ys := y2) (by omega))
        have hu2 : (u : Int) < 6 := by omega
        have hp1 : (s.phase != 0) = true := by simp [hp]
        obtain ⟨hE3, hY4⟩ := ei_step hMm hfit hEI hY2
        have hk4 := (es_kind hMm hEI hY2).trans hk2
        have hA4 := ea_step hMm hEI hY2 hk2 hEA
        have hm4 := mux_step hMm hEI hY2 hp
        have TK := fun w lo h B d U L => TS w lo h B d y2 s hEI hY2 U L
        obtain ⟨s3, hs3⟩ : ∃ s3, s3 = eS a M y2 s := ⟨_, rfl⟩
        obtain ⟨y4, hy4⟩ : ∃ y4, y4 = gC M y2 s := ⟨_, rfl⟩
        obtain ⟨b3, hb3⟩ : ∃ b3, b3 = eB y2 s := ⟨_, rfl⟩
        simp only [← hs3, ← hy4, ← hb3] at TK hE3 hY4 hk4 hA4 hm4
        clear hs3 hy4 hb3 hEI hY2 TS TBQ hp hEA
        replace hE3 := Lib.hid hE3
        replace hY4 := Lib.hid hY4
        replace hk4 := Lib.hid hk4
        replace hk2 := Lib.hid hk2
        replace hA4 := Lib.hid hA4
        replace hm4 := Lib.hid (show mux y4 s3 ≤ 6 - (u + 1) by omega)
        clear hmx
        have O_8 := L.at_ 0 8 rfl (v := .int .i64 s.phase) rfl
        have O_z := L.lt 0 rfl
        go_wp2_with (first | (refine wpList_load_row rfl 27 (.tmp 3) rfl gH rfl _ _ (0, 0) _ (L.bk_ 1 rfl) Try.underlying27 rfl cf_sz ?_) | (refine wpList_load_row rfl 44 (.tmp 12) rfl gO rfl _ _ (0, 0) _ (L.bk_ 0 rfl) Try.underlying44 rfl op_sz ?_))
        refine ((TK _ _ _ _ _ (L.us_ 1 rfl) (L.of_ 0 rfl)).out).mono ?_
        rintro e w9 ⟨h4, B4, d4, rfl, U, L', hA, K'⟩
        clear O_8 O_z
        have Lb := L.lts
        replace L := L.over K'
        replace L := L.us_av (fun i b e => hA b.1 (Lb i b e) (L.ap_ 1 rfl hm6.2.1 i b e)) U
        replace L := L.of_new Lb L'
        clear Lb
        try dsimp only [lF, List.cons_append, List.nil_append] at L
        clear U L' hA
        go_upto_region 13 with (refine wpList_store_row rfl 44 (.tmp 12) (.tmp 80) rfl gO _ rfl rfl _ _ (L.bk_ 0 rfl) op_sz rfl (opv_one _ _) ?_)
        replace L := (L.row 0 rfl (opv h4 s3))
        try dsimp only [nput] at L
        generalize (w9).setRow gO (opv h4 s3) = w10 at L ⊢
        go_wp2
        replace L := L.only (fs' := [oF h4 ⟨[], [], [], []⟩, uF B4 m d4 y4]) (by simp)
        go_roundw
        case rel => exact ⟨u + 1, h4, s3, B4, d4, y4, by omega, rfl, by go_num, hE3.out, hY4.out, hk4.out, hA4.out, hm4.out, L⟩
        case measure => simp [intOf]; omega
      · by_cases hlt : u < 6
        · obtain ⟨hu1, hcs⟩ := ea_end hEI hk2 hEA hp
          obtain ⟨qe1, qe2, qe3⟩ := qy_used hEq hkq hpq hu1
          obtain ⟨re1, re2⟩ := ex_used hE0 hk0 hp0 hu1
          have TK := fun w lo h B d U L => TS w lo h B d y2 sq hEq hY2 U L
          have TR := fun w lo h B d U L => TS w lo h B d y2 s0 hE0 hY2 U L
          rw [qe1] at TK
          rw [re1] at TR
          clear TS qe1 re1
          obtain ⟨s5, hs5⟩ : ∃ s5, s5 = eS a M y2 sq := ⟨_, rfl⟩
          obtain ⟨y5, hy5⟩ : ∃ y5, y5 = gC M y2 sq := ⟨_, rfl⟩
          obtain ⟨s7, hs7⟩ : ∃ s7, s7 = eS a M y2 s0 := ⟨_, rfl⟩
          obtain ⟨y7, hy7⟩ : ∃ y7, y7 = gC M y2 s0 := ⟨_, rfl⟩
          rw [← hs5] at qe2 qe3
          rw [← hs7] at re2
          simp only [← hs5, ← hy5] at TK
          simp only [← hs7, ← hy7] at TR
          clear hs5 hy5 hs7 hy7 hu1 hEI hY2 hEA hmx hk0 hp0 hkq hpq hk2 hEq hE0
          replace hcs := Lib.hid hcs
          replace qe2 := Lib.hid qe2
          replace qe3 := Lib.hid qe3
          replace re2 := Lib.hid re2
          have hu2 : (u : Int) < 6 := by omega
          have O_8 := L.at_ 0 8 rfl (v := .int .i64 0) (by show some (Value.int .i64 s.phase) = _; rw [hp])
          have O_z := L.lt 0 rfl
          go_upto_region 15 with fail
          clear O_8 O_z
          try simp only [Act.put, List.setIfInBounds_toArray, List.set_cons_zero, List.set_cons_succ]
          go_cut [14, 15, 16] from 82 to 92 (fun q0 q1 q2 wx => ∃ (gS : Nat) (h5 : Hd) (B5 : Option Addr) (d5 : Nat), q0 = Value.slice B5 m d5 ∧ q1 = Value.pointer (some ⟨gS, 0, none⟩) ∧ q2 = Value.bool true ∧ Loc w wx [(gS, 44, opv h5 s5), (gO, 44, opv h s), (gH, 27, #[.int .u32 (a : Int), .int .i64 p, .slice A n c, .int .i64 (ns : Int), .int .i64 wo, .int .i64 qu, .int .i64 tr])] [uF B2 m d2 y2])
          case first =>
            replace L := L.drew
            refine wp_region_held_drew (S := fun w' => Loc w w' [(gO, 44, opv h s), (gH, 27, #[.int .u32 (a : Int), .int .i64 p, .slice A n c, .int .i64 (ns : Int), .int .i64 wo, .int .i64 qu, .int .i64 tr])] [oF h ⟨[], [], [], []⟩, uF B2 m d2 y2]) (by kernel_rfl) L (fun hHeld => ?_)
            generalize wr.drew = v9 at hHeld L ⊢
            refine wpAnyH_take (i := 0) (oi := ⟨some 83, _, _, _, _, _⟩) (v := .agg (#[.int .u32 (a : Int), .int .i64 p, .slice A n c, .int .i64 (ns : Int), .int .i64 wo, .int .i64 qu, .int .i64 tr])) rfl (by kernel_rfl) (by kernel_rfl) (by kernel_rfl) (fun _ _ _ h => h) (yieldsIf_load_row (by rfl) 27 (.tmp 3) rfl gH rfl 27 _ (0, 0) _ (fun _ hS => ((hS).bk_ 1 rfl)) Try.underlying27 rfl cf_sz) hHeld ?_
            try simp only [Act.put, List.setIfInBounds_toArray, List.set_cons_zero, List.set_cons_succ]
            refine wpAnyH_take (i := 1) (oi := ⟨some 84, _, _, _, _, _⟩) (v := .slice B2 m d2) rfl (by kernel_rfl) (by kernel_rfl) (by kernel_rfl) (fun _ _ _ h => h) (Or.inl ⟨by rfl, ?_⟩) hHeld ?_
            · intro ww hS
              try dsimp only at hS
              go_simp
              try with_reducible rfl
              try omega
            try simp only [Act.put, List.setIfInBounds_toArray, List.set_cons_zero, List.set_cons_succ]
            refine wpAnyH_take (i := 2) (oi := ⟨some 85, _, _, _, _, _⟩) (v := .agg (#[.int .u32 (a : Int), .int .i64 p, .slice A n c, .int .i64 (ns : Int), .int .i64 wo, .int .i64 qu, .int .i64 tr])) rfl (by kernel_rfl) (by kernel_rfl) (by kernel_rfl) (fun _ _ _ h => h) (yieldsIf_load_row (by rfl) 27 (.tmp 3) rfl gH rfl 27 _ (0, 0) _ (fun _ hS => ((hS).bk_ 1 rfl)) Try.underlying27 rfl cf_sz) hHeld ?_
            try simp only [Act.put, List.setIfInBounds_toArray, List.set_cons_zero, List.set_cons_succ]
            refine wpAnyH_take (i := 3) (oi := ⟨some 86, _, _, _, _, _⟩) (v := .int .u32 (X : Int)) rfl (by kernel_rfl) (by kernel_rfl) (by kernel_rfl) (fun _ _ _ h => h) (Or.inl ⟨by rfl, ?_⟩) hHeld ?_
            · intro ww hS
              try dsimp only at hS
              go_simp
              try with_reducible rfl
              try omega
            try simp only [Act.put, List.setIfInBounds_toArray, List.set_cons_zero, List.set_cons_succ]
            refine wpAnyH_take (i := 4) (oi := ⟨some 87, _, _, _, _, _⟩) (v := ?_) rfl (by kernel_rfl) (by kernel_rfl) (by kernel_rfl) (fun _ _ _ h => h) (Or.inl ⟨by rfl, ?_⟩) hHeld ?_
            rotate_left
            · intro ww hS
              try dsimp only at hS
              go_simp
              try with_reducible rfl
              try omega
            try simp only [Act.put, List.setIfInBounds_toArray, List.set_cons_zero, List.set_cons_succ]
            refine wpAnyH_ready (rs := [5, 11]) (by kernel_rfl) (by simp) ?_
            refine (AllReadyH.cons (o := ⟨some 88, _, _, _, _, _⟩) rfl (fun K0 hK => ?_) (AllReadyH.cons (o := ⟨some 15, _, _, _, _, _⟩) rfl (fun K0 hK => ?_) AllReadyH.nil))
            · go_simp
              refine ((TBQ _).out).mono ?_
              rintro e w10 ⟨h6, rfl, L', hSA, K'⟩
              have Lb := L.lts
              replace L := L.over K'
              replace L := L.of_ap L' (fun i b e => hSA b.1 (Lb i b e) (hH0.hap L i b e))
              clear Lb
              try dsimp only [lF, List.cons_append, List.nil_append] at L
              clear L' hSA
              refine hK.out _ _ (L.less 1) (fun hHeld' => ?_)
              clear hHeld hK K0
              have hHeld := hHeld'
              clear hHeld'
              clear K'
              try simp only [Act.put, List.setIfInBounds_toArray, List.set_cons_zero, List.set_cons_succ]
              refine wpAnyH_ready (rs := [6, 11]) (by kernel_rfl) (by simp) ?_
              refine (AllReadyH.cons (o := ⟨some 89, _, _, _, _, _⟩) rfl (fun K0 hK => ?_) (AllReadyH.cons (o := ⟨some 15, _, _, _, _, _⟩) rfl (fun K0 hK => ?_) AllReadyH.nil))
              · go_simp
                refine ((TK _ _ _ _ _ (L.us_ 2 rfl) (L.of_ 0 rfl)).out).mono ?_
                rintro e w11 ⟨h5, B5, d5, rfl, U, L', hA, K'⟩
                have Lb := L.lts
                replace L := L.over K'
                replace L := L.us_av (fun i b e => hA b.1 (Lb i b e) (L.ap_ 2 rfl hm6.2.1 i b e)) U
                replace L := L.of_new Lb L'
                clear Lb
                try dsimp only [lF, List.cons_append, List.nil_append] at L
                clear U L' hA
                refine hK.out _ _ (L.less 3) (fun hHeld' => ?_)
                clear hHeld hK K0
                have hHeld := hHeld'
                clear hHeld'
                clear K'
                try simp only [Act.put, List.setIfInBounds_toArray, List.set_cons_zero, List.set_cons_succ]
                refine wpAnyH_take (i := 7) (oi := ⟨some 82, _, _, _, _, _⟩) (v := ?_) rfl (by kernel_rfl) (by kernel_rfl) (by kernel_rfl) (fun _ _ _ h => h) (Or.inl ⟨by rfl, ?_⟩) hHeld ?_
                rotate_left
                · intro ww hS
                  try dsimp only at hS
                  go_simp
                  try with_reducible rfl
                  try omega
                try simp only [Act.put, List.setIfInBounds_toArray, List.set_cons_zero, List.set_cons_succ]
                refine wpAnyH_take (i := 8) (oi := ⟨some 90, _, _, _, _, _⟩) (v := .slice B5 m d5) rfl (by kernel_rfl) (by kernel_rfl) (by kernel_rfl) (fun _ _ _ h => h) (Or.inl ⟨by rfl, ?_⟩) hHeld ?_
                · intro ww hS
                  try dsimp only at hS
                  go_simp
                  try with_reducible rfl
                  try omega
                try simp only [Act.put, List.setIfInBounds_toArray, List.set_cons_zero, List.set_cons_succ]
                refine wpAnyH_take (i := 9) (oi := ⟨some 91, _, _, _, _, _⟩) (v := .agg (opv h5 s5)) rfl (by kernel_rfl) (by kernel_rfl) (by kernel_rfl) (fun _ _ _ h => h) (Or.inl ⟨by rfl, ?_⟩) hHeld ?_
                · intro ww hS
                  try dsimp only at hS
                  go_simp
                  try with_reducible rfl
                  try omega
                try simp only [Act.put, List.setIfInBounds_toArray, List.set_cons_zero, List.set_cons_succ]
                refine wpAnyH_take (i := 10) (oi := ⟨some 92, _, _, _, _, _⟩) (v := .bool true) rfl (by kernel_rfl) (by kernel_rfl) (by kernel_rfl) (fun _ _ _ h => h) (Or.inl ⟨by rfl, ?_⟩) hHeld ?_
                · intro ww hS
                  try dsimp only at hS
                  go_simp
                  try with_reducible rfl
                  try omega
                try simp only [Act.put, List.setIfInBounds_toArray, List.set_cons_zero, List.set_cons_succ]
                refine wpAnyH_ready (rs := [11]) (by kernel_rfl) (by simp) ?_
                refine AllReadyH.cons (o := ⟨some 15, _, _, _, _, _⟩) rfl (fun K0 hK => ?_) AllReadyH.nil
                go_simp
                refine hK.out _ _ ((L.other _).less 3) (fun hHeld' => ?_)
                clear hHeld hK K0
                have hHeld := hHeld'
                clear hHeld'
                replace L := L.alloc #[.int .i64 0, .int .u32 0, .slice none 0 0, .int .i64 0, .int .u32 0, .bool false, .slice none 0 0, .slice none 0 0, .int .i64 0, .int .i64 0, .int .i64 0, .int .i64 0, .int .i64 0, .int .u64 0, .bool false, .slice none 0 0, .int .i64 0, .int .i64 0, .int .i64 0, .int .i64 0] 44
                replace L := L.is 0 (opv hd0 sc0) rfl
                try dsimp only [nput] at L
                generalize w11.alloc (.cells #[.int .i64 0, .int .u32 0, .slice none 0 0, .int .i64 0, .int .u32 0, .bool false, .slice none 0 0, .slice none 0 0, .int .i64 0, .int .i64 0, .int .i64 0, .int .i64 0, .int .i64 0, .int .u64 0, .bool false, .slice none 0 0, .int .i64 0, .int .i64 0, .int .i64 0, .int .i64 0] 44) = v12 at hHeld L ⊢
                generalize w11.heap.size = gS at L ⊢
                try simp only [Act.put, List.setIfInBounds_toArray, List.set_cons_zero, List.set_cons_succ]
                refine wpAnyH_take (i := 12) (oi := ⟨some 14, _, _, _, _, _⟩) (v := .slice B5 m d5) rfl (by kernel_rfl) (by kernel_rfl) (by kernel_rfl) (fun _ _ _ h => h) (Or.inl ⟨by rfl, ?_⟩) hHeld ?_
                · intro ww hS
                  try dsimp only at hS
                  go_simp
                  try with_reducible rfl
                  try omega
                try simp only [Act.put, List.setIfInBounds_toArray, List.set_cons_zero, List.set_cons_succ]
                refine wpAnyH_ready (rs := [13]) (by kernel_rfl) (by simp) ?_
                refine AllReadyH.cons (o := ⟨none, _, _, _, _, _⟩) rfl (fun K0 hK => ?_) AllReadyH.nil
                rw [if_pos (by rfl)]
                refine wp_store_row 44 (.tmp 15) (.tmp 91) rfl gS _ rfl rfl _ _ (L.bk_ 0 rfl) op_sz rfl (opv_one _ _) ?_
                replace L := L.row 0 rfl (opv h5 s5)
                try dsimp only [nput] at L
                refine hK.out _ _ ((L.less 3).del 0) (fun hHeld' => ?_)
                clear hHeld hK K0
                have hHeld := hHeld'
                clear hHeld'
                generalize v12.setRow gS (opv h5 s5) = v13 at hHeld L ⊢
                try simp only [Act.put]
                refine wpAnyH_take (i := 14) (oi := ⟨some 16, _, _, _, _, _⟩) (v := .bool true) rfl (by kernel_rfl) (by kernel_rfl) (by kernel_rfl) (fun _ _ _ h => h) (Or.inl ⟨by rfl, ?_⟩) hHeld ?_
                · intro ww hS
                  try dsimp only at hS
                  go_simp
                  try with_reducible rfl
                  try omega
                try simp only [Act.put, List.setIfInBounds_toArray, List.set_cons_zero, List.set_cons_succ]
                refine wpAnyH_done (by kernel_rfl) ?_ _
                clear hHeld
                go_wp2
                replace L := L.only (fs' := [uF B2 m d2 y2]) (by simp)
                go_meet
                exact ⟨_, _, _, _, rfl, rfl, rfl, L⟩
              · go_simp
                refine hK.out _ _ ((L.other _).less 1) (fun hHeld' => ?_)
                clear hHeld hK K0
                have hHeld := hHeld'
                clear hHeld'
                replace L := L.alloc #[.int .i64 0, .int .u32 0, .slice none 0 0, .int .i64 0, .int .u32 0, .bool false, .slice none 0 0, .slice none 0 0, .int .i64 0, .int .i64 0, .int .i64 0, .int .i64 0, .int .i64 0, .int .u64 0, .bool false, .slice none 0 0, .int .i64 0, .int .i64 0, .int .i64 0, .int .i64 0] 44
                replace L := L.is 0 (opv hd0 sc0) rfl
                try dsimp only [nput] at L
                generalize w10.alloc (.cells #[.int .i64 0, .int .u32 0, .slice none 0 0, .int .i64 0, .int .u32 0, .bool false, .slice none 0 0, .slice none 0 0, .int .i64 0, .int .i64 0, .int .i64 0, .int .i64 0, .int .i64 0, .int .u64 0, .bool false, .slice none 0 0, .int .i64 0, .int .i64 0, .int .i64 0, .int .i64 0] 44) = v11 at hHeld L ⊢
                generalize w10.heap.size = gS at L ⊢
                try simp only [Act.put, List.setIfInBounds_toArray, List.set_cons_zero, List.set_cons_succ]
                refine wpAnyH_ready (rs := [6]) (by kernel_rfl) (by simp) ?_
                refine AllReadyH.cons (o := ⟨some 89, _, _, _, _, _⟩) rfl (fun K0 hK => ?_) AllReadyH.nil
                go_simp
                refine ((TK _ _ _ _ _ (L.us_ 2 rfl) (L.of_ 0 rfl)).out).mono ?_
                rintro e w12 ⟨h5, B5, d5, rfl, U, L', hA, K'⟩
                have Lb := L.lts
                replace L := L.over K'
                replace L := L.us_av (fun i b e => hA b.1 (Lb i b e) (L.ap_ 2 rfl hm6.2.1 i b e)) U
                replace L := L.of_new Lb L'
                clear Lb
                try dsimp only [lF, List.cons_append, List.nil_append] at L
                clear U L' hA
                refine hK.out _ _ ((L.less 3).del 0) (fun hHeld' => ?_)
                clear hHeld hK K0
                have hHeld := hHeld'
                clear hHeld'
                clear K'
                try simp only [Act.put, List.setIfInBounds_toArray, List.set_cons_zero, List.set_cons_succ]
                refine wpAnyH_take (i := 7) (oi := ⟨some 82, _, _, _, _, _⟩) (v := ?_) rfl (by kernel_rfl) (by kernel_rfl) (by kernel_rfl) (fun _ _ _ h => h) (Or.inl ⟨by rfl, ?_⟩) hHeld ?_
                rotate_left
                · intro ww hS
                  try dsimp only at hS
                  go_simp
                  try with_reducible rfl
                  try omega
                try simp only [Act.put, List.setIfInBounds_toArray, List.set_cons_zero, List.set_cons_succ]
                refine wpAnyH_take (i := 8) (oi := ⟨some 90, _, _, _, _, _⟩) (v := .slice B5 m d5) rfl (by kernel_rfl) (by kernel_rfl) (by kernel_rfl) (fun _ _ _ h => h) (Or.inl ⟨by rfl, ?_⟩) hHeld ?_
                · intro ww hS
                  try dsimp only at hS
                  go_simp
                  try with_reducible rfl
                  try omega
                try simp only [Act.put, List.setIfInBounds_toArray, List.set_cons_zero, List.set_cons_succ]
                refine wpAnyH_take (i := 9) (oi := ⟨some 91, _, _, _, _, _⟩) (v := .agg (opv h5 s5)) rfl (by kernel_rfl) (by kernel_rfl) (by kernel_rfl) (fun _ _ _ h => h) (Or.inl ⟨by rfl, ?_⟩) hHeld ?_
                · intro ww hS
                  try dsimp only at hS
                  go_simp
                  try with_reducible rfl
                  try omega
                try simp only [Act.put, List.setIfInBounds_toArray, List.set_cons_zero, List.set_cons_succ]
                refine wpAnyH_take (i := 10) (oi := ⟨some 92, _, _, _, _, _⟩) (v := .bool true) rfl (by kernel_rfl) (by kernel_rfl) (by kernel_rfl) (fun _ _ _ h => h) (Or.inl ⟨by rfl, ?_⟩) hHeld ?_
                · intro ww hS
                  try dsimp only at hS
                  go_simp
                  try with_reducible rfl
                  try omega
                try simp only [Act.put, List.setIfInBounds_toArray, List.set_cons_zero, List.set_cons_succ]
                refine wpAnyH_take (i := 12) (oi := ⟨some 14, _, _, _, _, _⟩) (v := .slice B5 m d5) rfl (by kernel_rfl) (by kernel_rfl) (by kernel_rfl) (fun _ _ _ h => h) (Or.inl ⟨by rfl, ?_⟩) hHeld ?_
                · intro ww hS
                  try dsimp only at hS
                  go_simp
                  try with_reducible rfl
                  try omega
                try simp only [Act.put, List.setIfInBounds_toArray, List.set_cons_zero, List.set_cons_succ]
                refine wpAnyH_ready (rs := [13]) (by kernel_rfl) (by simp) ?_
                refine AllReadyH.cons (o := ⟨none, _, _, _, _, _⟩) rfl (fun K0 hK => ?_) AllReadyH.nil
                rw [if_pos (by rfl)]
                refine wp_store_row 44 (.tmp 15) (.tmp 91) rfl gS _ rfl rfl _ _ (L.bk_ 0 rfl) op_sz rfl (opv_one _ _) ?_
                replace L := L.row 0 rfl (opv h5 s5)
                try dsimp only [nput] at L
                refine hK.out _ _ ((L.less 3).del 0) (fun hHeld' => ?_)
                clear hHeld hK K0
                have hHeld := hHeld'
                clear hHeld'
                generalize w12.setRow gS (opv h5 s5) = v13 at hHeld L ⊢
                try simp only [Act.put]
                refine wpAnyH_take (i := 14) (oi := ⟨some 16, _, _, _, _, _⟩) (v := .bool true) rfl (by kernel_rfl) (by kernel_rfl) (by kernel_rfl) (fun _ _ _ h => h) (Or.inl ⟨by rfl, ?_⟩) hHeld ?_
                · intro ww hS
                  try dsimp only at hS
                  go_simp
                  try with_reducible rfl
                  try omega
                try simp only [Act.put, List.setIfInBounds_toArray, List.set_cons_zero, List.set_cons_succ]
                refine wpAnyH_done (by kernel_rfl) ?_ _
                clear hHeld
                go_wp2
                replace L := L.only (fs' := [uF B2 m d2 y2]) (by simp)
                go_meet
                exact ⟨_, _, _, _, rfl, rfl, rfl, L⟩
            · go_simp
              refine hK.out _ _ (L.other _) (fun hHeld' => ?_)
              clear hHeld hK K0
              have hHeld := hHeld'
              clear hHeld'
              replace L := L.alloc #[.int .i64 0, .int .u32 0, .slice none 0 0, .int .i64 0, .int .u32 0, .bool false, .slice none 0 0, .slice none 0 0, .int .i64 0, .int .i64 0, .int .i64 0, .int .i64 0, .int .i64 0, .int .u64 0, .bool false, .slice none 0 0, .int .i64 0, .int .i64 0, .int .i64 0, .int .i64 0] 44
              replace L := L.is 0 (opv hd0 sc0) rfl
              try dsimp only [nput] at L
              generalize v9.alloc (.cells #[.int .i64 0, .int .u32 0, .slice none 0 0, .int .i64 0, .int .u32 0, .bool false, .slice none 0 0, .slice none 0 0, .int .i64 0, .int .i64 0, .int .i64 0, .int .i64 0, .int .i64 0, .int .u64 0, .bool false, .slice none 0 0, .int .i64 0, .int .i64 0, .int .i64 0, .int .i64 0] 44) = v10 at hHeld L ⊢
              generalize v9.heap.size = gS at L ⊢
              try simp only [Act.put, List.setIfInBounds_toArray, List.set_cons_zero, List.set_cons_succ]
              refine wpAnyH_ready (rs := [5]) (by kernel_rfl) (by simp) ?_
              refine AllReadyH.cons (o := ⟨some 88, _, _, _, _, _⟩) rfl (fun K0 hK => ?_) AllReadyH.nil
              go_simp
              refine ((TBQ _).out).mono ?_
              rintro e w11 ⟨h6, rfl, L', hSA, K'⟩
              have Lb := L.lts
              replace L := L.over K'
              replace L := L.of_ap L' (fun i b e => hSA b.1 (Lb i b e) (hH0.hap L i b e))
              clear Lb
              try dsimp only [lF, List.cons_append, List.nil_append] at L
              clear L' hSA
              refine hK.out _ _ ((L.less 1).del 0) (fun hHeld' => ?_)
              clear hHeld hK K0
              have hHeld := hHeld'
              clear hHeld'
              clear K'
              try simp only [Act.put, List.setIfInBounds_toArray, List.set_cons_zero, List.set_cons_succ]
              refine wpAnyH_ready (rs := [6]) (by kernel_rfl) (by simp) ?_
              refine AllReadyH.cons (o := ⟨some 89, _, _, _, _, _⟩) rfl (fun K0 hK => ?_) AllReadyH.nil
              go_simp
              refine ((TK _ _ _ _ _ (L.us_ 2 rfl) (L.of_ 0 rfl)).out).mono ?_
              rintro e w12 ⟨h5, B5, d5, rfl, U, L', hA, K'⟩
              have Lb := L.lts
              replace L := L.over K'
              replace L := L.us_av (fun i b e => hA b.1 (Lb i b e) (L.ap_ 2 rfl hm6.2.1 i b e)) U
              replace L := L.of_new Lb L'
              clear Lb
              try dsimp only [lF, List.cons_append, List.nil_append] at L
              clear U L' hA
              refine hK.out _ _ ((L.less 3).del 0) (fun hHeld' => ?_)
              clear hHeld hK K0
              have hHeld := hHeld'
              clear hHeld'
              clear K'
              try simp only [Act.put, List.setIfInBounds_toArray, List.set_cons_zero, List.set_cons_succ]
              refine wpAnyH_take (i := 7) (oi := ⟨some 82, _, _, _, _, _⟩) (v := ?_) rfl (by kernel_rfl) (by kernel_rfl) (by kernel_rfl) (fun _ _ _ h => h) (Or.inl ⟨by rfl, ?_⟩) hHeld ?_
              rotate_left
              · intro ww hS
                try dsimp only at hS
                go_simp
                try with_reducible rfl
                try omega
              try simp only [Act.put, List.setIfInBounds_toArray, List.set_cons_zero, List.set_cons_succ]
              refine wpAnyH_take (i := 8) (oi := ⟨some 90, _, _, _, _, _⟩) (v := .slice B5 m d5) rfl (by kernel_rfl) (by kernel_rfl) (by kernel_rfl) (fun _ _ _ h => h) (Or.inl ⟨by rfl, ?_⟩) hHeld ?_
              · intro ww hS
                try dsimp only at hS
                go_simp
                try with_reducible rfl
                try omega
              try simp only [Act.put, List.setIfInBounds_toArray, List.set_cons_zero, List.set_cons_succ]
              refine wpAnyH_take (i := 9) (oi := ⟨some 91, _, _, _, _, _⟩) (v := .agg (opv h5 s5)) rfl (by kernel_rfl) (by kernel_rfl) (by kernel_rfl) (fun _ _ _ h => h) (Or.inl ⟨by rfl, ?_⟩) hHeld ?_
              · intro ww hS
                try dsimp only at hS
                go_simp
                try with_reducible rfl
                try omega
              try simp only [Act.put, List.setIfInBounds_toArray, List.set_cons_zero, List.set_cons_succ]
              refine wpAnyH_take (i := 10) (oi := ⟨some 92, _, _, _, _, _⟩) (v := .bool true) rfl (by kernel_rfl) (by kernel_rfl) (by kernel_rfl) (fun _ _ _ h => h) (Or.inl ⟨by rfl, ?_⟩) hHeld ?_
              · intro ww hS
                try dsimp only at hS
                go_simp
                try with_reducible rfl
                try omega
              try simp only [Act.put, List.setIfInBounds_toArray, List.set_cons_zero, List.set_cons_succ]
              refine wpAnyH_take (i := 12) (oi := ⟨some 14, _, _, _, _, _⟩) (v := .slice B5 m d5) rfl (by kernel_rfl) (by kernel_rfl) (by kernel_rfl) (fun _ _ _ h => h) (Or.inl ⟨by rfl, ?_⟩) hHeld ?_
              · intro ww hS
                try dsimp only at hS
                go_simp
                try with_reducible rfl
                try omega
              try simp only [Act.put, List.setIfInBounds_toArray, List.set_cons_zero, List.set_cons_succ]
              refine wpAnyH_ready (rs := [13]) (by kernel_rfl) (by simp) ?_
              refine AllReadyH.cons (o := ⟨none, _, _, _, _, _⟩) rfl (fun K0 hK => ?_) AllReadyH.nil
              rw [if_pos (by rfl)]
              refine wp_store_row 44 (.tmp 15) (.tmp 91) rfl gS _ rfl rfl _ _ (L.bk_ 0 rfl) op_sz rfl (opv_one _ _) ?_
              replace L := L.row 0 rfl (opv h5 s5)
              try dsimp only [nput] at L
              refine hK.out _ _ ((L.less 3).del 0) (fun hHeld' => ?_)
              clear hHeld hK K0
              have hHeld := hHeld'
              clear hHeld'
              generalize w12.setRow gS (opv h5 s5) = v13 at hHeld L ⊢
              try simp only [Act.put]
              refine wpAnyH_take (i := 14) (oi := ⟨some 16, _, _, _, _, _⟩) (v := .bool true) rfl (by kernel_rfl) (by kernel_rfl) (by kernel_rfl) (fun _ _ _ h => h) (Or.inl ⟨by rfl, ?_⟩) hHeld ?_
              · intro ww hS
                try dsimp only at hS
                go_simp
                try with_reducible rfl
                try omega
              try simp only [Act.put, List.setIfInBounds_toArray, List.set_cons_zero, List.set_cons_succ]
              refine wpAnyH_done (by kernel_rfl) ?_ _
              clear hHeld
              go_wp2
              replace L := L.only (fs' := [uF B2 m d2 y2]) (by simp)
              go_meet
              exact ⟨_, _, _, _, rfl, rfl, rfl, L⟩
          case rest =>
            clear L
            obtain ⟨gS, h5, B5, d5, rfl, rfl, rfl, L⟩ := hcut
            go_upto_region 16 with (fail)
            try simp only [Act.put, List.setIfInBounds_toArray, List.set_cons_zero, List.set_cons_succ]
            go_cut [17, 18, 19] from 93 to 103 (fun q0 q1 q2 wx => ∃ (gT : Nat) (h7 : Hd) (B7 : Option Addr) (d7 : Nat), q0 = Value.slice B7 m d7 ∧ q1 = Value.pointer (some ⟨gT, 0, none⟩) ∧ q2 = Value.bool true ∧ Loc w wx [(gT, 44, opv h7 s7), (gS, 44, opv h5 s5), (gO, 44, opv h s), (gH, 27, #[.int .u32 (a : Int), .int .i64 p, .slice A n c, .int .i64 (ns : Int), .int .i64 wo, .int .i64 qu, .int .i64 tr])] [uF B2 m d2 y2])
            case first =>
              replace L := L.drew
              refine wp_region_held_drew (S := fun w' => Loc w w' [(gS, 44, opv h5 s5), (gO, 44, opv h s), (gH, 27, #[.int .u32 (a : Int), .int .i64 p, .slice A n c, .int .i64 (ns : Int), .int .i64 wo, .int .i64 qu, .int .i64 tr])] [uF B2 m d2 y2]) (by kernel_rfl) L (fun hHeld => ?_)
              generalize wc.drew = v14 at hHeld L ⊢
              refine wpAnyH_take (i := 0) (oi := ⟨some 94, _, _, _, _, _⟩) (v := .agg (#[.int .u32 (a : Int), .int .i64 p, .slice A n c, .int .i64 (ns : Int), .int .i64 wo, .int .i64 qu, .int .i64 tr])) rfl (by kernel_rfl) (by kernel_rfl) (by kernel_rfl) (fun _ _ _ h => h) (yieldsIf_load_row (by rfl) 27 (.tmp 3) rfl gH rfl 27 _ (0, 0) _ (fun _ hS => ((hS).bk_ 2 rfl)) Try.underlying27 rfl cf_sz) hHeld ?_
              try simp only [Act.put, List.setIfInBounds_toArray, List.set_cons_zero, List.set_cons_succ]
              refine wpAnyH_take (i := 1) (oi := ⟨some 95, _, _, _, _, _⟩) (v := .slice B2 m d2) rfl (by kernel_rfl) (by kernel_rfl) (by kernel_rfl) (fun _ _ _ h => h) (Or.inl ⟨by rfl, ?_⟩) hHeld ?_
              · intro ww hS
                try dsimp only at hS
                go_simp
                try with_reducible rfl
                try omega
              try simp only [Act.put, List.setIfInBounds_toArray, List.set_cons_zero, List.set_cons_succ]
              refine wpAnyH_take (i := 2) (oi := ⟨some 96, _, _, _, _, _⟩) (v := .agg (#[.int .u32 (a : Int), .int .i64 p, .slice A n c, .int .i64 (ns : Int), .int .i64 wo, .int .i64 qu, .int .i64 tr])) rfl (by kernel_rfl) (by kernel_rfl) (by kernel_rfl) (fun _ _ _ h => h) (yieldsIf_load_row (by rfl) 27 (.tmp 3) rfl gH rfl 27 _ (0, 0) _ (fun _ hS => ((hS).bk_ 2 rfl)) Try.underlying27 rfl cf_sz) hHeld ?_
              try simp only [Act.put, List.setIfInBounds_toArray, List.set_cons_zero, List.set_cons_succ]
              refine wpAnyH_take (i := 3) (oi := ⟨some 97, _, _, _, _, _⟩) (v := .int .u32 (X : Int)) rfl (by kernel_rfl) (by kernel_rfl) (by kernel_rfl) (fun _ _ _ h => h) (Or.inl ⟨by rfl, ?_⟩) hHeld ?_
              · intro ww hS
                try dsimp only at hS
                go_simp
                try with_reducible rfl
                try omega
              try simp only [Act.put, List.setIfInBounds_toArray, List.set_cons_zero, List.set_cons_succ]
              refine wpAnyH_take (i := 4) (oi := ⟨some 98, _, _, _, _, _⟩) (v := ?_) rfl (by kernel_rfl) (by kernel_rfl) (by kernel_rfl) (fun _ _ _ h => h) (Or.inl ⟨by rfl, ?_⟩) hHeld ?_
              rotate_left
              · intro ww hS
                try dsimp only at hS
                go_simp
                try with_reducible rfl
                try omega
              try simp only [Act.put, List.setIfInBounds_toArray, List.set_cons_zero, List.set_cons_succ]
              refine wpAnyH_ready (rs := [5, 11]) (by kernel_rfl) (by simp) ?_
              refine (AllReadyH.cons (o := ⟨some 99, _, _, _, _, _⟩) rfl (fun K0 hK => ?_) (AllReadyH.cons (o := ⟨some 18, _, _, _, _, _⟩) rfl (fun K0 hK => ?_) AllReadyH.nil))
              · go_simp
                refine ((TB _).out).mono ?_
                rintro e w15 ⟨h6, rfl, L', hSA, K'⟩
                have Lb := L.lts
                replace L := L.over K'
                replace L := L.of_ap L' (fun i b e => hSA b.1 (Lb i b e) (hH0.hap L i b e))
                clear Lb
                try dsimp only [lF, List.cons_append, List.nil_append] at L
                clear L' hSA
                refine hK.out _ _ (L.less 1) (fun hHeld' => ?_)
                clear hHeld hK K0
                have hHeld := hHeld'
                clear hHeld'
                clear K'
                try simp only [Act.put, List.setIfInBounds_toArray, List.set_cons_zero, List.set_cons_succ]
                refine wpAnyH_ready (rs := [6, 11]) (by kernel_rfl) (by simp) ?_
                refine (AllReadyH.cons (o := ⟨some 100, _, _, _, _, _⟩) rfl (fun K0 hK => ?_) (AllReadyH.cons (o := ⟨some 18, _, _, _, _, _⟩) rfl (fun K0 hK => ?_) AllReadyH.nil))
                · go_simp
                  refine ((TR _ _ _ _ _ (L.us_ 1 rfl) (L.of_ 0 rfl)).out).mono ?_
                  rintro e w16 ⟨h7, B7, d7, rfl, U, L', hA, K'⟩
                  have Lb := L.lts
                  replace L := L.over K'
                  replace L := L.us_av (fun i b e => hA b.1 (Lb i b e) (L.ap_ 1 rfl hm6.2.1 i b e)) U
                  replace L := L.of_new Lb L'
                  clear Lb
                  try dsimp only [lF, List.cons_append, List.nil_append] at L
                  clear U L' hA
                  refine hK.out _ _ (L.less 3) (fun hHeld' => ?_)
                  clear hHeld hK K0
                  have hHeld := hHeld'
                  clear hHeld'
                  clear K'
                  try simp only [Act.put, List.setIfInBounds_toArray, List.set_cons_zero, List.set_cons_succ]
                  refine wpAnyH_take (i := 7) (oi := ⟨some 93, _, _, _, _, _⟩) (v := ?_) rfl (by kernel_rfl) (by kernel_rfl) (by kernel_rfl) (fun _ _ _ h => h) (Or.inl ⟨by rfl, ?_⟩) hHeld ?_
                  rotate_left
                  · intro ww hS
                    try dsimp only at hS
                    go_simp
                    try with_reducible rfl
                    try omega
                  try simp only [Act.put, List.setIfInBounds_toArray, List.set_cons_zero, List.set_cons_succ]
                  refine wpAnyH_take (i := 8) (oi := ⟨some 101, _, _, _, _, _⟩) (v := .slice B7 m d7) rfl (by kernel_rfl) (by kernel_rfl) (by kernel_rfl) (fun _ _ _ h => h) (Or.inl ⟨by rfl, ?_⟩) hHeld ?_
                  · intro ww hS
                    try dsimp only at hS
                    go_simp
                    try with_reducible rfl
                    try omega
                  try simp only [Act.put, List.setIfInBounds_toArray, List.set_cons_zero, List.set_cons_succ]
                  refine wpAnyH_take (i := 9) (oi := ⟨some 102, _, _, _, _, _⟩) (v := .agg (opv h7 s7)) rfl (by kernel_rfl) (by kernel_rfl) (by kernel_rfl) (fun _ _ _ h => h) (Or.inl ⟨by rfl, ?_⟩) hHeld ?_
                  · intro ww hS
                    try dsimp only at hS
                    go_simp
                    try with_reducible rfl
                    try omega
                  try simp only [Act.put, List.setIfInBounds_toArray, List.set_cons_zero, List.set_cons_succ]
                  refine wpAnyH_take (i := 10) (oi := ⟨some 103, _, _, _, _, _⟩) (v := .bool true) rfl (by kernel_rfl) (by kernel_rfl) (by kernel_rfl) (fun _ _ _ h => h) (Or.inl ⟨by rfl, ?_⟩) hHeld ?_
                  · intro ww hS
                    try dsimp only at hS
                    go_simp
                    try with_reducible rfl
                    try omega
                  try simp only [Act.put, List.setIfInBounds_toArray, List.set_cons_zero, List.set_cons_succ]
                  refine wpAnyH_ready (rs := [11]) (by kernel_rfl) (by simp) ?_
                  refine AllReadyH.cons (o := ⟨some 18, _, _, _, _, _⟩) rfl (fun K0 hK => ?_) AllReadyH.nil
                  go_simp
                  refine hK.out _ _ ((L.other _).less 3) (fun hHeld' => ?_)
                  clear hHeld hK K0
                  have hHeld := hHeld'
                  clear hHeld'
                  replace L := L.alloc #[.int .i64 0, .int .u32 0, .slice none 0 0, .int .i64 0, .int .u32 0, .bool false, .slice none 0 0, .slice none 0 0, .int .i64 0, .int .i64 0, .int .i64 0, .int .i64 0, .int .i64 0, .int .u64 0, .bool false, .slice none 0 0, .int .i64 0, .int .i64 0, .int .i64 0, .int .i64 0] 44
                  replace L := L.is 0 (opv hd0 sc0) rfl
                  try dsimp only [nput] at L
                  generalize w16.alloc (.cells #[.int .i64 0, .int .u32 0, .slice none 0 0, .int .i64 0, .int .u32 0, .bool false, .slice none 0 0, .slice none 0 0, .int .i64 0, .int .i64 0, .int .i64 0, .int .i64 0, .int .i64 0, .int .u64 0, .bool false, .slice none 0 0, .int .i64 0, .int .i64 0, .int .i64 0, .int .i64 0] 44) = v17 at hHeld L ⊢
                  generalize w16.heap.size = gT at L ⊢
                  try simp only [Act.put, List.setIfInBounds_toArray, List.set_cons_zero, List.set_cons_succ]
                  refine wpAnyH_take (i := 12) (oi := ⟨some 17, _, _, _, _, _⟩) (v := .slice B7 m d7) rfl (by kernel_rfl) (by kernel_rfl) (by kernel_rfl) (fun _ _ _ h => h) (Or.inl ⟨by rfl, ?_⟩) hHeld ?_
                  · intro ww hS
                    try dsimp only at hS
                    go_simp
                    try with_reducible rfl
                    try omega
                  try simp only [Act.put, List.setIfInBounds_toArray, List.set_cons_zero, List.set_cons_succ]
                  refine wpAnyH_ready (rs := [13]) (by kernel_rfl) (by simp) ?_
                  refine AllReadyH.cons (o := ⟨none, _, _, _, _, _⟩) rfl (fun K0 hK => ?_) AllReadyH.nil
                  rw [if_pos (by rfl)]
                  refine wp_store_row 44 (.tmp 18) (.tmp 102) rfl gT _ rfl rfl _ _ (L.bk_ 0 rfl) op_sz rfl (opv_one _ _) ?_
                  replace L := L.row 0 rfl (opv h7 s7)
                  try dsimp only [nput] at L
                  refine hK.out _ _ ((L.less 3).del 0) (fun hHeld' => ?_)
                  clear hHeld hK K0
                  have hHeld := hHeld'
                  clear hHeld'
                  generalize v17.setRow gT (opv h7 s7) = v18 at hHeld L ⊢
                  try simp only [Act.put]
                  refine wpAnyH_take (i := 14) (oi := ⟨some 19, _, _, _, _, _⟩) (v := .bool true) rfl (by kernel_rfl) (by kernel_rfl) (by kernel_rfl) (fun _ _ _ h => h) (Or.inl ⟨by rfl, ?_⟩) hHeld ?_
                  · intro ww hS
                    try dsimp only at hS
                    go_simp
                    try with_reducible rfl
                    try omega
                  try simp only [Act.put, List.setIfInBounds_toArray, List.set_cons_zero, List.set_cons_succ]
                  refine wpAnyH_done (by kernel_rfl) ?_ _
                  clear hHeld
                  go_wp2
                  replace L := L.only (fs' := [uF B2 m d2 y2]) (by simp)
                  go_meet
                  exact ⟨_, _, _, _, rfl, rfl, rfl, L⟩
                · go_simp
                  refine hK.out _ _ ((L.other _).less 1) (fun hHeld' => ?_)
                  clear hHeld hK K0
                  have hHeld := hHeld'
                  clear hHeld'
                  replace L := L.alloc #[.int .i64 0, .int .u32 0, .slice none 0 0, .int .i64 0, .int .u32 0, .bool false, .slice none 0 0, .slice none 0 0, .int .i64 0, .int .i64 0, .int .i64 0, .int .i64 0, .int .i64 0, .int .u64 0, .bool false, .slice none 0 0, .int .i64 0, .int .i64 0, .int .i64 0, .int .i64 0] 44
                  replace L := L.is 0 (opv hd0 sc0) rfl
                  try dsimp only [nput] at L
                  generalize w15.alloc (.cells #[.int .i64 0, .int .u32 0, .slice none 0 0, .int .i64 0, .int .u32 0, .bool false, .slice none 0 0, .slice none 0 0, .int .i64 0, .int .i64 0, .int .i64 0, .int .i64 0, .int .i64 0, .int .u64 0, .bool false, .slice none 0 0, .int .i64 0, .int .i64 0, .int .i64 0, .int .i64 0] 44) = v16 at hHeld L ⊢
                  generalize w15.heap.size = gT at L ⊢
                  try simp only [Act.put, List.setIfInBounds_toArray, List.set_cons_zero, List.set_cons_succ]
                  refine wpAnyH_ready (rs := [6]) (by kernel_rfl) (by simp) ?_
                  refine AllReadyH.cons (o := ⟨some 100, _, _, _, _, _⟩) rfl (fun K0 hK => ?_) AllReadyH.nil
                  go_simp
                  refine ((TR _ _ _ _ _ (L.us_ 1 rfl) (L.of_ 0 rfl)).out).mono ?_
                  rintro e w17 ⟨h7, B7, d7, rfl, U, L', hA, K'⟩
                  have Lb := L.lts
                  replace L := L.over K'
                  replace L := L.us_av (fun i b e => hA b.1 (Lb i b e) (L.ap_ 1 rfl hm6.2.1 i b e)) U
                  replace L := L.of_new Lb L'
                  clear Lb
                  try dsimp only [lF, List.cons_append, List.nil_append] at L
                  clear U L' hA
                  refine hK.out _ _ ((L.less 3).del 0) (fun hHeld' => ?_)
                  clear hHeld hK K0
                  have hHeld := hHeld'
                  clear hHeld'
                  clear K'
                  try simp only [Act.put, List.setIfInBounds_toArray, List.set_cons_zero, List.set_cons_succ]
                  refine wpAnyH_take (i := 7) (oi := ⟨some 93, _, _, _, _, _⟩) (v := ?_) rfl (by kernel_rfl) (by kernel_rfl) (by kernel_rfl) (fun _ _ _ h => h) (Or.inl ⟨by rfl, ?_⟩) hHeld ?_
                  rotate_left
                  · intro ww hS
                    try dsimp only at hS
                    go_simp
                    try with_reducible rfl
                    try omega
                  try simp only [Act.put, List.setIfInBounds_toArray, List.set_cons_zero, List.set_cons_succ]
                  refine wpAnyH_take (i := 8) (oi := ⟨some 101, _, _, _, _, _⟩) (v := .slice B7 m d7) rfl (by kernel_rfl) (by kernel_rfl) (by kernel_rfl) (fun _ _ _ h => h) (Or.inl ⟨by rfl, ?_⟩) hHeld ?_
                  · intro ww hS
                    try dsimp only at hS
                    go_simp
                    try with_reducible rfl
                    try omega
                  try simp only [Act.put, List.setIfInBounds_toArray, List.set_cons_zero, List.set_cons_succ]
                  refine wpAnyH_take (i := 9) (oi := ⟨some 102, _, _, _, _, _⟩) (v := .agg (opv h7 s7)) rfl (by kernel_rfl) (by kernel_rfl) (by kernel_rfl) (fun _ _ _ h => h) (Or.inl ⟨by rfl, ?_⟩) hHeld ?_
                  · intro ww hS
                    try dsimp only at hS
                    go_simp
                    try with_reducible rfl
                    try omega
                  try simp only [Act.put, List.setIfInBounds_toArray, List.set_cons_zero, List.set_cons_succ]
                  refine wpAnyH_take (i := 10) (oi := ⟨some 103, _, _, _, _, _⟩) (v := .bool true) rfl (by kernel_rfl) (by kernel_rfl) (by kernel_rfl) (fun _ _ _ h => h) (Or.inl ⟨by rfl, ?_⟩) hHeld ?_
                  · intro ww hS
                    try dsimp only at hS
                    go_simp
                    try with_reducible rfl
                    try omega
                  try simp only [Act.put, List.setIfInBounds_toArray, List.set_cons_zero, List.set_cons_succ]
                  refine wpAnyH_take (i := 12) (oi := ⟨some 17, _, _, _, _, _⟩) (v := .slice B7 m d7) rfl (by kernel_rfl) (by kernel_rfl) (by kernel_rfl) (fun _ _ _ h => h) (Or.inl ⟨by rfl, ?_⟩) hHeld ?_
                  · intro ww hS
                    try dsimp only at hS
                    go_simp
                    try with_reducible rfl
                    try omega
                  try simp only [Act.put, List.setIfInBounds_toArray, List.set_cons_zero, List.set_cons_succ]
                  refine wpAnyH_ready (rs := [13]) (by kernel_rfl) (by simp) ?_
                  refine AllReadyH.cons (o := ⟨none, _, _, _, _, _⟩) rfl (fun K0 hK => ?_) AllReadyH.nil
                  rw [if_pos (by rfl)]
                  refine wp_store_row 44 (.tmp 18) (.tmp 102) rfl gT _ rfl rfl _ _ (L.bk_ 0 rfl) op_sz rfl (opv_one _ _) ?_
                  replace L := L.row 0 rfl (opv h7 s7)
                  try dsimp only [nput] at L
                  refine hK.out _ _ ((L.less 3).del 0) (fun hHeld' => ?_)
                  clear hHeld hK K0
                  have hHeld := hHeld'
                  clear hHeld'
                  generalize w17.setRow gT (opv h7 s7) = v18 at hHeld L ⊢
                  try simp only [Act.put]
                  refine wpAnyH_take (i := 14) (oi := ⟨some 19, _, _, _, _, _⟩) (v := .bool true) rfl (by kernel_rfl) (by kernel_rfl) (by kernel_rfl) (fun _ _ _ h => h) (Or.inl ⟨by rfl, ?_⟩) hHeld ?_
                  · intro ww hS
                    try dsimp only at hS
                    go_simp
                    try with_reducible rfl
                    try omega
                  try simp only [Act.put, List.setIfInBounds_toArray, List.set_cons_zero, List.set_cons_succ]
                  refine wpAnyH_done (by kernel_rfl) ?_ _
                  clear hHeld
                  go_wp2
                  replace L := L.only (fs' := [uF B2 m d2 y2]) (by simp)
                  go_meet
                  exact ⟨_, _, _, _, rfl, rfl, rfl, L⟩
              · go_simp
                refine hK.out _ _ (L.other _) (fun hHeld' => ?_)
                clear hHeld hK K0
                have hHeld := hHeld'
                clear hHeld'
                replace L := L.alloc #[.int .i64 0, .int .u32 0, .slice none 0 0, .int .i64 0, .int .u32 0, .bool false, .slice none 0 0, .slice none 0 0, .int .i64 0, .int .i64 0, .int .i64 0, .int .i64 0, .int .i64 0, .int .u64 0, .bool false, .slice none 0 0, .int .i64 0, .int .i64 0, .int .i64 0, .int .i64 0] 44
                replace L := L.is 0 (opv hd0 sc0) rfl
                try dsimp only [nput] at L
                generalize v14.alloc (.cells #[.int .i64 0, .int .u32 0, .slice none 0 0, .int .i64 0, .int .u32 0, .bool false, .slice none 0 0, .slice none 0 0, .int .i64 0, .int .i64 0, .int .i64 0, .int .i64 0, .int .i64 0, .int .u64 0, .bool false, .slice none 0 0, .int .i64 0, .int .i64 0, .int .i64 0, .int .i64 0] 44) = v15 at hHeld L ⊢
                generalize v14.heap.size = gT at L ⊢
                try simp only [Act.put, List.setIfInBounds_toArray, List.set_cons_zero, List.set_cons_succ]
                refine wpAnyH_ready (rs := [5]) (by kernel_rfl) (by simp) ?_
                refine AllReadyH.cons (o := ⟨some 99, _, _, _, _, _⟩) rfl (fun K0 hK => ?_) AllReadyH.nil
                go_simp
                refine ((TB _).out).mono ?_
                rintro e w16 ⟨h6, rfl, L', hSA, K'⟩
                have Lb := L.lts
                replace L := L.over K'
                replace L := L.of_ap L' (fun i b e => hSA b.1 (Lb i b e) (hH0.hap L i b e))
                clear Lb
                try dsimp only [lF, List.cons_append, List.nil_append] at L
                clear L' hSA
                refine hK.out _ _ ((L.less 1).del 0) (fun hHeld' => ?_)
                clear hHeld hK K0
                have hHeld := hHeld'
                clear hHeld'
                clear K'
                try simp only [Act.put, List.setIfInBounds_toArray, List.set_cons_zero, List.set_cons_succ]
                refine wpAnyH_ready (rs := [6]) (by kernel_rfl) (by simp) ?_
                refine AllReadyH.cons (o := ⟨some 100, _, _, _, _, _⟩) rfl (fun K0 hK => ?_) AllReadyH.nil
                go_simp
                refine ((TR _ _ _ _ _ (L.us_ 1 rfl) (L.of_ 0 rfl)).out).mono ?_
                rintro e w17 ⟨h7, B7, d7, rfl, U, L', hA, K'⟩
                have Lb := L.lts
                replace L := L.over K'
                replace L := L.us_av (fun i b e => hA b.1 (Lb i b e) (L.ap_ 1 rfl hm6.2.1 i b e)) U
                replace L := L.of_new Lb L'
                clear Lb
                try dsimp only [lF, List.cons_append, List.nil_append] at L
                clear U L' hA
                refine hK.out _ _ ((L.less 3).del 0) (fun hHeld' => ?_)
                clear hHeld hK K0
                have hHeld := hHeld'
                clear hHeld'
                clear K'
                try simp only [Act.put, List.setIfInBounds_toArray, List.set_cons_zero, List.set_cons_succ]
                refine wpAnyH_take (i := 7) (oi := ⟨some 93, _, _, _, _, _⟩) (v := ?_) rfl (by kernel_rfl) (by kernel_rfl) (by kernel_rfl) (fun _ _ _ h => h) (Or.inl ⟨by rfl, ?_⟩) hHeld ?_
                rotate_left
                · intro ww hS
                  try dsimp only at hS
                  go_simp
                  try with_reducible rfl
                  try omega
                try simp only [Act.put, List.setIfInBounds_toArray, List.set_cons_zero, List.set_cons_succ]
                refine wpAnyH_take (i := 8) (oi := ⟨some 101, _, _, _, _, _⟩) (v := .slice B7 m d7) rfl (by kernel_rfl) (by kernel_rfl) (by kernel_rfl) (fun _ _ _ h => h) (Or.inl ⟨by rfl, ?_⟩) hHeld ?_
                · intro ww hS
                  try dsimp only at hS
                  go_simp
                  try with_reducible rfl
                  try omega
                try simp only [Act.put, List.setIfInBounds_toArray, List.set_cons_zero, List.set_cons_succ]
                refine wpAnyH_take (i := 9) (oi := ⟨some 102, _, _, _, _, _⟩) (v := .agg (opv h7 s7)) rfl (by kernel_rfl) (by kernel_rfl) (by kernel_rfl) (fun _ _ _ h => h) (Or.inl ⟨by rfl, ?_⟩) hHeld ?_
                · intro ww hS
                  try dsimp only at hS
                  go_simp
                  try with_reducible rfl
                  try omega
                try simp only [Act.put, List.setIfInBounds_toArray, List.set_cons_zero, List.set_cons_succ]
                refine wpAnyH_take (i := 10) (oi := ⟨some 103, _, _, _, _, _⟩) (v := .bool true) rfl (by kernel_rfl) (by kernel_rfl) (by kernel_rfl) (fun _ _ _ h => h) (Or.inl ⟨by rfl, ?_⟩) hHeld ?_
                · intro ww hS
                  try dsimp only at hS
                  go_simp
                  try with_reducible rfl
                  try omega
                try simp only [Act.put, List.setIfInBounds_toArray, List.set_cons_zero, List.set_cons_succ]
                refine wpAnyH_take (i := 12) (oi := ⟨some 17, _, _, _, _, _⟩) (v := .slice B7 m d7) rfl (by kernel_rfl) (by kernel_rfl) (by kernel_rfl) (fun _ _ _ h => h) (Or.inl ⟨by rfl, ?_⟩) hHeld ?_
                · intro ww hS
                  try dsimp only at hS
                  go_simp
                  try with_reducible rfl
                  try omega
                try simp only [Act.put, List.setIfInBounds_toArray, List.set_cons_zero, List.set_cons_succ]
                refine wpAnyH_ready (rs := [13]) (by kernel_rfl) (by simp) ?_
                refine AllReadyH.cons (o := ⟨none, _, _, _, _, _⟩) rfl (fun K0 hK => ?_) AllReadyH.nil
                rw [if_pos (by rfl)]
                refine wp_store_row 44 (.tmp 18) (.tmp 102) rfl gT _ rfl rfl _ _ (L.bk_ 0 rfl) op_sz rfl (opv_one _ _) ?_
                replace L := L.row 0 rfl (opv h7 s7)
                try dsimp only [nput] at L
                refine hK.out _ _ ((L.less 3).del 0) (fun hHeld' => ?_)
                clear hHeld hK K0
                have hHeld := hHeld'
                clear hHeld'
                generalize w17.setRow gT (opv h7 s7) = v18 at hHeld L ⊢
                try simp only [Act.put]
                refine wpAnyH_take (i := 14) (oi := ⟨some 19, _, _, _, _, _⟩) (v := .bool true) rfl (by kernel_rfl) (by kernel_rfl) (by kernel_rfl) (fun _ _ _ h => h) (Or.inl ⟨by rfl, ?_⟩) hHeld ?_
                · intro ww hS
                  try dsimp only at hS
                  go_simp
                  try with_reducible rfl
                  try omega
                try simp only [Act.put, List.setIfInBounds_toArray, List.set_cons_zero, List.set_cons_succ]
                refine wpAnyH_done (by kernel_rfl) ?_ _
                clear hHeld
                go_wp2
                replace L := L.only (fs' := [uF B2 m d2 y2]) (by simp)
                go_meet
                exact ⟨_, _, _, _, rfl, rfl, rfl, L⟩
            case rest =>
              clear L
              obtain ⟨gT, h7, B7, d7, rfl, rfl, rfl, L⟩ := hcut
              rcases hcs.out with ⟨rfl, e1, e2⟩ | ⟨rfl, e1⟩
              all_goals clear hcs
              · clear TK TR
                have e3 : s.aad = (X : Int) := by rw [e2, hxo.out]
                have S_8 := L.at_ 1 8 rfl (v := .int .i64 s5.phase) rfl
                have S_z := L.lt 1 rfl
                have O_8 := L.at_ 2 8 rfl (v := .int .i64 0) (by show some (Value.int .i64 s.phase) = _; rw [hp])
                have O_z := L.lt 2 rfl
                have O_3 := L.at_ 2 3 rfl (v := .int .i64 0) (by show some (Value.int .i64 s.err) = _; rw [e1])
                have O_z := L.lt 2 rfl
                have O_3 := L.at_ 2 3 rfl (v := .int .i64 0) (by show some (Value.int .i64 s.err) = _; rw [e1])
                have O_z := L.lt 2 rfl
                have O_4 := L.at_ 2 4 rfl (v := .int .u32 (X : Int)) (by show some (Value.int .u32 s.aad) = _; rw [e3])
                have O_z := L.lt 2 rfl
                have S_5 := L.at_ 1 5 rfl (v := .bool true) (by show some (Value.bool s5.used) = _; rw [qe2.out])
                have S_z := L.lt 1 rfl
                have S_8 := L.at_ 1 8 rfl (v := .int .i64 0) (by show some (Value.int .i64 s5.phase) = _; rw [qe3.out])
                have S_z := L.lt 1 rfl
                have T_3 := L.at_ 0 3 rfl (v := .int .i64 5) (by show some (Value.int .i64 s7.err) = _; rw [re2.out])
                have T_z := L.lt 0 rfl
                go_wp2_with fail
                clear S_8 S_z O_8 O_z O_3 O_4 S_5 T_3 T_z
                go_ret
                exact ⟨rfl, L.K⟩
              · clear TK TR
                have S_8 := L.at_ 1 8 rfl (v := .int .i64 s5.phase) rfl
                have S_z := L.lt 1 rfl
                have O_8 := L.at_ 2 8 rfl (v := .int .i64 0) (by show some (Value.int .i64 s.phase) = _; rw [hp])
                have O_z := L.lt 2 rfl
                have O_3 := L.at_ 2 3 rfl (v := .int .i64 5) (by show some (Value.int .i64 s.err) = _; rw [e1])
                have O_z := L.lt 2 rfl
                have S_5 := L.at_ 1 5 rfl (v := .bool true) (by show some (Value.bool s5.used) = _; rw [qe2.out])
                have S_z := L.lt 1 rfl
                have S_8 := L.at_ 1 8 rfl (v := .int .i64 0) (by show some (Value.int .i64 s5.phase) = _; rw [qe3.out])
                have S_z := L.lt 1 rfl
                have T_3 := L.at_ 0 3 rfl (v := .int .i64 5) (by show some (Value.int .i64 s7.err) = _; rw [re2.out])
                have T_z := L.lt 0 rfl
                go_wp2_with fail
                clear S_8 S_z O_8 O_z O_3 S_5 T_3 T_z
                go_ret
                exact ⟨rfl, L.K⟩
        · obtain ⟨hu1, hcs⟩ := ea_end hEI hk2 hEA hp
          obtain ⟨qe1, qe2, qe3⟩ := qy_used hEq hkq hpq hu1
          obtain ⟨re1, re2⟩ := ex_used hE0 hk0 hp0 hu1
          have TK := fun w lo h B d U L => TS w lo h B d y2 sq hEq hY2 U L
          have TR := fun w lo h B d U L => TS w lo h B d y2 s0 hE0 hY2 U L
          rw [qe1] at TK
          rw [re1] at TR
          clear TS qe1 re1
          obtain ⟨s5, hs5⟩ : ∃ s5, s5 = eS a M y2 sq := ⟨_, rfl⟩
          obtain ⟨y5, hy5⟩ : ∃ y5, y5 = gC M y2 sq := ⟨_, rfl⟩
          obtain ⟨s7, hs7⟩ : ∃ s7, s7 = eS a M y2 s0 := ⟨_, rfl⟩
          obtain ⟨y7, hy7⟩ : ∃ y7, y7 = gC M y2 s0 := ⟨_, rfl⟩
          rw [← hs5] at qe2 qe3
          rw [← hs7] at re2
          simp only [← hs5, ← hy5] at TK
          simp only [← hs7, ← hy7] at TR
          clear hs5 hy5 hs7 hy7 hu1 hEI hY2 hEA hmx hk0 hp0 hkq hpq hk2 hEq hE0
          replace hcs := Lib.hid hcs
          replace qe2 := Lib.hid qe2
          replace qe3 := Lib.hid qe3
          replace re2 := Lib.hid re2
          have hu2 : ¬ ((u : Int) < 6) := by omega
          go_upto_region 15 with (fail)
          try simp only [Act.put, List.setIfInBounds_toArray, List.set_cons_zero, List.set_cons_succ]
          go_cut [14, 15, 16] from 82 to 92 (fun q0 q1 q2 wx => ∃ (gS : Nat) (h5 : Hd) (B5 : Option Addr) (d5 : Nat), q0 = Value.slice B5 m d5 ∧ q1 = Value.pointer (some ⟨gS, 0, none⟩) ∧ q2 = Value.bool true ∧ Loc w wx [(gS, 44, opv h5 s5), (gO, 44, opv h s), (gH, 27, #[.int .u32 (a : Int), .int .i64 p, .slice A n c, .int .i64 (ns : Int), .int .i64 wo, .int .i64 qu, .int .i64 tr])] [uF B2 m d2 y2])
          case first =>
            replace L := L.drew
            refine wp_region_held_drew (S := fun w' => Loc w w' [(gO, 44, opv h s), (gH, 27, #[.int .u32 (a : Int), .int .i64 p, .slice A n c, .int .i64 (ns : Int), .int .i64 wo, .int .i64 qu, .int .i64 tr])] [oF h ⟨[], [], [], []⟩, uF B2 m d2 y2]) (by kernel_rfl) L (fun hHeld => ?_)
            generalize wr.drew = v9 at hHeld L ⊢
            refine wpAnyH_take (i := 0) (oi := ⟨some 83, _, _, _, _, _⟩) (v := .agg (#[.int .u32 (a : Int), .int .i64 p, .slice A n c, .int .i64 (ns : Int), .int .i64 wo, .int .i64 qu, .int .i64 tr])) rfl (by kernel_rfl) (by kernel_rfl) (by kernel_rfl) (fun _ _ _ h => h) (yieldsIf_load_row (by rfl) 27 (.tmp 3) rfl gH rfl 27 _ (0, 0) _ (fun _ hS => ((hS).bk_ 1 rfl)) Try.underlying27 rfl cf_sz) hHeld ?_
            try simp only [Act.put, List.setIfInBounds_toArray, List.set_cons_zero, List.set_cons_succ]
            refine wpAnyH_take (i := 1) (oi := ⟨some 84, _, _, _, _, _⟩) (v := .slice B2 m d2) rfl (by kernel_rfl) (by kernel_rfl) (by kernel_rfl) (fun _ _ _ h => h) (Or.inl ⟨by rfl, ?_⟩) hHeld ?_
            · intro ww hS
              try dsimp only at hS
              go_simp
              try with_reducible rfl
              try omega
            try simp only [Act.put, List.setIfInBounds_toArray, List.set_cons_zero, List.set_cons_succ]
            refine wpAnyH_take (i := 2) (oi := ⟨some 85, _, _, _, _, _⟩) (v := .agg (#[.int .u32 (a : Int), .int .i64 p, .slice A n c, .int .i64 (ns : Int), .int .i64 wo, .int .i64 qu, .int .i64 tr])) rfl (by kernel_rfl) (by kernel_rfl) (by kernel_rfl) (fun _ _ _ h => h) (yieldsIf_load_row (by rfl) 27 (.tmp 3) rfl gH rfl 27 _ (0, 0) _ (fun _ hS => ((hS).bk_ 1 rfl)) Try.underlying27 rfl cf_sz) hHeld ?_
            try simp only [Act.put, List.setIfInBounds_toArray, List.set_cons_zero, List.set_cons_succ]
            refine wpAnyH_take (i := 3) (oi := ⟨some 86, _, _, _, _, _⟩) (v := .int .u32 (X : Int)) rfl (by kernel_rfl) (by kernel_rfl) (by kernel_rfl) (fun _ _ _ h => h) (Or.inl ⟨by rfl, ?_⟩) hHeld ?_
            · intro ww hS
              try dsimp only at hS
              go_simp
              try with_reducible rfl
              try omega
            try simp only [Act.put, List.setIfInBounds_toArray, List.set_cons_zero, List.set_cons_succ]
            refine wpAnyH_take (i := 4) (oi := ⟨some 87, _, _, _, _, _⟩) (v := ?_) rfl (by kernel_rfl) (by kernel_rfl) (by kernel_rfl) (fun _ _ _ h => h) (Or.inl ⟨by rfl, ?_⟩) hHeld ?_
            rotate_left
            · intro ww hS
              try dsimp only at hS
              go_simp
              try with_reducible rfl
              try omega
            try simp only [Act.put, List.setIfInBounds_toArray, List.set_cons_zero, List.set_cons_succ]
            refine wpAnyH_ready (rs := [5, 11]) (by kernel_rfl) (by simp) ?_
            refine (AllReadyH.cons (o := ⟨some 88, _, _, _, _, _⟩) rfl (fun K0 hK => ?_) (AllReadyH.cons (o := ⟨some 15, _, _, _, _, _⟩) rfl (fun K0 hK => ?_) AllReadyH.nil))
            · go_simp
              refine ((TBQ _).out).mono ?_
              rintro e w10 ⟨h6, rfl, L', hSA, K'⟩
              have Lb := L.lts
              replace L := L.over K'
              replace L := L.of_ap L' (fun i b e => hSA b.1 (Lb i b e) (hH0.hap L i b e))
              clear Lb
              try dsimp only [lF, List.cons_append, List.nil_append] at L
              clear L' hSA
              refine hK.out _ _ (L.less 1) (fun hHeld' => ?_)
              clear hHeld hK K0
              have hHeld := hHeld'
              clear hHeld'
              clear K'
              try simp only [Act.put, List.setIfInBounds_toArray, List.set_cons_zero, List.set_cons_succ]
              refine wpAnyH_ready (rs := [6, 11]) (by kernel_rfl) (by simp) ?_
              refine (AllReadyH.cons (o := ⟨some 89, _, _, _, _, _⟩) rfl (fun K0 hK => ?_) (AllReadyH.cons (o := ⟨some 15, _, _, _, _, _⟩) rfl (fun K0 hK => ?_) AllReadyH.nil))
              · go_simp
                refine ((TK _ _ _ _ _ (L.us_ 2 rfl) (L.of_ 0 rfl)).out).mono ?_
                rintro e w11 ⟨h5, B5, d5, rfl, U, L', hA, K'⟩
                have Lb := L.lts
                replace L := L.over K'
                replace L := L.us_av (fun i b e => hA b.1 (Lb i b e) (L.ap_ 2 rfl hm6.2.1 i b e)) U
                replace L := L.of_new Lb L'
                clear Lb
                try dsimp only [lF, List.cons_append, List.nil_append] at L
                clear U L' hA
                refine hK.out _ _ (L.less 3) (fun hHeld' => ?_)
                clear hHeld hK K0
                have hHeld := hHeld'
                clear hHeld'
                clear K'
                try simp only [Act.put, List.setIfInBounds_toArray, List.set_cons_zero, List.set_cons_succ]
                refine wpAnyH_take (i := 7) (oi := ⟨some 82, _, _, _, _, _⟩) (v := ?_) rfl (by kernel_rfl) (by kernel_rfl) (by kernel_rfl) (fun _ _ _ h => h) (Or.inl ⟨by rfl, ?_⟩) hHeld ?_
                rotate_left
                · intro ww hS
                  try dsimp only at hS
                  go_simp
                  try with_reducible rfl
                  try omega
                try simp only [Act.put, List.setIfInBounds_toArray, List.set_cons_zero, List.set_cons_succ]
                refine wpAnyH_take (i := 8) (oi := ⟨some 90, _, _, _, _, _⟩) (v := .slice B5 m d5) rfl (by kernel_rfl) (by kernel_rfl) (by kernel_rfl) (fun _ _ _ h => h) (Or.inl ⟨by rfl, ?_⟩) hHeld ?_
                · intro ww hS
                  try dsimp only at hS
                  go_simp
                  try with_reducible rfl
                  try omega
                try simp only [Act.put, List.setIfInBounds_toArray, List.set_cons_zero, List.set_cons_succ]
                refine wpAnyH_take (i := 9) (oi := ⟨some 91, _, _, _, _, _⟩) (v := .agg (opv h5 s5)) rfl (by kernel_rfl) (by kernel_rfl) (by kernel_rfl) (fun _ _ _ h => h) (Or.inl ⟨by rfl, ?_⟩) hHeld ?_
                · intro ww hS
                  try dsimp only at hS
                  go_simp
                  try with_reducible rfl
                  try omega
                try simp only [Act.put, List.setIfInBounds_toArray, List.set_cons_zero, List.set_cons_succ]
                refine wpAnyH_take (i := 10) (oi := ⟨some 92, _, _, _, _, _⟩) (v := .bool true) rfl (by kernel_rfl) (by kernel_rfl) (by kernel_rfl) (fun _ _ _ h => h) (Or.inl ⟨by rfl, ?_⟩) hHeld ?_
                · intro ww hS
                  try dsimp only at hS
                  go_simp
                  try with_reducible rfl
                  try omega
                try simp only [Act.put, List.setIfInBounds_toArray, List.set_cons_zero, List.set_cons_succ]
                refine wpAnyH_ready (rs := [11]) (by kernel_rfl) (by simp) ?_
                refine AllReadyH.cons (o := ⟨some 15, _, _, _, _, _⟩) rfl (fun K0 hK => ?_) AllReadyH.nil
                go_simp
                refine hK.out _ _ ((L.other _).less 3) (fun hHeld' => ?_)
                clear hHeld hK K0
                have hHeld := hHeld'
                clear hHeld'
                replace L := L.alloc #[.int .i64 0, .int .u32 0, .slice none 0 0, .int .i64 0, .int .u32 0, .bool false, .slice none 0 0, .slice none 0 0, .int .i64 0, .int .i64 0, .int .i64 0, .int .i64 0, .int .i64 0, .int .u64 0, .bool false, .slice none 0 0, .int .i64 0, .int .i64 0, .int .i64 0, .int .i64 0] 44
                replace L := L.is 0 (opv hd0 sc0) rfl
                try dsimp only [nput] at L
                generalize w11.alloc (.cells #[.int .i64 0, .int .u32 0, .slice none 0 0, .int .i64 0, .int .u32 0, .bool false, .slice none 0 0, .slice none 0 0, .int .i64 0, .int .i64 0, .int .i64 0, .int .i64 0, .int .i64 0, .int .u64 0, .bool false, .slice none 0 0, .int .i64 0, .int .i64 0, .int .i64 0, .int .i64 0] 44) = v12 at hHeld L ⊢
                generalize w11.heap.size = gS at L ⊢
                try simp only [Act.put, List.setIfInBounds_toArray, List.set_cons_zero, List.set_cons_succ]
                refine wpAnyH_take (i := 12) (oi := ⟨some 14, _, _, _, _, _⟩) (v := .slice B5 m d5) rfl (by kernel_rfl) (by kernel_rfl) (by kernel_rfl) (fun _ _ _ h => h) (Or.inl ⟨by rfl, ?_⟩) hHeld ?_
                · intro ww hS
                  try dsimp only at hS
                  go_simp
                  try with_reducible rfl
                  try omega
                try simp only [Act.put, List.setIfInBounds_toArray, List.set_cons_zero, List.set_cons_succ]
                refine wpAnyH_ready (rs := [13]) (by kernel_rfl) (by simp) ?_
                refine AllReadyH.cons (o := ⟨none, _, _, _, _, _⟩) rfl (fun K0 hK => ?_) AllReadyH.nil
                rw [if_pos (by rfl)]
                refine wp_store_row 44 (.tmp 15) (.tmp 91) rfl gS _ rfl rfl _ _ (L.bk_ 0 rfl) op_sz rfl (opv_one _ _) ?_
                replace L := L.row 0 rfl (opv h5 s5)
                try dsimp only [nput] at L
                refine hK.out _ _ ((L.less 3).del 0) (fun hHeld' => ?_)
                clear hHeld hK K0
                have hHeld := hHeld'
                clear hHeld'
                generalize v12.setRow gS (opv h5 s5) = v13 at hHeld L ⊢
                try simp only [Act.put]
                refine wpAnyH_take (i := 14) (oi := ⟨some 16, _, _, _, _, _⟩) (v := .bool true) rfl (by kernel_rfl) (by kernel_rfl) (by kernel_rfl) (fun _ _ _ h => h) (Or.inl ⟨by rfl, ?_⟩) hHeld ?_
                · intro ww hS
                  try dsimp only at hS
                  go_simp
                  try with_reducible rfl
                  try omega
                try simp only [Act.put, List.setIfInBounds_toArray, List.set_cons_zero, List.set_cons_succ]
                refine wpAnyH_done (by kernel_rfl) ?_ _
                clear hHeld
                go_wp2
                replace L := L.only (fs' := [uF B2 m d2 y2]) (by simp)
                go_meet
                exact ⟨_, _, _, _, rfl, rfl, rfl, L⟩
              · go_simp
                refine hK.out _ _ ((L.other _).less 1) (fun hHeld' => ?_)
                clear hHeld hK K0
                have hHeld := hHeld'
                clear hHeld'
                replace L := L.alloc #[.int .i64 0, .int .u32 0, .slice none 0 0, .int .i64 0, .int .u32 0, .bool false, .slice none 0 0, .slice none 0 0, .int .i64 0, .int .i64 0, .int .i64 0, .int .i64 0, .int .i64 0, .int .u64 0, .bool false, .slice none 0 0, .int .i64 0, .int .i64 0, .int .i64 0, .int .i64 0] 44
                replace L := L.is 0 (opv hd0 sc0) rfl
                try dsimp only [nput] at L
                generalize w10.alloc (.cells #[.int .i64 0, .int .u32 0, .slice none 0 0, .int .i64 0, .int .u32 0, .bool false, .slice none 0 0, .slice none 0 0, .int .i64 0, .int .i64 0, .int .i64 0, .int .i64 0, .int .i64 0, .int .u64 0, .bool false, .slice none 0 0, .int .i64 0, .int .i64 0, .int .i64 0, .int .i64 0] 44) = v11 at hHeld L ⊢
                generalize w10.heap.size = gS at L ⊢
                try simp only [Act.put, List.setIfInBounds_toArray, List.set_cons_zero, List.set_cons_succ]
                refine wpAnyH_ready (rs := [6]) (by kernel_rfl) (by simp) ?_
                refine AllReadyH.cons (o := ⟨some 89, _, _, _, _, _⟩) rfl (fun K0 hK => ?_) AllReadyH.nil
                go_simp
                refine ((TK _ _ _ _ _ (L.us_ 2 rfl) (L.of_ 0 rfl)).out).mono ?_
                rintro e w12 ⟨h5, B5, d5, rfl, U, L', hA, K'⟩
                have Lb := L.lts
                replace L := L.over K'
                replace L := L.us_av (fun i b e => hA b.1 (Lb i b e) (L.ap_ 2 rfl hm6.2.1 i b e)) U
                replace L := L.of_new Lb L'
                clear Lb
                try dsimp only [lF, List.cons_append, List.nil_append] at L
                clear U L' hA
                refine hK.out _ _ ((L.less 3).del 0) (fun hHeld' => ?_)
                clear hHeld hK K0
                have hHeld := hHeld'
                clear hHeld'
                clear K'
                try simp only [Act.put, List.setIfInBounds_toArray, List.set_cons_zero, List.set_cons_succ]
                refine wpAnyH_take (i := 7) (oi := ⟨some 82, _, _, _, _, _⟩) (v := ?_) rfl (by kernel_rfl) (by kernel_rfl) (by kernel_rfl) (fun _ _ _ h => h) (Or.inl ⟨by rfl, ?_⟩) hHeld ?_
                rotate_left
                · intro ww hS
                  try dsimp only at hS
                  go_simp
                  try with_reducible rfl
                  try omega
                try simp only [Act.put, List.setIfInBounds_toArray, List.set_cons_zero, List.set_cons_succ]
                refine wpAnyH_take (i := 8) (oi := ⟨some 90, _, _, _, _, _⟩) (v := .slice B5 m d5) rfl (by kernel_rfl) (by kernel_rfl) (by kernel_rfl) (fun _ _ _ h => h) (Or.inl ⟨by rfl, ?_⟩) hHeld ?_
                · intro ww hS
                  try dsimp only at hS
                  go_simp
                  try with_reducible rfl
                  try omega
                try simp only [Act.put, List.setIfInBounds_toArray, List.set_cons_zero, List.set_cons_succ]
                refine wpAnyH_take (i := 9) (oi := ⟨some 91, _, _, _, _, _⟩) (v := .agg (opv h5 s5)) rfl (by kernel_rfl) (by kernel_rfl) (by kernel_rfl) (fun _ _ _ h => h) (Or.inl ⟨by rfl, ?_⟩) hHeld ?_
                · intro ww hS
                  try dsimp only at hS
                  go_simp
                  try with_reducible rfl
                  try omega
                try simp only [Act.put, List.setIfInBounds_toArray, List.set_cons_zero, List.set_cons_succ]
                refine wpAnyH_take (i := 10) (oi := ⟨some 92, _, _, _, _, _⟩) (v := .bool true) rfl (by kernel_rfl) (by kernel_rfl) (by kernel_rfl) (fun _ _ _ h => h) (Or.inl ⟨by rfl, ?_⟩) hHeld ?_
                · intro ww hS
                  try dsimp only at hS
                  go_simp
                  try with_reducible rfl
                  try omega
                try simp only [Act.put, List.setIfInBounds_toArray, List.set_cons_zero, List.set_cons_succ]
                refine wpAnyH_take (i := 12) (oi := ⟨some 14, _, _, _, _, _⟩) (v := .slice B5 m d5) rfl (by kernel_rfl) (by kernel_rfl) (by kernel_rfl) (fun _ _ _ h => h) (Or.inl ⟨by rfl, ?_⟩) hHeld ?_
                · intro ww hS
                  try dsimp only at hS
                  go_simp
                  try with_reducible rfl
                  try omega
                try simp only [Act.put, List.setIfInBounds_toArray, List.set_cons_zero, List.set_cons_succ]
                refine wpAnyH_ready (rs := [13]) (by kernel_rfl) (by simp) ?_
                refine AllReadyH.cons (o := ⟨none, _, _, _, _, _⟩) rfl (fun K0 hK => ?_) AllReadyH.nil
                rw [if_pos (by rfl)]
                refine wp_store_row 44 (.tmp 15) (.tmp 91) rfl gS _ rfl rfl _ _ (L.bk_ 0 rfl) op_sz rfl (opv_one _ _) ?_
                replace L := L.row 0 rfl (opv h5 s5)
                try dsimp only [nput] at L
                refine hK.out _ _ ((L.less 3).del 0) (fun hHeld' => ?_)
                clear hHeld hK K0
                have hHeld := hHeld'
                clear hHeld'
                generalize w12.setRow gS (opv h5 s5) = v13 at hHeld L ⊢
                try simp only [Act.put]
                refine wpAnyH_take (i := 14) (oi := ⟨some 16, _, _, _, _, _⟩) (v := .bool true) rfl (by kernel_rfl) (by kernel_rfl) (by kernel_rfl) (fun _ _ _ h => h) (Or.inl ⟨by rfl, ?_⟩) hHeld ?_
                · intro ww hS
                  try dsimp only at hS
                  go_simp
                  try with_reducible rfl
                  try omega
                try simp only [Act.put, List.setIfInBounds_toArray, List.set_cons_zero, List.set_cons_succ]
                refine wpAnyH_done (by kernel_rfl) ?_ _
                clear hHeld
                go_wp2
                replace L := L.only (fs' := [uF B2 m d2 y2]) (by simp)
                go_meet
                exact ⟨_, _, _, _, rfl, rfl, rfl, L⟩
            · go_simp
              refine hK.out _ _ (L.other _) (fun hHeld' => ?_)
              clear hHeld hK K0
              have hHeld := hHeld'
              clear hHeld'
              replace L := L.alloc #[.int .i64 0, .int .u32 0, .slice none 0 0, .int .i64 0, .int .u32 0, .bool false, .slice none 0 0, .slice none 0 0, .int .i64 0, .int .i64 0, .int .i64 0, .int .i64 0, .int .i64 0, .int .u64 0, .bool false, .slice none 0 0, .int .i64 0, .int .i64 0, .int .i64 0, .int .i64 0] 44
              replace L := L.is 0 (opv hd0 sc0) rfl
              try dsimp only [nput] at L
              generalize v9.alloc (.cells #[.int .i64 0, .int .u32 0, .slice none 0 0, .int .i64 0, .int .u32 0, .bool false, .slice none 0 0, .slice none 0 0, .int .i64 0, .int .i64 0, .int .i64 0, .int .i64 0, .int .i64 0, .int .u64 0, .bool false, .slice none 0 0, .int .i64 0, .int .i64 0, .int .i64 0, .int .i64 0] 44) = v10 at hHeld L ⊢
              generalize v9.heap.size = gS at L ⊢
              try simp only [Act.put, List.setIfInBounds_toArray, List.set_cons_zero, List.set_cons_succ]
              refine wpAnyH_ready (rs := [5]) (by kernel_rfl) (by simp) ?_
              refine AllReadyH.cons (o := ⟨some 88, _, _, _, _, _⟩) rfl (fun K0 hK => ?_) AllReadyH.nil
              go_simp
              refine ((TBQ _).out).mono ?_
              rintro e w11 ⟨h6, rfl, L', hSA, K'⟩
              have Lb := L.lts
              replace L := L.over K'
              replace L := L.of_ap L' (fun i b e => hSA b.1 (Lb i b e) (hH0.hap L i b e))
              clear Lb
              try dsimp only [lF, List.cons_append, List.nil_append] at L
              clear L' hSA
              refine hK.out _ _ ((L.less 1).del 0) (fun hHeld' => ?_)
              clear hHeld hK K0
              have hHeld := hHeld'
              clear hHeld'
              clear K'
              try simp only [Act.put, List.setIfInBounds_toArray, List.set_cons_zero, List.set_cons_succ]
              refine wpAnyH_ready (rs := [6]) (by kernel_rfl) (by simp) ?_
              refine AllReadyH.cons (o := ⟨some 89, _, _, _, _, _⟩) rfl (fun K0 hK => ?_) AllReadyH.nil
              go_simp
              refine ((TK _ _ _ _ _ (L.us_ 2 rfl) (L.of_ 0 rfl)).out).mono ?_
              rintro e w12 ⟨h5, B5, d5, rfl, U, L', hA, K'⟩
              have Lb := L.lts
              replace L := L.over K'
              replace L := L.us_av (fun i b e => hA b.1 (Lb i b e) (L.ap_ 2 rfl hm6.2.1 i b e)) U
              replace L := L.of_new Lb L'
              clear Lb
              try dsimp only [lF, List.cons_append, List.nil_append] at L
              clear U L' hA
              refine hK.out _ _ ((L.less 3).del 0) (fun hHeld' => ?_)
              clear hHeld hK K0
              have hHeld := hHeld'
              clear hHeld'
              clear K'
              try simp only [Act.put, List.setIfInBounds_toArray, List.set_cons_zero, List.set_cons_succ]
              refine wpAnyH_take (i := 7) (oi := ⟨some 82, _, _, _, _, _⟩) (v := ?_) rfl (by kernel_rfl) (by kernel_rfl) (by kernel_rfl) (fun _ _ _ h => h) (Or.inl ⟨by rfl, ?_⟩) hHeld ?_
              rotate_left
              · intro ww hS
                try dsimp only at hS
                go_simp
                try with_reducible rfl
                try omega
              try simp only [Act.put, List.setIfInBounds_toArray, List.set_cons_zero, List.set_cons_succ]
              refine wpAnyH_take (i := 8) (oi := ⟨some 90, _, _, _, _, _⟩) (v := .slice B5 m d5) rfl (by kernel_rfl) (by kernel_rfl) (by kernel_rfl) (fun _ _ _ h => h) (Or.inl ⟨by rfl, ?_⟩) hHeld ?_
              · intro ww hS
                try dsimp only at hS
                go_simp
                try with_reducible rfl
                try omega
              try simp only [Act.put, List.setIfInBounds_toArray, List.set_cons_zero, List.set_cons_succ]
              refine wpAnyH_take (i := 9) (oi := ⟨some 91, _, _, _, _, _⟩) (v := .agg (opv h5 s5)) rfl (by kernel_rfl) (by kernel_rfl) (by kernel_rfl) (fun _ _ _ h => h) (Or.inl ⟨by rfl, ?_⟩) hHeld ?_
              · intro ww hS
                try dsimp only at hS
                go_simp
                try with_reducible rfl
                try omega
              try simp only [Act.put, List.setIfInBounds_toArray, List.set_cons_zero, List.set_cons_succ]
              refine wpAnyH_take (i := 10) (oi := ⟨some 92, _, _, _, _, _⟩) (v := .bool true) rfl (by kernel_rfl) (by kernel_rfl) (by kernel_rfl) (fun _ _ _ h => h) (Or.inl ⟨by rfl, ?_⟩) hHeld ?_
              · intro ww hS
                try dsimp only at hS
                go_simp
                try with_reducible rfl
                try omega
              try simp only [Act.put, List.setIfInBounds_toArray, List.set_cons_zero, List.set_cons_succ]
              refine wpAnyH_take (i := 12) (oi := ⟨some 14, _, _, _, _, _⟩) (v := .slice B5 m d5) rfl (by kernel_rfl) (by kernel_rfl) (by kernel_rfl) (fun _ _ _ h => h) (Or.inl ⟨by rfl, ?_⟩) hHeld ?_
              · intro ww hS
                try dsimp only at hS
                go_simp
                try with_reducible rfl
                try omega
              try simp only [Act.put, List.setIfInBounds_toArray, List.set_cons_zero, List.set_cons_succ]
              refine wpAnyH_ready (rs := [13]) (by kernel_rfl) (by simp) ?_
              refine AllReadyH.cons (o := ⟨none, _, _, _, _, _⟩) rfl (fun K0 hK => ?_) AllReadyH.nil
              rw [if_pos (by rfl)]
              refine wp_store_row 44 (.tmp 15) (.tmp 91) rfl gS _ rfl rfl _ _ (L.bk_ 0 rfl) op_sz rfl (opv_one _ _) ?_
              replace L := L.row 0 rfl (opv h5 s5)
              try dsimp only [nput] at L
              refine hK.out _ _ ((L.less 3).del 0) (fun hHeld' => ?_)
              clear hHeld hK K0
              have hHeld := hHeld'
              clear hHeld'
              generalize w12.setRow gS (opv h5 s5) = v13 at hHeld L ⊢
              try simp only [Act.put]
              refine wpAnyH_take (i := 14) (oi := ⟨some 16, _, _, _, _, _⟩) (v := .bool true) rfl (by kernel_rfl) (by kernel_rfl) (by kernel_rfl) (fun _ _ _ h => h) (Or.inl ⟨by rfl, ?_⟩) hHeld ?_
              · intro ww hS
                try dsimp only at hS
                go_simp
                try with_reducible rfl
                try omega
              try simp only [Act.put, List.setIfInBounds_toArray, List.set_cons_zero, List.set_cons_succ]
              refine wpAnyH_done (by kernel_rfl) ?_ _
              clear hHeld
              go_wp2
              replace L := L.only (fs' := [uF B2 m d2 y2]) (by simp)
              go_meet
              exact ⟨_, _, _, _, rfl, rfl, rfl, L⟩
          case rest =>
            clear L
            obtain ⟨gS, h5, B5, d5, rfl, rfl, rfl, L⟩ := hcut
            go_upto_region 16 with (fail)
            try simp only [Act.put, List.setIfInBounds_toArray, List.set_cons_zero, List.set_cons_succ]
            go_cut [17, 18, 19] from 93 to 103 (fun q0 q1 q2 wx => ∃ (gT : Nat) (h7 : Hd) (B7 : Option Addr) (d7 : Nat), q0 = Value.slice B7 m d7 ∧ q1 = Value.pointer (some ⟨gT, 0, none⟩) ∧ q2 = Value.bool true ∧ Loc w wx [(gT, 44, opv h7 s7), (gS, 44, opv h5 s5), (gO, 44, opv h s), (gH, 27, #[.int .u32 (a : Int), .int .i64 p, .slice A n c, .int .i64 (ns : Int), .int .i64 wo, .int .i64 qu, .int .i64 tr])] [uF B2 m d2 y2])
            case first =>
              replace L := L.drew
              refine wp_region_held_drew (S := fun w' => Loc w w' [(gS, 44, opv h5 s5), (gO, 44, opv h s), (gH, 27, #[.int .u32 (a : Int), .int .i64 p, .slice A n c, .int .i64 (ns : Int), .int .i64 wo, .int .i64 qu, .int .i64 tr])] [uF B2 m d2 y2]) (by kernel_rfl) L (fun hHeld => ?_)
              generalize wc.drew = v14 at hHeld L ⊢
              refine wpAnyH_take (i := 0) (oi := ⟨some 94, _, _, _, _, _⟩) (v := .agg (#[.int .u32 (a : Int), .int .i64 p, .slice A n c, .int .i64 (ns : Int), .int .i64 wo, .int .i64 qu, .int .i64 tr])) rfl (by kernel_rfl) (by kernel_rfl) (by kernel_rfl) (fun _ _ _ h => h) (yieldsIf_load_row (by rfl) 27 (.tmp 3) rfl gH rfl 27 _ (0, 0) _ (fun _ hS => ((hS).bk_ 2 rfl)) Try.underlying27 rfl cf_sz) hHeld ?_
              try simp only [Act.put, List.setIfInBounds_toArray, List.set_cons_zero, List.set_cons_succ]
              refine wpAnyH_take (i := 1) (oi := ⟨some 95, _, _, _, _, _⟩) (v := .slice B2 m d2) rfl (by kernel_rfl) (by kernel_rfl) (by kernel_rfl) (fun _ _ _ h => h) (Or.inl ⟨by rfl, ?_⟩) hHeld ?_
              · intro ww hS
                try dsimp only at hS
                go_simp
                try with_reducible rfl
                try omega
              try simp only [Act.put, List.setIfInBounds_toArray, List.set_cons_zero, List.set_cons_succ]
              refine wpAnyH_take (i := 2) (oi := ⟨some 96, _, _, _, _, _⟩) (v := .agg (#[.int .u32 (a : Int), .int .i64 p, .slice A n c, .int .i64 (ns : Int), .int .i64 wo, .int .i64 qu, .int .i64 tr])) rfl (by kernel_rfl) (by kernel_rfl) (by kernel_rfl) (fun _ _ _ h => h) (yieldsIf_load_row (by rfl) 27 (.tmp 3) rfl gH rfl 27 _ (0, 0) _ (fun _ hS => ((hS).bk_ 2 rfl)) Try.underlying27 rfl cf_sz) hHeld ?_
              try simp only [Act.put, List.setIfInBounds_toArray, List.set_cons_zero, List.set_cons_succ]
              refine wpAnyH_take (i := 3) (oi := ⟨some 97, _, _, _, _, _⟩) (v := .int .u32 (X : Int)) rfl (by kernel_rfl) (by kernel_rfl) (by kernel_rfl) (fun _ _ _ h => h) (Or.inl ⟨by rfl, ?_⟩) hHeld ?_
              · intro ww hS
                try dsimp only at hS
                go_simp
                try with_reducible rfl
                try omega
              try simp only [Act.put, List.setIfInBounds_toArray, List.set_cons_zero, List.set_cons_succ]
              refine wpAnyH_take (i := 4) (oi := ⟨some 98, _, _, _, _, _⟩) (v := ?_) rfl (by kernel_rfl) (by kernel_rfl) (by kernel_rfl) (fun _ _ _ h => h) (Or.inl ⟨by rfl, ?_⟩) hHeld ?_
              rotate_left
              · intro ww hS
                try dsimp only at hS
                go_simp
                try with_reducible rfl
                try omega
              try simp only [Act.put, List.setIfInBounds_toArray, List.set_cons_zero, List.set_cons_succ]
              refine wpAnyH_ready (rs := [5, 11]) (by kernel_rfl) (by simp) ?_
              refine (AllReadyH.cons (o := ⟨some 99, _, _, _, _, _⟩) rfl (fun K0 hK => ?_) (AllReadyH.cons (o := ⟨some 18, _, _, _, _, _⟩) rfl (fun K0 hK => ?_) AllReadyH.nil))
              · go_simp
                refine ((TB _).out).mono ?_
                rintro e w15 ⟨h6, rfl, L', hSA, K'⟩
                have Lb := L.lts
                replace L := L.over K'
                replace L := L.of_ap L' (fun i b e => hSA b.1 (Lb i b e) (hH0.hap L i b e))
                clear Lb
                try dsimp only [lF, List.cons_append, List.nil_append] at L
                clear L' hSA
                refine hK.out _ _ (L.less 1) (fun hHeld' => ?_)
                clear hHeld hK K0
                have hHeld := hHeld'
                clear hHeld'
                clear K'
                try simp only [Act.put, List.setIfInBounds_toArray, List.set_cons_zero, List.set_cons_succ]
                refine wpAnyH_ready (rs := [6, 11]) (by kernel_rfl) (by simp) ?_
                refine (AllReadyH.cons (o := ⟨some 100, _, _, _, _, _⟩) rfl (fun K0 hK => ?_) (AllReadyH.cons (o := ⟨some 18, _, _, _, _, _⟩) rfl (fun K0 hK => ?_) AllReadyH.nil))
                · go_simp
                  refine ((TR _ _ _ _ _ (L.us_ 1 rfl) (L.of_ 0 rfl)).out).mono ?_
                  rintro e w16 ⟨h7, B7, d7, rfl, U, L', hA, K'⟩
                  have Lb := L.lts
                  replace L := L.over K'
                  replace L := L.us_av (fun i b e => hA b.1 (Lb i b e) (L.ap_ 1 rfl hm6.2.1 i b e)) U
                  replace L := L.of_new Lb L'
                  clear Lb
                  try dsimp only [lF, List.cons_append, List.nil_append] at L
                  clear U L' hA
                  refine hK.out _ _ (L.less 3) (fun hHeld' => ?_)
                  clear hHeld hK K0
                  have hHeld := hHeld'
                  clear hHeld'
                  clear K'
                  try simp only [Act.put, List.setIfInBounds_toArray, List.set_cons_zero, List.set_cons_succ]
                  refine wpAnyH_take (i := 7) (oi := ⟨some 93, _, _, _, _, _⟩) (v := ?_) rfl (by kernel_rfl) (by kernel_rfl) (by kernel_rfl) (fun _ _ _ h => h) (Or.inl ⟨by rfl, ?_⟩) hHeld ?_
                  rotate_left
                  · intro ww hS
                    try dsimp only at hS
                    go_simp
                    try with_reducible rfl
                    try omega
                  try simp only [Act.put, List.setIfInBounds_toArray, List.set_cons_zero, List.set_cons_succ]
                  refine wpAnyH_take (i := 8) (oi := ⟨some 101, _, _, _, _, _⟩) (v := .slice B7 m d7) rfl (by kernel_rfl) (by kernel_rfl) (by kernel_rfl) (fun _ _ _ h => h) (Or.inl ⟨by rfl, ?_⟩) hHeld ?_
                  · intro ww hS
                    try dsimp only at hS
                    go_simp
                    try with_reducible rfl
                    try omega
                  try simp only [Act.put, List.setIfInBounds_toArray, List.set_cons_zero, List.set_cons_succ]
                  refine wpAnyH_take (i := 9) (oi := ⟨some 102, _, _, _, _, _⟩) (v := .agg (opv h7 s7)) rfl (by kernel_rfl) (by kernel_rfl) (by kernel_rfl) (fun _ _ _ h => h) (Or.inl ⟨by rfl, ?_⟩) hHeld ?_
                  · intro ww hS
                    try dsimp only at hS
                    go_simp
                    try with_reducible rfl
                    try omega
                  try simp only [Act.put, List.setIfInBounds_toArray, List.set_cons_zero, List.set_cons_succ]
                  refine wpAnyH_take (i := 10) (oi := ⟨some 103, _, _, _, _, _⟩) (v := .bool true) rfl (by kernel_rfl) (by kernel_rfl) (by kernel_rfl) (fun _ _ _ h => h) (Or.inl ⟨by rfl, ?_⟩) hHeld ?_
                  · intro ww hS
                    try dsimp only at hS
                    go_simp
                    try with_reducible rfl
                    try omega
                  try simp only [Act.put, List.setIfInBounds_toArray, List.set_cons_zero, List.set_cons_succ]
                  refine wpAnyH_ready (rs := [11]) (by kernel_rfl) (by simp) ?_
                  refine AllReadyH.cons (o := ⟨some 18, _, _, _, _, _⟩) rfl (fun K0 hK => ?_) AllReadyH.nil
                  go_simp
                  refine hK.out _ _ ((L.other _).less 3) (fun hHeld' => ?_)
                  clear hHeld hK K0
                  have hHeld := hHeld'
                  clear hHeld'
                  replace L := L.alloc #[.int .i64 0, .int .u32 0, .slice none 0 0, .int .i64 0, .int .u32 0, .bool false, .slice none 0 0, .slice none 0 0, .int .i64 0, .int .i64 0, .int .i64 0, .int .i64 0, .int .i64 0, .int .u64 0, .bool false, .slice none 0 0, .int .i64 0, .int .i64 0, .int .i64 0, .int .i64 0] 44
                  replace L := L.is 0 (opv hd0 sc0) rfl
                  try dsimp only [nput] at L
                  generalize w16.alloc (.cells #[.int .i64 0, .int .u32 0, .slice none 0 0, .int .i64 0, .int .u32 0, .bool false, .slice none 0 0, .slice none 0 0, .int .i64 0, .int .i64 0, .int .i64 0, .int .i64 0, .int .i64 0, .int .u64 0, .bool false, .slice none 0 0, .int .i64 0, .int .i64 0, .int .i64 0, .int .i64 0] 44) = v17 at hHeld L ⊢
                  generalize w16.heap.size = gT at L ⊢
                  try simp only [Act.put, List.setIfInBounds_toArray, List.set_cons_zero, List.set_cons_succ]
                  refine wpAnyH_take (i := 12) (oi := ⟨some 17, _, _, _, _, _⟩) (v := .slice B7 m d7) rfl (by kernel_rfl) (by kernel_rfl) (by kernel_rfl) (fun _ _ _ h => h) (Or.inl ⟨by rfl, ?_⟩) hHeld ?_
                  · intro ww hS
                    try dsimp only at hS
                    go_simp
                    try with_reducible rfl
                    try omega
                  try simp only [Act.put, List.setIfInBounds_toArray, List.set_cons_zero, List.set_cons_succ]
                  refine wpAnyH_ready (rs := [13]) (by kernel_rfl) (by simp) ?_
                  refine AllReadyH.cons (o := ⟨none, _, _, _, _, _⟩) rfl (fun K0 hK => ?_) AllReadyH.nil
                  rw [if_pos (by rfl)]
                  refine wp_store_row 44 (.tmp 18) (.tmp 102) rfl gT _ rfl rfl _ _ (L.bk_ 0 rfl) op_sz rfl (opv_one _ _) ?_
                  replace L := L.row 0 rfl (opv h7 s7)
                  try dsimp only [nput] at L
                  refine hK.out _ _ ((L.less 3).del 0) (fun hHeld' => ?_)
                  clear hHeld hK K0
                  have hHeld := hHeld'
                  clear hHeld'
                  generalize v17.setRow gT (opv h7 s7) = v18 at hHeld L ⊢
                  try simp only [Act.put]
                  refine wpAnyH_take (i := 14) (oi := ⟨some 19, _, _, _, _, _⟩) (v := .bool true) rfl (by kernel_rfl) (by kernel_rfl) (by kernel_rfl) (fun _ _ _ h => h) (Or.inl ⟨by rfl, ?_⟩) hHeld ?_
                  · intro ww hS
                    try dsimp only at hS
                    go_simp
                    try with_reducible rfl
                    try omega
                  try simp only [Act.put, List.setIfInBounds_toArray, List.set_cons_zero, List.set_cons_succ]
                  refine wpAnyH_done (by kernel_rfl) ?_ _
                  clear hHeld
                  go_wp2
                  replace L := L.only (fs' := [uF B2 m d2 y2]) (by simp)
                  go_meet
                  exact ⟨_, _, _, _, rfl, rfl, rfl, L⟩
                · go_simp
                  refine hK.out _ _ ((L.other _).less 1) (fun hHeld' => ?_)
                  clear hHeld hK K0
                  have hHeld := hHeld'
                  clear hHeld'
                  replace L := L.alloc #[.int .i64 0, .int .u32 0, .slice none 0 0, .int .i64 0, .int .u32 0, .bool false, .slice none 0 0, .slice none 0 0, .int .i64 0, .int .i64 0, .int .i64 0, .int .i64 0, .int .i64 0, .int .u64 0, .bool false, .slice none 0 0, .int .i64 0, .int .i64 0, .int .i64 0, .int .i64 0] 44
                  replace L := L.is 0 (opv hd0 sc0) rfl
                  try dsimp only [nput] at L
                  generalize w15.alloc (.cells #[.int .i64 0, .int .u32 0, .slice none 0 0, .int .i64 0, .int .u32 0, .bool false, .slice none 0 0, .slice none 0 0, .int .i64 0, .int .i64 0, .int .i64 0, .int .i64 0, .int .i64 0, .int .u64 0, .bool false, .slice none 0 0, .int .i64 0, .int .i64 0, .int .i64 0, .int .i64 0] 44) = v16 at hHeld L ⊢
                  generalize w15.heap.size = gT at L ⊢
                  try simp only [Act.put, List.setIfInBounds_toArray, List.set_cons_zero, List.set_cons_succ]
                  refine wpAnyH_ready (rs := [6]) (by kernel_rfl) (by simp) ?_
                  refine AllReadyH.cons (o := ⟨some 100, _, _, _, _, _⟩) rfl (fun K0 hK => ?_) AllReadyH.nil
                  go_simp
                  refine ((TR _ _ _ _ _ (L.us_ 1 rfl) (L.of_ 0 rfl)).out).mono ?_
                  rintro e w17 ⟨h7, B7, d7, rfl, U, L', hA, K'⟩
                  have Lb := L.lts
                  replace L := L.over K'
                  replace L := L.us_av (fun i b e => hA b.1 (Lb i b e) (L.ap_ 1 rfl hm6.2.1 i b e)) U
                  replace L := L.of_new Lb L'
                  clear Lb
                  try dsimp only [lF, List.cons_append, List.nil_append] at L
                  clear U L' hA
                  refine hK.out _ _ ((L.less 3).del 0) (fun hHeld' => ?_)
                  clear hHeld hK K0
                  have hHeld := hHeld'
                  clear hHeld'
                  clear K'
                  try simp only [Act.put, List.setIfInBounds_toArray, List.set_cons_zero, List.set_cons_succ]
                  refine wpAnyH_take (i := 7) (oi := ⟨some 93, _, _, _, _, _⟩) (v := ?_) rfl (by kernel_rfl) (by kernel_rfl) (by kernel_rfl) (fun _ _ _ h => h) (Or.inl ⟨by rfl, ?_⟩) hHeld ?_
                  rotate_left
                  · intro ww hS
                    try dsimp only at hS
                    go_simp
                    try with_reducible rfl
                    try omega
                  try simp only [Act.put, List.setIfInBounds_toArray, List.set_cons_zero, List.set_cons_succ]
                  refine wpAnyH_take (i := 8) (oi := ⟨some 101, _, _, _, _, _⟩) (v := .slice B7 m d7) rfl (by kernel_rfl) (by kernel_rfl) (by kernel_rfl) (fun _ _ _ h => h) (Or.inl ⟨by rfl, ?_⟩) hHeld ?_
                  · intro ww hS
                    try dsimp only at hS
                    go_simp
                    try with_reducible rfl
                    try omega
                  try simp only [Act.put, List.setIfInBounds_toArray, List.set_cons_zero, List.set_cons_succ]
                  refine wpAnyH_take (i := 9) (oi := ⟨some 102, _, _, _, _, _⟩) (v := .agg (opv h7 s7)) rfl (by kernel_rfl) (by kernel_rfl) (by kernel_rfl) (fun _ _ _ h => h) (Or.inl ⟨by rfl, ?_⟩) hHeld ?_
                  · intro ww hS
                    try dsimp only at hS
                    go_simp
                    try with_reducible rfl
                    try omega
                  try simp only [Act.put, List.setIfInBounds_toArray, List.set_cons_zero, List.set_cons_succ]
                  refine wpAnyH_take (i := 10) (oi := ⟨some 103, _, _, _, _, _⟩) (v := .bool true) rfl (by kernel_rfl) (by kernel_rfl) (by kernel_rfl) (fun _ _ _ h => h) (Or.inl ⟨by rfl, ?_⟩) hHeld ?_
                  · intro ww hS
                    try dsimp only at hS
                    go_simp
                    try with_reducible rfl
                    try omega
                  try simp only [Act.put, List.setIfInBounds_toArray, List.set_cons_zero, List.set_cons_succ]
                  refine wpAnyH_take (i := 12) (oi := ⟨some 17, _, _, _, _, _⟩) (v := .slice B7 m d7) rfl (by kernel_rfl) (by kernel_rfl) (by kernel_rfl) (fun _ _ _ h => h) (Or.inl ⟨by rfl, ?_⟩) hHeld ?_
                  · intro ww hS
                    try dsimp only at hS
                    go_simp
                    try with_reducible rfl
                    try omega
                  try simp only [Act.put, List.setIfInBounds_toArray, List.set_cons_zero, List.set_cons_succ]
                  refine wpAnyH_ready (rs := [13]) (by kernel_rfl) (by simp) ?_
                  refine AllReadyH.cons (o := ⟨none, _, _, _, _, _⟩) rfl (fun K0 hK => ?_) AllReadyH.nil
                  rw [if_pos (by rfl)]
                  refine wp_store_row 44 (.tmp 18) (.tmp 102) rfl gT _ rfl rfl _ _ (L.bk_ 0 rfl) op_sz rfl (opv_one _ _) ?_
                  replace L := L.row 0 rfl (opv h7 s7)
                  try dsimp only [nput] at L
                  refine hK.out _ _ ((L.less 3).del 0) (fun hHeld' => ?_)
                  clear hHeld hK K0
                  have hHeld := hHeld'
                  clear hHeld'
                  generalize w17.setRow gT (opv h7 s7) = v18 at hHeld L ⊢
                  try simp only [Act.put]
                  refine wpAnyH_take (i := 14) (oi := ⟨some 19, _, _, _, _, _⟩) (v := .bool true) rfl (by kernel_rfl) (by kernel_rfl) (by kernel_rfl) (fun _ _ _ h => h) (Or.inl ⟨by rfl, ?_⟩) hHeld ?_
                  · intro ww hS
                    try dsimp only at hS
                    go_simp
                    try with_reducible rfl
                    try omega
                  try simp only [Act.put, List.setIfInBounds_toArray, List.set_cons_zero, List.set_cons_succ]
                  refine wpAnyH_done (by kernel_rfl) ?_ _
                  clear hHeld
                  go_wp2
                  replace L := L.only (fs' := [uF B2 m d2 y2]) (by simp)
                  go_meet
                  exact ⟨_, _, _, _, rfl, rfl, rfl, L⟩
              · go_simp
                refine hK.out _ _ (L.other _) (fun hHeld' => ?_)
                clear hHeld hK K0
                have hHeld := hHeld'
                clear hHeld'
                replace L := L.alloc #[.int .i64 0, .int .u32 0, .slice none 0 0, .int .i64 0, .int .u32 0, .bool false, .slice none 0 0, .slice none 0 0, .int .i64 0, .int .i64 0, .int .i64 0, .int .i64 0, .int .i64 0, .int .u64 0, .bool false, .slice none 0 0, .int .i64 0, .int .i64 0, .int .i64 0, .int .i64 0] 44
                replace L := L.is 0 (opv hd0 sc0) rfl
                try dsimp only [nput] at L
                generalize v14.alloc (.cells #[.int .i64 0, .int .u32 0, .slice none 0 0, .int .i64 0, .int .u32 0, .bool false, .slice none 0 0, .slice none 0 0, .int .i64 0, .int .i64 0, .int .i64 0, .int .i64 0, .int .i64 0, .int .u64 0, .bool false, .slice none 0 0, .int .i64 0, .int .i64 0, .int .i64 0, .int .i64 0] 44) = v15 at hHeld L ⊢
                generalize v14.heap.size = gT at L ⊢
                try simp only [Act.put, List.setIfInBounds_toArray, List.set_cons_zero, List.set_cons_succ]
                refine wpAnyH_ready (rs := [5]) (by kernel_rfl) (by simp) ?_
                refine AllReadyH.cons (o := ⟨some 99, _, _, _, _, _⟩) rfl (fun K0 hK => ?_) AllReadyH.nil
                go_simp
                refine ((TB _).out).mono ?_
                rintro e w16 ⟨h6, rfl, L', hSA, K'⟩
                have Lb := L.lts
                replace L := L.over K'
                replace L := L.of_ap L' (fun i b e => hSA b.1 (Lb i b e) (hH0.hap L i b e))
                clear Lb
                try dsimp only [lF, List.cons_append, List.nil_append] at L
                clear L' hSA
                refine hK.out _ _ ((L.less 1).del 0) (fun hHeld' => ?_)
                clear hHeld hK K0
                have hHeld := hHeld'
                clear hHeld'
                clear K'
                try simp only [Act.put, List.setIfInBounds_toArray, List.set_cons_zero, List.set_cons_succ]
                refine wpAnyH_ready (rs := [6]) (by kernel_rfl) (by simp) ?_
                refine AllReadyH.cons (o := ⟨some 100, _, _, _, _, _⟩) rfl (fun K0 hK => ?_) AllReadyH.nil
                go_simp
                refine ((TR _ _ _ _ _ (L.us_ 1 rfl) (L.of_ 0 rfl)).out).mono ?_
                rintro e w17 ⟨h7, B7, d7, rfl, U, L', hA, K'⟩
                have Lb := L.lts
                replace L := L.over K'
                replace L := L.us_av (fun i b e => hA b.1 (Lb i b e) (L.ap_ 1 rfl hm6.2.1 i b e)) U
                replace L := L.of_new Lb L'
                clear Lb
                try dsimp only [lF, List.cons_append, List.nil_append] at L
                clear U L' hA
                refine hK.out _ _ ((L.less 3).del 0) (fun hHeld' => ?_)
                clear hHeld hK K0
                have hHeld := hHeld'
                clear hHeld'
                clear K'
                try simp only [Act.put, List.setIfInBounds_toArray, List.set_cons_zero, List.set_cons_succ]
                refine wpAnyH_take (i := 7) (oi := ⟨some 93, _, _, _, _, _⟩) (v := ?_) rfl (by kernel_rfl) (by kernel_rfl) (by kernel_rfl) (fun _ _ _ h => h) (Or.inl ⟨by rfl, ?_⟩) hHeld ?_
                rotate_left
                · intro ww hS
                  try dsimp only at hS
                  go_simp
                  try with_reducible rfl
                  try omega
                try simp only [Act.put, List.setIfInBounds_toArray, List.set_cons_zero, List.set_cons_succ]
                refine wpAnyH_take (i := 8) (oi := ⟨some 101, _, _, _, _, _⟩) (v := .slice B7 m d7) rfl (by kernel_rfl) (by kernel_rfl) (by kernel_rfl) (fun _ _ _ h => h) (Or.inl ⟨by rfl, ?_⟩) hHeld ?_
                · intro ww hS
                  try dsimp only at hS
                  go_simp
                  try with_reducible rfl
                  try omega
                try simp only [Act.put, List.setIfInBounds_toArray, List.set_cons_zero, List.set_cons_succ]
                refine wpAnyH_take (i := 9) (oi := ⟨some 102, _, _, _, _, _⟩) (v := .agg (opv h7 s7)) rfl (by kernel_rfl) (by kernel_rfl) (by kernel_rfl) (fun _ _ _ h => h) (Or.inl ⟨by rfl, ?_⟩) hHeld ?_
                · intro ww hS
                  try dsimp only at hS
                  go_simp
                  try with_reducible rfl
                  try omega
                try simp only [Act.put, List.setIfInBounds_toArray, List.set_cons_zero, List.set_cons_succ]
                refine wpAnyH_take (i := 10) (oi := ⟨some 103, _, _, _, _, _⟩) (v := .bool true) rfl (by kernel_rfl) (by kernel_rfl) (by kernel_rfl) (fun _ _ _ h => h) (Or.inl ⟨by rfl, ?_⟩) hHeld ?_
                · intro ww hS
                  try dsimp only at hS
                  go_simp
                  try with_reducible rfl
                  try omega
                try simp only [Act.put, List.setIfInBounds_toArray, List.set_cons_zero, List.set_cons_succ]
                refine wpAnyH_take (i := 12) (oi := ⟨some 17, _, _, _, _, _⟩) (v := .slice B7 m d7) rfl (by kernel_rfl) (by kernel_rfl) (by kernel_rfl) (fun _ _ _ h => h) (Or.inl ⟨by rfl, ?_⟩) hHeld ?_
                · intro ww hS
                  try dsimp only at hS
                  go_simp
                  try with_reducible rfl
                  try omega
                try simp only [Act.put, List.setIfInBounds_toArray, List.set_cons_zero, List.set_cons_succ]
                refine wpAnyH_ready (rs := [13]) (by kernel_rfl) (by simp) ?_
                refine AllReadyH.cons (o := ⟨none, _, _, _, _, _⟩) rfl (fun K0 hK => ?_) AllReadyH.nil
                rw [if_pos (by rfl)]
                refine wp_store_row 44 (.tmp 18) (.tmp 102) rfl gT _ rfl rfl _ _ (L.bk_ 0 rfl) op_sz rfl (opv_one _ _) ?_
                replace L := L.row 0 rfl (opv h7 s7)
                try dsimp only [nput] at L
                refine hK.out _ _ ((L.less 3).del 0) (fun hHeld' => ?_)
                clear hHeld hK K0
                have hHeld := hHeld'
                clear hHeld'
                generalize w17.setRow gT (opv h7 s7) = v18 at hHeld L ⊢
                try simp only [Act.put]
                refine wpAnyH_take (i := 14) (oi := ⟨some 19, _, _, _, _, _⟩) (v := .bool true) rfl (by kernel_rfl) (by kernel_rfl) (by kernel_rfl) (fun _ _ _ h => h) (Or.inl ⟨by rfl, ?_⟩) hHeld ?_
                · intro ww hS
                  try dsimp only at hS
                  go_simp
                  try with_reducible rfl
                  try omega
                try simp only [Act.put, List.setIfInBounds_toArray, List.set_cons_zero, List.set_cons_succ]
                refine wpAnyH_done (by kernel_rfl) ?_ _
                clear hHeld
                go_wp2
                replace L := L.only (fs' := [uF B2 m d2 y2]) (by simp)
                go_meet
                exact ⟨_, _, _, _, rfl, rfl, rfl, L⟩
            case rest =>
              clear L
              obtain ⟨gT, h7, B7, d7, rfl, rfl, rfl, L⟩ := hcut
              rcases hcs.out with ⟨rfl, e1, e2⟩ | ⟨rfl, e1⟩
              all_goals clear hcs
              · clear TK TR
                have e3 : s.aad = (X : Int) := by rw [e2, hxo.out]
                have S_8 := L.at_ 1 8 rfl (v := .int .i64 s5.phase) rfl
                have S_z := L.lt 1 rfl
                have O_8 := L.at_ 2 8 rfl (v := .int .i64 0) (by show some (Value.int .i64 s.phase) = _; rw [hp])
                have O_z := L.lt 2 rfl
                have O_3 := L.at_ 2 3 rfl (v := .int .i64 0) (by show some (Value.int .i64 s.err) = _; rw [e1])
                have O_z := L.lt 2 rfl
                have O_3 := L.at_ 2 3 rfl (v := .int .i64 0) (by show some (Value.int .i64 s.err) = _; rw [e1])
                have O_z := L.lt 2 rfl
                have O_4 := L.at_ 2 4 rfl (v := .int .u32 (X : Int)) (by show some (Value.int .u32 s.aad) = _; rw [e3])
                have O_z := L.lt 2 rfl
                have S_5 := L.at_ 1 5 rfl (v := .bool true) (by show some (Value.bool s5.used) = _; rw [qe2.out])
                have S_z := L.lt 1 rfl
                have S_8 := L.at_ 1 8 rfl (v := .int .i64 0) (by show some (Value.int .i64 s5.phase) = _; rw [qe3.out])
                have S_z := L.lt 1 rfl
                have T_3 := L.at_ 0 3 rfl (v := .int .i64 5) (by show some (Value.int .i64 s7.err) = _; rw [re2.out])
                have T_z := L.lt 0 rfl
                go_wp2_with fail
                clear S_8 S_z O_8 O_z O_3 O_4 S_5 T_3 T_z
                go_ret
                exact ⟨rfl, L.K⟩
              · clear TK TR
                have S_8 := L.at_ 1 8 rfl (v := .int .i64 s5.phase) rfl
                have S_z := L.lt 1 rfl
                have O_8 := L.at_ 2 8 rfl (v := .int .i64 0) (by show some (Value.int .i64 s.phase) = _; rw [hp])
                have O_z := L.lt 2 rfl
                have O_3 := L.at_ 2 3 rfl (v := .int .i64 5) (by show some (Value.int .i64 s.err) = _; rw [e1])
                have O_z := L.lt 2 rfl
                have S_5 := L.at_ 1 5 rfl (v := .bool true) (by show some (Value.bool s5.used) = _; rw [qe2.out])
                have S_z := L.lt 1 rfl
                have S_8 := L.at_ 1 8 rfl (v := .int .i64 0) (by show some (Value.int .i64 s5.phase) = _; rw [qe3.out])
                have S_z := L.lt 1 rfl
                have T_3 := L.at_ 0 3 rfl (v := .int .i64 5) (by show some (Value.int .i64 s7.err) = _; rw [re2.out])
                have T_z := L.lt 0 rfl
                go_wp2_with fail
                clear S_8 S_z O_8 O_z O_3 S_5 T_3 T_z
                go_ret
                exact ⟨rfl, L.K⟩
theorem main (ha : a < 4294967296) (h0 : IS .i64 lo w A n c zs) (hX : X < 4294967296) (hE : IS .u32 lo3 w E k q es) (he : ∀ x ∈ es, (Lit.int .u32 x).wf = true) :
    Calls Try.prog 4 #[.agg #[.int .u32 (a : Int), .int .i64 p, .slice A n c, .int .i64 sh, .int .i64 wo, .int .i64 qu, .int .i64 tr], .int .u32 (X : Int), .slice E k q] w (RetBo true w) := by
  by_cases hk : k ≤ 300
  · exact near ha h0 hX hE he hk
  · exact far ha h0 hX hE he (by omega)
end
theorem walk (a p : Int) (A : Option Addr) (n c : Nat) (z : List Int) (sh wo qu tr : Int) (x : Int) (E : Option Addr) (k q : Nat) (ze : List Int) (w : World) (wa : (Lit.int .u32 a).wf = true) (wr : IsRow .i64 w A n c z) (wx : (Lit.int .u32 x).wf = true) (we : IsRow .u32 w E k q ze) :
    Calls Try.prog 4 #[.agg #[.int .u32 a, .int .i64 p, .slice A n c, .int .i64 sh, .int .i64 wo, .int .i64 qu, .int .i64 tr], .int .u32 x, .slice E k q] w fun e w' => e = .returned (.bool true) ∧ Below w.heap.size w w' := by
  obtain ⟨a, rfl, ha⟩ := wf_u32 wa
  obtain ⟨zs, h0, _⟩ := IS.of_row wr
  obtain ⟨X, rfl, hX⟩ := wf_u32 wx
  obtain ⟨es, hE, he⟩ := IS.of_row we
  exact main ha h0 hX hE he
end Go.Proofs.Ytacgjaohfcoigaa.exactAlone
