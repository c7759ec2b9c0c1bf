/-
  The walk of the law ClaimOne: for every configuration, cells and leaf it answers true.
-/
import Derived.Test.YtgpbdoegcagdaaaClaimOne0
namespace Go.Proofs.Ytgpbdoegcagdaaa.claimOne
open Go.RowKit
set_option linter.unusedVariables false
section
variable {w : World} {lo a m d X : Nat} {p sh wo qu tr : Int} {A B : Option Addr} {n c : Nat} {zs : List Int} {ys : List Nat}
set_option maxRecDepth 100000 in
set_option maxHeartbeats 4000000 in
theorem ifound (ha : a < 4294967296) (h0 : IS .i64 lo w A n c zs) (hU : US w B m d ys) (hX : X < 65536) (hb : fb (gt ys (lfO p X)) 32 = true) (ho : ¬ 2 ^ (32 - p.toNat) ≤ 32 * lfO p X + fi (gt ys (lfO p X)) 32) (hb2 : fb (clm (gt ys (lfO p X)) (fi (gt ys (lfO p X)) 32)) 32 = true) :
    Calls Try.prog 3 #[.agg #[.int .u32 (a : Int), .int .i64 p, .slice A n c, .int .i64 sh, .int .i64 wo, .int .i64 qu, .int .i64 tr], .slice B m d, .int .u16 (X : Int)] w (RetBo true w) := by
  go_enter Try.func3, Try.ntmps3
  go_upto_region 1 with (fail)
  have L := Loc.start w
  replace L := (L).alloc #[.int .u32 (a : Int), .int .i64 p, .slice A n c, .int .i64 sh, .int .i64 wo, .int .i64 qu, .int .i64 tr] 27
  try simp only [World.size_alloc] at L
  try dsimp only [nput] at L
  generalize (w).alloc (.cells #[.int .u32 (a : Int), .int .i64 p, .slice A n c, .int .i64 sh, .int .i64 wo, .int .i64 qu, .int .i64 tr] 27) = w1 at L ⊢
  generalize w.heap.size = gH at L ⊢
  go_wp2_with fail
  refine (awake_any _).mono ?_
  rintro e w2 ⟨rfl, K'⟩
  replace L := L.over K'
  go_wp2_with (refine wpList_load_want (by rfl) 27 (.tmp 3) rfl gH rfl _ _ (0, 0) _ (L.bk_ 0 rfl) Try.underlying27 rfl cf_sz ?_)
  refine (fits_any ha (h0.below L.K)).mono ?_
  rintro e w3 ⟨bo, rfl, hB, K'⟩
  replace L := L.over K'
  rcases bo with _ | _
  · clear hB
    go_wp2_with fail
    refine (awake_any _).mono ?_
    rintro e w92 ⟨rfl, K'⟩
    replace L := L.over K'
    go_wp2
    go_ret
    exact ⟨rfl, L.K⟩
  replace hB := hB rfl
  unfold FitP at hB
  obtain ⟨M, hMe⟩ : ∃ M, M = 2 ^ (32 - p.toNat) := ⟨_, rfl⟩
  rw [← hMe] at hB ho
  obtain ⟨hM, hm4, hmm⟩ := hB
  obtain ⟨kM, q, v, lf, eM0, eM1, eM2, eM3, eM4, eM5, hlv⟩ := fit_of (X := X) hMe hM.pos
  rw [← eM5] at hb ho hb2
  clear hMe eM5
  have hM4 := hM.most
  have hMp := hM.pos
  have hl3 := lv_le hM4
  have hm6 : m ≤ 65536 ∧ lf < m := by have := tv_le hM4; omega
  obtain ⟨hm6, hlm⟩ := hm6
  have hl9 := hU.len
  replace hmm := Lib.hid hmm
  replace eM0 := Lib.hid eM0
  have hm0 : 0 < m := by omega
  obtain ⟨bb, oo, hBe, hbb, hcc⟩ := hU.get hlm
  subst hBe
  have hlm2 : (lf : Int) < (m : Int) := by omega
  have hx64 := gt_lt hU.fit lf
  have TF := fun w => Lib.hid (wfirst_any (gt ys lf) hx64 w)
  simp only [hb] at TF
  have hfy := f_yes hb
  obtain ⟨x, hx⟩ : ∃ x, x = gt ys lf := ⟨_, rfl⟩
  obtain ⟨F, hF⟩ : ∃ F, F = fi (gt ys lf) 32 := ⟨_, rfl⟩
  have TK1 : ∀ w C e lo1 A0 c0 A1 n1 c1 A2 n2 c2 A3 n3 c3, US w C m e ys → Lists lo1 w ⟨A0, 0, c0, A1, n1, c1, A2, n2, c2, A3, n3, c3⟩ ⟨[], [], [], []⟩ → Hid (Calls Try.prog 11 #[.agg #[.int .u32 (a : Int), .int .i64 p, .slice A n c, .int .i64 sh, .int .i64 wo, .int .i64 qu, .int .i64 tr], .slice C m e, .agg (opv ⟨A0, 0, c0, A1, n1, c1, A2, n2, c2, A3, n3, c3⟩ ⟨1, 0, 0, 0, false, 2, 0, 0, (lf : Int), 0, 0, false, 0, 0, 0, 0⟩)] w (RetStp w.heap.size 0 ⟨1, 0, 0, 0, false, 3, 0, 0, (lf : Int), (F : Int), x, false, 0, 0, 0, 0⟩ ⟨[], [], [], []⟩ m ys false C w)) := fun w C e lo1 A0 c0 A1 n1 c1 A2 n2 c2 A3 n3 c3 U L => by have := cstep_found (a := a) (p := p) (sh := sh) (wo := wo) (qu := qu) (tr := tr) (A := A) (n := n) (c := c) (w := w) (lo := lo1) (h := ⟨A0, 0, c0, A1, n1, c1, A2, n2, c2, A3, n3, c3⟩) (s := ⟨1, 0, 0, 0, false, 2, 0, 0, (lf : Int), 0, 0, false, 0, 0, 0, 0⟩) (l := ⟨[], [], [], []⟩) L (Nat.zero_le _) (no_items L.i1) (no_items L.i2) (no_items L.i3) U rfl hlm (by show (0 : Int) ≤ 0; omega) (by show (0 : Int) ≤ 65536; omega) rfl hb; rw [← hF, ← hx] at this; exact this
  rw [← hF] at TF hfy ho hb2
  rw [← hx] at TF hfy hx64 hb2
  have hF5 : F < 32 := hfy.1
  have hxF := hfy.2.1
  clear hfy hF hb
  have hof : 32 * lf + F < M := by omega
  have f3 : decide ((M : Int) ≤ 32 * (lf : Int) + (F : Int)) = false := by simp; omega
  clear ho
  obtain ⟨hyx, hyF⟩ := clm_ne hx64 hF5 hxF
  obtain ⟨s2, hs2⟩ : ∃ s2, s2 = claimS a 0 [] x ⟨1, 0, 0, 0, false, 3, 0, 0, (lf : Int), (F : Int), x, false, 0, 0, 0, 0⟩ := ⟨_, rfl⟩
  have h2 := s2_of (a := a) (lf := lf) (x := x) (F := F) ⟨1, 0, 0, 0, false, 3, 0, 0, (lf : Int), (F : Int), x, false, 0, 0, 0, 0⟩ rfl
  rw [← hs2] at h2
  have TK2 : ∀ w C e lo1 A0 c0 A1 n1 c1 A2 n2 c2 A3 n3 c3, US w C m e ys → Lists lo1 w ⟨A0, 0, c0, A1, n1, c1, A2, n2, c2, A3, n3, c3⟩ ⟨[], [], [], []⟩ → Hid (Calls Try.prog 11 #[.agg #[.int .u32 (a : Int), .int .i64 p, .slice A n c, .int .i64 sh, .int .i64 wo, .int .i64 qu, .int .i64 tr], .slice C m e, .agg (opv ⟨A0, 0, c0, A1, n1, c1, A2, n2, c2, A3, n3, c3⟩ ⟨1, 0, 0, 0, false, 3, 0, 0, (lf : Int), (F : Int), x, false, 0, 0, 0, 0⟩)] w (RetStp w.heap.size 0 s2 ⟨[], [], [], []⟩ m (ys.set lf (clm x F)) true C w)) := fun w C e lo1 A0 c0 A1 n1 c1 A2 n2 c2 A3 n3 c3 U L => by have := cstep_hit (a := a) (p := p) (sh := sh) (wo := wo) (qu := qu) (tr := tr) (A := A) (n := n) (c := c) (w := w) (lo := lo1) (lo2 := lo1) (h := ⟨A0, 0, c0, A1, n1, c1, A2, n2, c2, A3, n3, c3⟩) (s := ⟨1, 0, 0, 0, false, 3, 0, 0, (lf : Int), (F : Int), x, false, 0, 0, 0, 0⟩) (l := ⟨[], [], [], []⟩) (xs := []) (M := M) (bt := F) ha hM L.i0 (Nat.zero_le _) (fun i hi => absurd hi (by show ¬ i < 0; omega)) L (no_items L.i1) (no_items L.i2) (no_items L.i3) U hm6 rfl hlm rfl hF5 hof hx64 rfl hx.symm; rw [hs2]; exact this
  clear hs2
  have hy64 : clm x F < U64 := clm_lt _ _
  have hgy : gt (ys.set lf (clm x F)) lf = clm x F := by rw [gt_set (by omega), if_pos rfl]
  have eP : againS ⟨1, 0, 0, 0, false, 3, 0, 0, (lf : Int), (F : Int), x, false, 0, 0, 0, 0⟩ = ⟨1, 0, 0, 0, false, 2, 0, 0, (lf : Int), (F : Int), 0, false, 0, 0, 0, 0⟩ := by unfold againS; simp only [if_pos]
  have TK3 : ∀ w C e lo1 A0 c0 A1 n1 c1 A2 n2 c2 A3 n3 c3, US w C m e (ys.set lf (clm x F)) → Lists lo1 w ⟨A0, 0, c0, A1, n1, c1, A2, n2, c2, A3, n3, c3⟩ ⟨[], [], [], []⟩ → Hid (Calls Try.prog 11 #[.agg #[.int .u32 (a : Int), .int .i64 p, .slice A n c, .int .i64 sh, .int .i64 wo, .int .i64 qu, .int .i64 tr], .slice C m e, .agg (opv ⟨A0, 0, c0, A1, n1, c1, A2, n2, c2, A3, n3, c3⟩ ⟨1, 0, 0, 0, false, 3, 0, 0, (lf : Int), (F : Int), x, false, 0, 0, 0, 0⟩)] w (RetStp w.heap.size 0 ⟨1, 0, 0, 0, false, 2, 0, 0, (lf : Int), (F : Int), 0, false, 0, 0, 0, 0⟩ ⟨[], [], [], []⟩ m (ys.set lf (clm x F)) false C w)) := fun w C e lo1 A0 c0 A1 n1 c1 A2 n2 c2 A3 n3 c3 U L => by have := cstep_miss (a := a) (p := p) (sh := sh) (wo := wo) (qu := qu) (tr := tr) (A := A) (n := n) (c := c) (w := w) (lo := lo1) (lo2 := lo1) (h := ⟨A0, 0, c0, A1, n1, c1, A2, n2, c2, A3, n3, c3⟩) (s := ⟨1, 0, 0, 0, false, 3, 0, 0, (lf : Int), (F : Int), x, false, 0, 0, 0, 0⟩) (l := ⟨[], [], [], []⟩) (xs := []) (M := M) (bt := F) ha hM L.i0 (Nat.zero_le _) (fun i hi => absurd hi (by show ¬ i < 0; omega)) L (no_items L.i1) (no_items L.i2) (no_items L.i3) U hm6 rfl hlm rfl hF5 hof hx64 rfl (by rw [hgy]; exact hyx); rw [eP] at this; exact this
  clear eP
  have hg2 := f_yes hb2
  obtain ⟨F2, hF2⟩ : ∃ F2, F2 = fi (clm x F) 32 := ⟨_, rfl⟩
  have TK4 : ∀ w C e lo1 A0 c0 A1 n1 c1 A2 n2 c2 A3 n3 c3, US w C m e (ys.set lf (clm x F)) → Lists lo1 w ⟨A0, 0, c0, A1, n1, c1, A2, n2, c2, A3, n3, c3⟩ ⟨[], [], [], []⟩ → Hid (Calls Try.prog 11 #[.agg #[.int .u32 (a : Int), .int .i64 p, .slice A n c, .int .i64 sh, .int .i64 wo, .int .i64 qu, .int .i64 tr], .slice C m e, .agg (opv ⟨A0, 0, c0, A1, n1, c1, A2, n2, c2, A3, n3, c3⟩ ⟨1, 0, 0, 0, false, 2, 0, 0, (lf : Int), (F : Int), 0, false, 0, 0, 0, 0⟩)] w (RetStp w.heap.size 0 ⟨1, 0, 0, 0, false, 3, 0, 0, (lf : Int), (F2 : Int), (clm x F), false, 0, 0, 0, 0⟩ ⟨[], [], [], []⟩ m (ys.set lf (clm x F)) false C w)) := fun w C e lo1 A0 c0 A1 n1 c1 A2 n2 c2 A3 n3 c3 U L => by have := cstep_found (a := a) (p := p) (sh := sh) (wo := wo) (qu := qu) (tr := tr) (A := A) (n := n) (c := c) (w := w) (lo := lo1) (h := ⟨A0, 0, c0, A1, n1, c1, A2, n2, c2, A3, n3, c3⟩) (s := ⟨1, 0, 0, 0, false, 2, 0, 0, (lf : Int), (F : Int), 0, false, 0, 0, 0, 0⟩) (l := ⟨[], [], [], []⟩) L (Nat.zero_le _) (no_items L.i1) (no_items L.i2) (no_items L.i3) U rfl hlm (by show (0 : Int) ≤ 0; omega) (by show (0 : Int) ≤ 65536; omega) rfl (by rw [hgy]; exact hb2); rw [hgy, ← hF2] at this; exact this
  rw [← hF2] at hg2
  clear hF2
  have hne : F2 ≠ F := fun e => by have := hg2.2.1; rw [e, hyF] at this; cases this
  have f6 : ((F2 : Int) != (F : Int)) = true := by simp; omega
  have TH2 := fun w => Lib.hid (rhas_any (clm x F) F2 hy64 (by have := hg2.1; omega) w)
  simp only [hg2.2.1] at TH2
  clear hg2 hne
  have TH := fun w => Lib.hid (rhas_any (clm x F) F hy64 (by omega) w)
  simp only [hyF] at TH
  have TFu := fun w => Lib.hid (full_any (clm x F) hy64 w)
  have hgo : ∀ k, k ≠ lf → gt (ys.set lf (clm x F)) k = gt ys k := fun k hk => by rw [gt_set (by omega), if_neg (Ne.symm hk)]
  replace hgo := Lib.hid hgo
  clear hyx hyF hb2
  obtain ⟨z, hz⟩ : ∃ z, z = adr a lf F := ⟨_, rfl⟩
  rw [← hz] at h2
  obtain ⟨haad, hph2⟩ := h2
  have eA : IntKind.i64.wrap (32 * (lf : Int)) = 32 * (lf : Int) := IntWalk.i64_in _ (by omega)
  have eB : IntKind.i64.wrap (32 * (lf : Int) + (F : Int)) = 32 * (lf : Int) + (F : Int) := IntWalk.i64_in _ (by omega)
  have eC : IntKind.u32.wrap (32 * (lf : Int) + (F : Int)) = 32 * (lf : Int) + (F : Int) := IntWalk.u32_in _ (by omega)
  have eD : IntKind.u32.wrap ((a : Int) + (32 * (lf : Int) + (F : Int))) = (z : Int) := by rw [hz]; unfold adr; simp [IntKind.wrap, IntKind.bits, IntKind.signed]
  clear hz
  generalize clm x F = y at *
  obtain ⟨fy, hfy⟩ : ∃ fy, fy = fl y := ⟨_, rfl⟩
  rw [← hfy] at hph2
  simp only [← hfy] at TFu
  clear hfy
  have f7 : (fy != fy) = false := by simp
  have XC : ∀ w2, Below w.heap.size w w2 → w2.cell? ⟨bb, oo + lf, none⟩ = some (.int .u64 ((x : Nat) : Int)) := fun w2 K => by rw [hx]; exact (K.cell (p := ⟨bb, oo + lf, none⟩) hbb).trans hcc
  replace XC := Lib.hid XC
  clear hx hcc
  have H_0 := L.at_ 0 0 rfl (v := .int .u32 (a : Int)) rfl
  have H_1 := L.at_ 0 1 rfl (v := .int .i64 p) rfl
  have H_z := L.lt 0 rfl
  go_wp2_with fail
  refine (rmany_yes hM).mono ?_
  rintro e w4 ⟨rfl, K'⟩
  clear H_0 H_1 H_z
  replace L := L.over K'
  go_upto_region 5 with (refine wpList_store_row rfl 42 (.tmp 8) (.tmp 44) rfl _ _ rfl (show _ = Value.agg (opv ⟨none, 0, 0, none, 0, 0, none, 0, 0, none, 0, 0⟩ ⟨1, 0, 0, 0, false, 2, 0, 0, (lf : Int), 0, 0, false, 0, 0, 0, 0⟩) from rfl) _ _ (Bk.new _ _ _) op_sz rfl (opv_one _ _) ?_)
  try rw [World.setRow_alloc_new]
  replace L := (L).alloc (opv ⟨none, 0, 0, none, 0, 0, none, 0, 0, none, 0, 0⟩ ⟨1, 0, 0, 0, false, 2, 0, 0, (lf : Int), 0, 0, false, 0, 0, 0, 0⟩) 42
  try simp only [World.size_alloc] at L
  try dsimp only [nput] at L
  generalize (w4).alloc (.cells (opv ⟨none, 0, 0, none, 0, 0, none, 0, 0, none, 0, 0⟩ ⟨1, 0, 0, 0, false, 2, 0, 0, (lf : Int), 0, 0, false, 0, 0, 0, 0⟩) 42) = w5 at L ⊢
  generalize w4.heap.size = gO at L ⊢
  have O_11 := L.at_ 0 11 rfl (v := .int .i64 (lf : Int)) rfl
  have O_z := L.lt 0 rfl
  have X := XC.out _ L.K
  go_wp2_with fail
  refine ((TF _).out).mono ?_
  rintro e w' ⟨rfl, rfl⟩
  clear O_11 O_z X
  go_wp2_with (first | (refine wpList_load_row rfl 27 (.tmp 3) rfl gH rfl _ _ (0, 0) _ (L.bk_ 1 rfl) Try.underlying27 rfl cf_sz ?_) | (refine wpList_load_row rfl 42 (.tmp 8) rfl gO rfl _ _ (0, 0) _ (L.bk_ 0 rfl) Try.underlying42 rfl op_sz ?_))
  refine ((TK1 _ _ _ _ _ _ _ _ _ _ _ _ _ _ _ (hU.below L.K) (Lists.hd0 (lo := 0) _)).out).mono ?_
  rintro e w6 ⟨A0_1, c0_1, A1_1, n1_1, c1_1, A2_1, n2_1, c2_1, A3_1, n3_1, c3_1, B_1, d_1, rfl, U, L', hA, K'⟩
  have Lb := L.lts
  replace L := L.over K'
  replace L := L.us_av (fun i b e => hA b.1 (Lb i b e) (hU.apart0 hm0 L i b e)) U
  replace L := L.lists Lb L'
  clear Lb
  try dsimp only [lF, List.cons_append, List.nil_append] at L
  clear L' U hA
  go_upto_region 7 with (refine wpList_store_row rfl 42 (.tmp 12) (.tmp 60) rfl _ _ rfl (show _ = Value.agg (opv ⟨A0_1, 0, c0_1, A1_1, n1_1, c1_1, A2_1, n2_1, c2_1, A3_1, n3_1, c3_1⟩ ⟨1, 0, 0, 0, false, 3, 0, 0, (lf : Int), (F : Int), x, false, 0, 0, 0, 0⟩) from rfl) _ _ (Bk.new _ _ _) op_sz rfl (opv_one _ _) ?_)
  try rw [World.setRow_alloc_new]
  replace L := (L).alloc (opv ⟨A0_1, 0, c0_1, A1_1, n1_1, c1_1, A2_1, n2_1, c2_1, A3_1, n3_1, c3_1⟩ ⟨1, 0, 0, 0, false, 3, 0, 0, (lf : Int), (F : Int), x, false, 0, 0, 0, 0⟩) 42
  try simp only [World.size_alloc] at L
  try dsimp only [nput] at L
  generalize (w6).alloc (.cells (opv ⟨A0_1, 0, c0_1, A1_1, n1_1, c1_1, A2_1, n2_1, c2_1, A3_1, n3_1, c3_1⟩ ⟨1, 0, 0, 0, false, 3, 0, 0, (lf : Int), (F : Int), x, false, 0, 0, 0, 0⟩) 42) = w7 at L ⊢
  generalize w6.heap.size = gP at L ⊢
  have P_8 := L.at_ 0 8 rfl (v := .int .i64 3) rfl
  have O_11 := L.at_ 1 11 rfl (v := .int .i64 (lf : Int)) rfl
  have P_z := L.lt 0 rfl
  have O_z := L.lt 1 rfl
  go_wp2_with (first | (refine wpList_load_row rfl 27 (.tmp 3) rfl gH rfl _ _ (0, 0) _ (L.bk_ 2 rfl) Try.underlying27 rfl cf_sz ?_) | (refine wpList_load_row rfl 42 (.tmp 12) rfl gP rfl _ _ (0, 0) _ (L.bk_ 0 rfl) Try.underlying42 rfl op_sz ?_))
  refine ((TK2 _ _ _ _ _ _ _ _ _ _ _ _ _ _ _ (hU.below L.K) (L.lists_at 0 rfl)).out).mono ?_
  rintro e w8 ⟨A0_2, c0_2, A1_2, n1_2, c1_2, A2_2, n2_2, c2_2, A3_2, n3_2, c3_2, B_2, d_2, rfl, U, L', hA, K'⟩
  clear P_8 O_11 P_z O_z
  have Lb := L.lts
  replace L := L.over K'
  replace L := L.us_av (fun i b e => hA b.1 (Lb i b e) (hU.apart0 hm0 L i b e)) U
  replace L := L.lists Lb L'
  clear Lb
  try dsimp only [lF, List.cons_append, List.nil_append] at L
  clear L' U hA
  obtain ⟨ba, oa, hBa, _⟩ := (L.us_ 4 rfl).get hlm
  subst hBa
  go_upto_region 12 with (refine wpList_store_row rfl 42 (.tmp 15) (.tmp 84) rfl _ _ rfl (show _ = Value.agg (opv ⟨A0_2, 0, c0_2, A1_2, n1_2, c1_2, A2_2, n2_2, c2_2, A3_2, n3_2, c3_2⟩ (s2)) from rfl) _ _ (Bk.new _ _ _) op_sz rfl (opv_one _ _) ?_)
  try rw [World.setRow_alloc_new]
  replace L := (L).alloc (opv ⟨A0_2, 0, c0_2, A1_2, n1_2, c1_2, A2_2, n2_2, c2_2, A3_2, n3_2, c3_2⟩ (s2)) 42
  try simp only [World.size_alloc] at L
  try dsimp only [nput] at L
  generalize (w8).alloc (.cells (opv ⟨A0_2, 0, c0_2, A1_2, n1_2, c1_2, A2_2, n2_2, c2_2, A3_2, n3_2, c3_2⟩ (s2)) 42) = w9 at L ⊢
  generalize w8.heap.size = gQ at L ⊢
  replace L := L.drew
  refine wp_region_held_drew (S := fun w' => Loc w w' [(gQ, 42, opv ⟨A0_2, 0, c0_2, A1_2, n1_2, c1_2, A2_2, n2_2, c2_2, A3_2, n3_2, c3_2⟩ (s2)), (gP, 42, opv ⟨A0_1, 0, c0_1, A1_1, n1_1, c1_1, A2_1, n2_1, c2_1, A3_1, n3_1, c3_1⟩ ⟨1, 0, 0, 0, false, 3, 0, 0, (lf : Int), (F : Int), x, false, 0, 0, 0, 0⟩), (gO, 42, opv ⟨none, 0, 0, none, 0, 0, none, 0, 0, none, 0, 0⟩ ⟨1, 0, 0, 0, false, 2, 0, 0, (lf : Int), 0, 0, false, 0, 0, 0, 0⟩), (gH, 27, #[.int .u32 (a : Int), .int .i64 p, .slice A n c, .int .i64 sh, .int .i64 wo, .int .i64 qu, .int .i64 tr])] [iF .u32 w7.heap.size A0_2 0 c0_2 (⟨[], [], [], []⟩ : Ls).rqs, iF .u32 w7.heap.size A1_2 n1_2 c1_2 (⟨[], [], [], []⟩ : Ls).ads, iF .i64 w7.heap.size A2_2 n2_2 c2_2 (⟨[], [], [], []⟩ : Ls).ers, iF .u64 w7.heap.size A3_2 n3_2 c3_2 (⟨[], [], [], []⟩ : Ls).ses, uF (some ⟨ba, oa, none⟩) m d_2 (ys.set lf y), iF .u32 w5.heap.size A0_1 0 c0_1 (⟨[], [], [], []⟩ : Ls).rqs, iF .u32 w5.heap.size A1_1 n1_1 c1_1 (⟨[], [], [], []⟩ : Ls).ads, iF .i64 w5.heap.size A2_1 n2_1 c2_1 (⟨[], [], [], []⟩ : Ls).ers, iF .u64 w5.heap.size A3_1 n3_1 c3_1 (⟨[], [], [], []⟩ : Ls).ses, uF B_1 m d_1 ys]) (by kernel_rfl) L (fun hHeld => ?_)
  generalize w9.drew = v10 at hHeld L ⊢
  refine wpAnyH_take (i := 0) (oi := ⟨some 86, _, _, _, _, _⟩) (v := .bool true) rfl (by kernel_rfl) (by kernel_rfl) (by kernel_rfl) (fun _ _ _ h => h) (Or.inl ⟨by rfl, ?_⟩) hHeld ?_
  · intro ww hS
    try dsimp only at hS
    go_simp
    try with_reducible rfl
    try omega
  try simp only [Act.put, List.setIfInBounds_toArray, List.set_cons_zero, List.set_cons_succ]
  refine wpAnyH_take (i := 1) (oi := ⟨some 87, _, _, _, _, _⟩) (v := .bool false) rfl (by kernel_rfl) (by kernel_rfl) (by kernel_rfl) (fun _ _ _ h => h) (Or.inl ⟨by rfl, ?_⟩) hHeld ?_
  · intro ww hS
    try dsimp only at hS
    go_simp
    try with_reducible rfl
    try omega
  try simp only [Act.put, List.setIfInBounds_toArray, List.set_cons_zero, List.set_cons_succ]
  refine wpAnyH_take (i := 2) (oi := ⟨some 88, _, _, _, _, _⟩) (v := .bool false) rfl (by kernel_rfl) (by kernel_rfl) (by kernel_rfl) (fun _ _ _ h => h) (Or.inl ⟨by rfl, ?_⟩) hHeld ?_
  · intro ww hS
    try dsimp only at hS
    go_simp
    try with_reducible rfl
    try omega
  try simp only [Act.put, List.setIfInBounds_toArray, List.set_cons_zero, List.set_cons_succ]
  refine wpAnyH_take (i := 3) (oi := ⟨some 89, _, _, _, _, _⟩) (v := .pointer (some ⟨gQ, 3, none⟩)) rfl (by kernel_rfl) (by kernel_rfl) (by kernel_rfl) (fun _ _ _ h => h) (Or.inl ⟨by rfl, ?_⟩) hHeld ?_
  · intro ww hS
    try dsimp only at hS
    go_simp
    try with_reducible rfl
    try omega
  try simp only [Act.put, List.setIfInBounds_toArray, List.set_cons_zero, List.set_cons_succ]
  refine wpAnyH_take (i := 4) (oi := ⟨some 90, _, _, _, _, _⟩) (v := .pointer (some ⟨gQ, 4, none⟩)) rfl (by kernel_rfl) (by kernel_rfl) (by kernel_rfl) (fun _ _ _ h => h) (Or.inl ⟨by rfl, ?_⟩) hHeld ?_
  · intro ww hS
    try dsimp only at hS
    go_simp
    try with_reducible rfl
    try omega
  try simp only [Act.put, List.setIfInBounds_toArray, List.set_cons_zero, List.set_cons_succ]
  refine wpAnyH_take (i := 5) (oi := ⟨some 91, _, _, _, _, _⟩) (v := .int .u32 (z : Int)) rfl (by kernel_rfl) (by kernel_rfl) (by kernel_rfl) (fun _ _ _ h => h) (Or.inl ⟨by rfl, ?_⟩) hHeld ?_
  · intro ww hS
    try dsimp only at hS
    have Q_4 := ((hS)).at_ 0 4 rfl (v := .int .u32 (z : Int)) (by show some (Value.int .u32 s2.aad) = _; rw [haad])
    have Q_z := ((hS)).lt 0 rfl
    go_simp
    try with_reducible rfl
    try omega
  try simp only [Act.put, List.setIfInBounds_toArray, List.set_cons_zero, List.set_cons_succ]
  refine wpAnyH_take (i := 6) (oi := ⟨some 92, _, _, _, _, _⟩) (v := .pointer (some ⟨gH, 0, none⟩)) rfl (by kernel_rfl) (by kernel_rfl) (by kernel_rfl) (fun _ _ _ h => h) (Or.inl ⟨by rfl, ?_⟩) hHeld ?_
  · intro ww hS
    try dsimp only at hS
    go_simp
    try with_reducible rfl
    try omega
  try simp only [Act.put, List.setIfInBounds_toArray, List.set_cons_zero, List.set_cons_succ]
  refine wpAnyH_take (i := 7) (oi := ⟨some 93, _, _, _, _, _⟩) (v := .pointer (some ⟨gH, 0, none⟩)) rfl (by kernel_rfl) (by kernel_rfl) (by kernel_rfl) (fun _ _ _ h => h) (Or.inl ⟨by rfl, ?_⟩) hHeld ?_
  · intro ww hS
    try dsimp only at hS
    go_simp
    try with_reducible rfl
    try omega
  try simp only [Act.put, List.setIfInBounds_toArray, List.set_cons_zero, List.set_cons_succ]
  refine wpAnyH_take (i := 8) (oi := ⟨some 94, _, _, _, _, _⟩) (v := .int .u32 (a : Int)) rfl (by kernel_rfl) (by kernel_rfl) (by kernel_rfl) (fun _ _ _ h => h) (Or.inl ⟨by rfl, ?_⟩) hHeld ?_
  · intro ww hS
    try dsimp only at hS
    have H_0 := (hS).at_ 3 0 rfl (v := .int .u32 (a : Int)) rfl
    have H_z := (hS).lt 3 rfl
    go_simp
    try with_reducible rfl
    try omega
  try simp only [Act.put, List.setIfInBounds_toArray, List.set_cons_zero, List.set_cons_succ]
  refine wpAnyH_take (i := 9) (oi := ⟨some 95, _, _, _, _, _⟩) (v := .pointer (some ⟨gO, 11, none⟩)) rfl (by kernel_rfl) (by kernel_rfl) (by kernel_rfl) (fun _ _ _ h => h) (Or.inl ⟨by rfl, ?_⟩) hHeld ?_
  · intro ww hS
    try dsimp only at hS
    go_simp
    try with_reducible rfl
    try omega
  try simp only [Act.put, List.setIfInBounds_toArray, List.set_cons_zero, List.set_cons_succ]
  refine wpAnyH_take (i := 10) (oi := ⟨some 96, _, _, _, _, _⟩) (v := .int .i64 (lf : Int)) rfl (by kernel_rfl) (by kernel_rfl) (by kernel_rfl) (fun _ _ _ h => h) (Or.inl ⟨by rfl, ?_⟩) hHeld ?_
  · intro ww hS
    try dsimp only at hS
    have O_11 := (hS).at_ 2 11 rfl (v := .int .i64 (lf : Int)) rfl
    have O_z := (hS).lt 2 rfl
    go_simp
    try with_reducible rfl
    try omega
  try simp only [Act.put, List.setIfInBounds_toArray, List.set_cons_zero, List.set_cons_succ]
  refine wpAnyH_take (i := 11) (oi := ⟨some 97, _, _, _, _, _⟩) (v := .int .i64 ((32 * (lf : Int)))) rfl (by kernel_rfl) (by kernel_rfl) (by kernel_rfl) (fun _ _ _ h => h) (Or.inl ⟨by rfl, ?_⟩) hHeld ?_
  · intro ww hS
    try dsimp only at hS
    go_simp
    try with_reducible rfl
    try omega
  try simp only [Act.put, List.setIfInBounds_toArray, List.set_cons_zero, List.set_cons_succ]
  refine wpAnyH_take (i := 12) (oi := ⟨some 98, _, _, _, _, _⟩) (v := .int .i64 (F : Int)) rfl (by kernel_rfl) (by kernel_rfl) (by kernel_rfl) (fun _ _ _ h => h) (Or.inl ⟨by rfl, ?_⟩) hHeld ?_
  · intro ww hS
    try dsimp only at hS
    go_simp
    try with_reducible rfl
    try omega
  try simp only [Act.put, List.setIfInBounds_toArray, List.set_cons_zero, List.set_cons_succ]
  refine wpAnyH_take (i := 13) (oi := ⟨some 99, _, _, _, _, _⟩) (v := .int .i64 ((32 * (lf : Int) + (F : Int)))) rfl (by kernel_rfl) (by kernel_rfl) (by kernel_rfl) (fun _ _ _ h => h) (Or.inl ⟨by rfl, ?_⟩) hHeld ?_
  · intro ww hS
    try dsimp only at hS
    go_simp
    try with_reducible rfl
    try omega
  try simp only [Act.put, List.setIfInBounds_toArray, List.set_cons_zero, List.set_cons_succ]
  refine wpAnyH_take (i := 14) (oi := ⟨some 100, _, _, _, _, _⟩) (v := .int .u32 ((32 * (lf : Int) + (F : Int)))) rfl (by kernel_rfl) (by kernel_rfl) (by kernel_rfl) (fun _ _ _ h => h) (Or.inl ⟨by rfl, ?_⟩) hHeld ?_
  · intro ww hS
    try dsimp only at hS
    go_simp
    try with_reducible rfl
    try omega
  try simp only [Act.put, List.setIfInBounds_toArray, List.set_cons_zero, List.set_cons_succ]
  refine wpAnyH_take (i := 15) (oi := ⟨some 101, _, _, _, _, _⟩) (v := .int .u32 (z : Int)) rfl (by kernel_rfl) (by kernel_rfl) (by kernel_rfl) (fun _ _ _ h => h) (Or.inl ⟨by rfl, ?_⟩) hHeld ?_
  · intro ww hS
    try dsimp only at hS
    go_simp
    try with_reducible rfl
    try omega
  try simp only [Act.put, List.setIfInBounds_toArray, List.set_cons_zero, List.set_cons_succ]
  refine wpAnyH_take (i := 16) (oi := ⟨some 102, _, _, _, _, _⟩) (v := .bool false) rfl (by kernel_rfl) (by kernel_rfl) (by kernel_rfl) (fun _ _ _ h => h) (Or.inl ⟨by rfl, ?_⟩) hHeld ?_
  · intro ww hS
    try dsimp only at hS
    go_simp
    try with_reducible rfl
    try omega
  try simp only [Act.put, List.setIfInBounds_toArray, List.set_cons_zero, List.set_cons_succ]
  refine wpAnyH_take (i := 17) (oi := ⟨some 103, _, _, _, _, _⟩) (v := .bool false) rfl (by kernel_rfl) (by kernel_rfl) (by kernel_rfl) (fun _ _ _ h => h) (Or.inl ⟨by rfl, ?_⟩) hHeld ?_
  · intro ww hS
    try dsimp only at hS
    go_simp
    try with_reducible rfl
    try omega
  try simp only [Act.put, List.setIfInBounds_toArray, List.set_cons_zero, List.set_cons_succ]
  refine wpAnyH_take (i := 18) (oi := ⟨some 104, _, _, _, _, _⟩) (v := .bool false) rfl (by kernel_rfl) (by kernel_rfl) (by kernel_rfl) (fun _ _ _ h => h) (Or.inl ⟨by rfl, ?_⟩) hHeld ?_
  · intro ww hS
    try dsimp only at hS
    go_simp
    try with_reducible rfl
    try omega
  try simp only [Act.put, List.setIfInBounds_toArray, List.set_cons_zero, List.set_cons_succ]
  refine wpAnyH_take (i := 19) (oi := ⟨some 105, _, _, _, _, _⟩) (v := .slice (some ⟨ba, oa, none⟩) m d_2) rfl (by kernel_rfl) (by kernel_rfl) (by kernel_rfl) (fun _ _ _ h => h) (Or.inl ⟨by rfl, ?_⟩) hHeld ?_
  · intro ww hS
    try dsimp only at hS
    go_simp
    try with_reducible rfl
    try omega
  try simp only [Act.put, List.setIfInBounds_toArray, List.set_cons_zero, List.set_cons_succ]
  refine wpAnyH_take (i := 20) (oi := ⟨some 106, _, _, _, _, _⟩) (v := .pointer (some ⟨gO, 11, none⟩)) rfl (by kernel_rfl) (by kernel_rfl) (by kernel_rfl) (fun _ _ _ h => h) (Or.inl ⟨by rfl, ?_⟩) hHeld ?_
  · intro ww hS
    try dsimp only at hS
    go_simp
    try with_reducible rfl
    try omega
  try simp only [Act.put, List.setIfInBounds_toArray, List.set_cons_zero, List.set_cons_succ]
  refine wpAnyH_take (i := 21) (oi := ⟨some 107, _, _, _, _, _⟩) (v := .int .i64 (lf : Int)) rfl (by kernel_rfl) (by kernel_rfl) (by kernel_rfl) (fun _ _ _ h => h) (Or.inl ⟨by rfl, ?_⟩) hHeld ?_
  · intro ww hS
    try dsimp only at hS
    have O_11 := (hS).at_ 2 11 rfl (v := .int .i64 (lf : Int)) rfl
    have O_z := (hS).lt 2 rfl
    go_simp
    try with_reducible rfl
    try omega
  try simp only [Act.put, List.setIfInBounds_toArray, List.set_cons_zero, List.set_cons_succ]
  refine wpAnyH_take (i := 22) (oi := ⟨some 108, _, _, _, _, _⟩) (v := .pointer (some ⟨ba, oa + lf, none⟩)) rfl (by kernel_rfl) (by kernel_rfl) (by kernel_rfl) (fun _ _ _ h => h) (Or.inl ⟨by rfl, ?_⟩) hHeld ?_
  · intro ww hS
    try dsimp only at hS
    go_simp
    try with_reducible rfl
    try omega
  try simp only [Act.put, List.setIfInBounds_toArray, List.set_cons_zero, List.set_cons_succ]
  refine wpAnyH_take (i := 23) (oi := ⟨some 109, _, _, _, _, _⟩) (v := .int .u64 ((y : Nat) : Int)) rfl (by kernel_rfl) (by kernel_rfl) (by kernel_rfl) (fun _ _ _ h => h) (Or.inl ⟨by rfl, ?_⟩) hHeld ?_
  · intro ww hS
    try dsimp only at hS
    have X := (((hS)).us_ 4 rfl).here hlm
    rw [hgy] at X
    go_simp
    try with_reducible rfl
    try omega
  try simp only [Act.put, List.setIfInBounds_toArray, List.set_cons_zero, List.set_cons_succ]
  refine wpAnyH_take (i := 24) (oi := ⟨some 110, _, _, _, _, _⟩) (v := .int .i64 (F : Int)) rfl (by kernel_rfl) (by kernel_rfl) (by kernel_rfl) (fun _ _ _ h => h) (Or.inl ⟨by rfl, ?_⟩) hHeld ?_
  · intro ww hS
    try dsimp only at hS
    go_simp
    try with_reducible rfl
    try omega
  try simp only [Act.put, List.setIfInBounds_toArray, List.set_cons_zero, List.set_cons_succ]
  refine wpAnyH_ready (rs := [25]) (by kernel_rfl) (by simp) ?_
  refine AllReadyH.cons (o := ⟨some 111, _, _, _, _, _⟩) rfl (fun K0 hK => ?_) AllReadyH.nil
  go_simp
  refine ((TH _).out).mono ?_
  rintro e w' ⟨rfl, rfl⟩
  refine hK.out _ _ L (fun hHeld' => ?_)
  clear hHeld hK K0
  have hHeld := hHeld'
  clear hHeld'
  try simp only [Act.put, List.setIfInBounds_toArray, List.set_cons_zero, List.set_cons_succ]
  refine wpAnyH_take (i := 26) (oi := ⟨some 112, _, _, _, _, _⟩) (v := .bool false) rfl (by kernel_rfl) (by kernel_rfl) (by kernel_rfl) (fun _ _ _ h => h) (Or.inl ⟨by rfl, ?_⟩) hHeld ?_
  · intro ww hS
    try dsimp only at hS
    go_simp
    try with_reducible rfl
    try omega
  try simp only [Act.put, List.setIfInBounds_toArray, List.set_cons_zero, List.set_cons_succ]
  refine wpAnyH_take (i := 27) (oi := ⟨some 113, _, _, _, _, _⟩) (v := .bool false) rfl (by kernel_rfl) (by kernel_rfl) (by kernel_rfl) (fun _ _ _ h => h) (Or.inl ⟨by rfl, ?_⟩) hHeld ?_
  · intro ww hS
    try dsimp only at hS
    go_simp
    try with_reducible rfl
    try omega
  try simp only [Act.put, List.setIfInBounds_toArray, List.set_cons_zero, List.set_cons_succ]
  refine wpAnyH_take (i := 28) (oi := ⟨some 114, _, _, _, _, _⟩) (v := .bool false) rfl (by kernel_rfl) (by kernel_rfl) (by kernel_rfl) (fun _ _ _ h => h) (Or.inl ⟨by rfl, ?_⟩) hHeld ?_
  · intro ww hS
    try dsimp only at hS
    go_simp
    try with_reducible rfl
    try omega
  try simp only [Act.put, List.setIfInBounds_toArray, List.set_cons_zero, List.set_cons_succ]
  refine wpAnyH_take (i := 29) (oi := ⟨some 115, _, _, _, _, _⟩) (v := .slice (some ⟨ba, oa, none⟩) m d_2) rfl (by kernel_rfl) (by kernel_rfl) (by kernel_rfl) (fun _ _ _ h => h) (Or.inl ⟨by rfl, ?_⟩) hHeld ?_
  · intro ww hS
    try dsimp only at hS
    go_simp
    try with_reducible rfl
    try omega
  try simp only [Act.put, List.setIfInBounds_toArray, List.set_cons_zero, List.set_cons_succ]
  refine wpAnyH_take (i := 30) (oi := ⟨some 116, _, _, _, _, _⟩) (v := .pointer (some ⟨gO, 11, none⟩)) rfl (by kernel_rfl) (by kernel_rfl) (by kernel_rfl) (fun _ _ _ h => h) (Or.inl ⟨by rfl, ?_⟩) hHeld ?_
  · intro ww hS
    try dsimp only at hS
    go_simp
    try with_reducible rfl
    try omega
  try simp only [Act.put, List.setIfInBounds_toArray, List.set_cons_zero, List.set_cons_succ]
  refine wpAnyH_take (i := 31) (oi := ⟨some 117, _, _, _, _, _⟩) (v := .int .i64 (lf : Int)) rfl (by kernel_rfl) (by kernel_rfl) (by kernel_rfl) (fun _ _ _ h => h) (Or.inl ⟨by rfl, ?_⟩) hHeld ?_
  · intro ww hS
    try dsimp only at hS
    have O_11 := (hS).at_ 2 11 rfl (v := .int .i64 (lf : Int)) rfl
    have O_z := (hS).lt 2 rfl
    go_simp
    try with_reducible rfl
    try omega
  try simp only [Act.put, List.setIfInBounds_toArray, List.set_cons_zero, List.set_cons_succ]
  refine wpAnyH_take (i := 32) (oi := ⟨some 118, _, _, _, _, _⟩) (v := .pointer (some ⟨ba, oa + lf, none⟩)) rfl (by kernel_rfl) (by kernel_rfl) (by kernel_rfl) (fun _ _ _ h => h) (Or.inl ⟨by rfl, ?_⟩) hHeld ?_
  · intro ww hS
    try dsimp only at hS
    go_simp
    try with_reducible rfl
    try omega
  try simp only [Act.put, List.setIfInBounds_toArray, List.set_cons_zero, List.set_cons_succ]
  refine wpAnyH_take (i := 33) (oi := ⟨some 119, _, _, _, _, _⟩) (v := .int .u64 ((y : Nat) : Int)) rfl (by kernel_rfl) (by kernel_rfl) (by kernel_rfl) (fun _ _ _ h => h) (Or.inl ⟨by rfl, ?_⟩) hHeld ?_
  · intro ww hS
    try dsimp only at hS
    have X := (((hS)).us_ 4 rfl).here hlm
    rw [hgy] at X
    go_simp
    try with_reducible rfl
    try omega
  try simp only [Act.put, List.setIfInBounds_toArray, List.set_cons_zero, List.set_cons_succ]
  refine wpAnyH_take (i := 35) (oi := ⟨some 121, _, _, _, _, _⟩) (v := .pointer (some ⟨gQ, 8, none⟩)) rfl (by kernel_rfl) (by kernel_rfl) (by kernel_rfl) (fun _ _ _ h => h) (Or.inl ⟨by rfl, ?_⟩) hHeld ?_
  · intro ww hS
    try dsimp only at hS
    go_simp
    try with_reducible rfl
    try omega
  try simp only [Act.put, List.setIfInBounds_toArray, List.set_cons_zero, List.set_cons_succ]
  refine wpAnyH_take (i := 36) (oi := ⟨some 122, _, _, _, _, _⟩) (v := .int .i64 s2.phase) rfl (by kernel_rfl) (by kernel_rfl) (by kernel_rfl) (fun _ _ _ h => h) (Or.inl ⟨by rfl, ?_⟩) hHeld ?_
  · intro ww hS
    try dsimp only at hS
    have Q_8 := (hS).at_ 0 8 rfl (v := .int .i64 s2.phase) rfl
    have Q_z := (hS).lt 0 rfl
    go_simp
    try with_reducible rfl
    try omega
  try simp only [Act.put, List.setIfInBounds_toArray, List.set_cons_zero, List.set_cons_succ]
  refine wpAnyH_take (i := 37) (oi := ⟨some 123, _, _, _, _, _⟩) (v := .bool fy) rfl (by kernel_rfl) (by kernel_rfl) (by kernel_rfl) (fun _ _ _ h => h) (Or.inl ⟨by rfl, ?_⟩) hHeld ?_
  · intro ww hS
    try dsimp only at hS
    go_simp
    try with_reducible rfl
    try omega
  try simp only [Act.put, List.setIfInBounds_toArray, List.set_cons_zero, List.set_cons_succ]
  refine wpAnyH_ready (rs := [34]) (by kernel_rfl) (by simp) ?_
  refine AllReadyH.cons (o := ⟨some 120, _, _, _, _, _⟩) rfl (fun K0 hK => ?_) AllReadyH.nil
  go_simp
  refine ((TFu _).out).mono ?_
  rintro e w' ⟨rfl, rfl⟩
  refine hK.out _ _ L (fun hHeld' => ?_)
  clear hHeld hK K0
  have hHeld := hHeld'
  clear hHeld'
  try simp only [Act.put, List.setIfInBounds_toArray, List.set_cons_zero, List.set_cons_succ]
  refine wpAnyH_take (i := 38) (oi := ⟨some 124, _, _, _, _, _⟩) (v := .bool false) rfl (by kernel_rfl) (by kernel_rfl) (by kernel_rfl) (fun _ _ _ h => h) (Or.inl ⟨by rfl, ?_⟩) hHeld ?_
  · intro ww hS
    try dsimp only at hS
    go_simp
    try with_reducible rfl
    try omega
  try simp only [Act.put, List.setIfInBounds_toArray, List.set_cons_zero, List.set_cons_succ]
  refine wpAnyH_take (i := 39) (oi := ⟨some 125, _, _, _, _, _⟩) (v := .bool false) rfl (by kernel_rfl) (by kernel_rfl) (by kernel_rfl) (fun _ _ _ h => h) (Or.inl ⟨by rfl, ?_⟩) hHeld ?_
  · intro ww hS
    try dsimp only at hS
    go_simp
    try with_reducible rfl
    try omega
  try simp only [Act.put, List.setIfInBounds_toArray, List.set_cons_zero, List.set_cons_succ]
  refine wpAnyH_done (by kernel_rfl) ?_ _
  clear hHeld
  go_wp2
  go_loopw [17] (fun i wr => ∃ k : Nat, k ≤ m ∧ i = .int .i64 k ∧ Loc w wr [(gQ, 42, opv ⟨A0_2, 0, c0_2, A1_2, n1_2, c1_2, A2_2, n2_2, c2_2, A3_2, n3_2, c3_2⟩ (s2)), (gP, 42, opv ⟨A0_1, 0, c0_1, A1_1, n1_1, c1_1, A2_1, n2_1, c2_1, A3_1, n3_1, c3_1⟩ ⟨1, 0, 0, 0, false, 3, 0, 0, (lf : Int), (F : Int), x, false, 0, 0, 0, 0⟩), (gO, 42, opv ⟨none, 0, 0, none, 0, 0, none, 0, 0, none, 0, 0⟩ ⟨1, 0, 0, 0, false, 2, 0, 0, (lf : Int), 0, 0, false, 0, 0, 0, 0⟩), (gH, 27, #[.int .u32 (a : Int), .int .i64 p, .slice A n c, .int .i64 sh, .int .i64 wo, .int .i64 qu, .int .i64 tr])] [iF .u32 w7.heap.size A0_2 0 c0_2 (⟨[], [], [], []⟩ : Ls).rqs, iF .u32 w7.heap.size A1_2 n1_2 c1_2 (⟨[], [], [], []⟩ : Ls).ads, iF .i64 w7.heap.size A2_2 n2_2 c2_2 (⟨[], [], [], []⟩ : Ls).ers, iF .u64 w7.heap.size A3_2 n3_2 c3_2 (⟨[], [], [], []⟩ : Ls).ses, uF (some ⟨ba, oa, none⟩) m d_2 (ys.set lf y), iF .u32 w5.heap.size A0_1 0 c0_1 (⟨[], [], [], []⟩ : Ls).rqs, iF .u32 w5.heap.size A1_1 n1_1 c1_1 (⟨[], [], [], []⟩ : Ls).ads, iF .i64 w5.heap.size A2_1 n2_1 c2_1 (⟨[], [], [], []⟩ : Ls).ers, iF .u64 w5.heap.size A3_1 n3_1 c3_1 (⟨[], [], [], []⟩ : Ls).ses, uF B_1 m d_1 ys]) (fun i _ => m - (intOf i).toNat)
  case atStart => exact ⟨0, Nat.zero_le _, rfl, L⟩
  case round =>
    clear L
    obtain ⟨k, hk, rfl, L⟩ := hrel
    by_cases hlt : k < m
    · have hk2 : (k : Int) < (m : Int) := by omega
      by_cases he : k = lf
      · have f8 : ((k : Int) != (lf : Int)) = false := by simp; omega
        replace he := Lib.hid he
        go_upto_region 17 with (fail)
        replace L := L.drew
        refine wp_region_held_drew (S := fun w' => Loc w w' [(gQ, 42, opv ⟨A0_2, 0, c0_2, A1_2, n1_2, c1_2, A2_2, n2_2, c2_2, A3_2, n3_2, c3_2⟩ (s2)), (gP, 42, opv ⟨A0_1, 0, c0_1, A1_1, n1_1, c1_1, A2_1, n2_1, c2_1, A3_1, n3_1, c3_1⟩ ⟨1, 0, 0, 0, false, 3, 0, 0, (lf : Int), (F : Int), x, false, 0, 0, 0, 0⟩), (gO, 42, opv ⟨none, 0, 0, none, 0, 0, none, 0, 0, none, 0, 0⟩ ⟨1, 0, 0, 0, false, 2, 0, 0, (lf : Int), 0, 0, false, 0, 0, 0, 0⟩), (gH, 27, #[.int .u32 (a : Int), .int .i64 p, .slice A n c, .int .i64 sh, .int .i64 wo, .int .i64 qu, .int .i64 tr])] [iF .u32 w7.heap.size A0_2 0 c0_2 (⟨[], [], [], []⟩ : Ls).rqs, iF .u32 w7.heap.size A1_2 n1_2 c1_2 (⟨[], [], [], []⟩ : Ls).ads, iF .i64 w7.heap.size A2_2 n2_2 c2_2 (⟨[], [], [], []⟩ : Ls).ers, iF .u64 w7.heap.size A3_2 n3_2 c3_2 (⟨[], [], [], []⟩ : Ls).ses, uF (some ⟨ba, oa, none⟩) m d_2 (ys.set lf y), iF .u32 w5.heap.size A0_1 0 c0_1 (⟨[], [], [], []⟩ : Ls).rqs, iF .u32 w5.heap.size A1_1 n1_1 c1_1 (⟨[], [], [], []⟩ : Ls).ads, iF .i64 w5.heap.size A2_1 n2_1 c2_1 (⟨[], [], [], []⟩ : Ls).ers, iF .u64 w5.heap.size A3_1 n3_1 c3_1 (⟨[], [], [], []⟩ : Ls).ses, uF B_1 m d_1 ys]) (by kernel_rfl) L (fun hHeld => ?_)
        generalize wr.drew = v11 at hHeld L ⊢
        refine wpAnyH_take (i := 0) (oi := ⟨some 132, _, _, _, _, _⟩) (v := .int .i64 (k : Int)) rfl (by kernel_rfl) (by kernel_rfl) (by kernel_rfl) (fun _ _ _ h => h) (Or.inl ⟨by rfl, ?_⟩) hHeld ?_
        · intro ww hS
          try dsimp only at hS
          go_simp
          try with_reducible rfl
          try omega
        try simp only [Act.put, List.setIfInBounds_toArray, List.set_cons_zero, List.set_cons_succ]
        refine wpAnyH_take (i := 1) (oi := ⟨some 133, _, _, _, _, _⟩) (v := .pointer (some ⟨gO, 11, none⟩)) rfl (by kernel_rfl) (by kernel_rfl) (by kernel_rfl) (fun _ _ _ h => h) (Or.inl ⟨by rfl, ?_⟩) hHeld ?_
        · intro ww hS
          try dsimp only at hS
          go_simp
          try with_reducible rfl
          try omega
        try simp only [Act.put, List.setIfInBounds_toArray, List.set_cons_zero, List.set_cons_succ]
        refine wpAnyH_take (i := 2) (oi := ⟨some 134, _, _, _, _, _⟩) (v := .int .i64 (lf : Int)) rfl (by kernel_rfl) (by kernel_rfl) (by kernel_rfl) (fun _ _ _ h => h) (Or.inl ⟨by rfl, ?_⟩) hHeld ?_
        · intro ww hS
          try dsimp only at hS
          have O_11 := (hS).at_ 2 11 rfl (v := .int .i64 (lf : Int)) rfl
          have O_z := (hS).lt 2 rfl
          go_simp
          try with_reducible rfl
          try omega
        try simp only [Act.put, List.setIfInBounds_toArray, List.set_cons_zero, List.set_cons_succ]
        refine wpAnyH_take (i := 3) (oi := ⟨some 135, _, _, _, _, _⟩) (v := .bool false) rfl (by kernel_rfl) (by kernel_rfl) (by kernel_rfl) (fun _ _ _ h => h) (Or.inl ⟨by rfl, ?_⟩) hHeld ?_
        · intro ww hS
          try dsimp only at hS
          go_simp
          try with_reducible rfl
          try omega
        try simp only [Act.put, List.setIfInBounds_toArray, List.set_cons_zero, List.set_cons_succ]
        refine wpAnyH_take (i := 4) (oi := ⟨some 136, _, _, _, _, _⟩) (v := .bool false) rfl (by kernel_rfl) (by kernel_rfl) (by kernel_rfl) (fun _ _ _ h => h) (Or.inl ⟨by rfl, ?_⟩) hHeld ?_
        · intro ww hS
          try dsimp only at hS
          go_simp
          try with_reducible rfl
          try omega
        try simp only [Act.put, List.setIfInBounds_toArray, List.set_cons_zero, List.set_cons_succ]
        refine wpAnyH_take (i := 5) (oi := ⟨some 137, _, _, _, _, _⟩) (v := undef) rfl (by kernel_rfl) (by kernel_rfl) (by kernel_rfl) (fun _ _ _ h => h) (Or.inr ⟨by rfl, rfl⟩) hHeld ?_
        try simp only [Act.put, List.setIfInBounds_toArray, List.set_cons_zero, List.set_cons_succ]
        refine wpAnyH_take (i := 6) (oi := ⟨some 138, _, _, _, _, _⟩) (v := undef) rfl (by kernel_rfl) (by kernel_rfl) (by kernel_rfl) (fun _ _ _ h => h) (Or.inr ⟨by rfl, rfl⟩) hHeld ?_
        try simp only [Act.put, List.setIfInBounds_toArray, List.set_cons_zero, List.set_cons_succ]
        refine wpAnyH_take (i := 7) (oi := ⟨some 139, _, _, _, _, _⟩) (v := undef) rfl (by kernel_rfl) (by kernel_rfl) (by kernel_rfl) (fun _ _ _ h => h) (Or.inr ⟨by rfl, rfl⟩) hHeld ?_
        try simp only [Act.put, List.setIfInBounds_toArray, List.set_cons_zero, List.set_cons_succ]
        refine wpAnyH_take (i := 8) (oi := ⟨some 140, _, _, _, _, _⟩) (v := undef) rfl (by kernel_rfl) (by kernel_rfl) (by kernel_rfl) (fun _ _ _ h => h) (Or.inr ⟨by rfl, rfl⟩) hHeld ?_
        try simp only [Act.put, List.setIfInBounds_toArray, List.set_cons_zero, List.set_cons_succ]
        refine wpAnyH_take (i := 9) (oi := ⟨some 141, _, _, _, _, _⟩) (v := undef) rfl (by kernel_rfl) (by kernel_rfl) (by kernel_rfl) (fun _ _ _ h => h) (Or.inr ⟨by rfl, rfl⟩) hHeld ?_
        try simp only [Act.put, List.setIfInBounds_toArray, List.set_cons_zero, List.set_cons_succ]
        refine wpAnyH_take (i := 10) (oi := ⟨some 142, _, _, _, _, _⟩) (v := undef) rfl (by kernel_rfl) (by kernel_rfl) (by kernel_rfl) (fun _ _ _ h => h) (Or.inr ⟨by rfl, rfl⟩) hHeld ?_
        try simp only [Act.put, List.setIfInBounds_toArray, List.set_cons_zero, List.set_cons_succ]
        refine wpAnyH_take (i := 11) (oi := ⟨some 143, _, _, _, _, _⟩) (v := undef) rfl (by kernel_rfl) (by kernel_rfl) (by kernel_rfl) (fun _ _ _ h => h) (Or.inr ⟨by rfl, rfl⟩) hHeld ?_
        try simp only [Act.put, List.setIfInBounds_toArray, List.set_cons_zero, List.set_cons_succ]
        refine wpAnyH_take (i := 12) (oi := ⟨some 144, _, _, _, _, _⟩) (v := undef) rfl (by kernel_rfl) (by kernel_rfl) (by kernel_rfl) (fun _ _ _ h => h) (Or.inr ⟨by rfl, rfl⟩) hHeld ?_
        try simp only [Act.put, List.setIfInBounds_toArray, List.set_cons_zero, List.set_cons_succ]
        refine wpAnyH_take (i := 13) (oi := ⟨some 145, _, _, _, _, _⟩) (v := undef) rfl (by kernel_rfl) (by kernel_rfl) (by kernel_rfl) (fun _ _ _ h => h) (Or.inr ⟨by rfl, rfl⟩) hHeld ?_
        try simp only [Act.put, List.setIfInBounds_toArray, List.set_cons_zero, List.set_cons_succ]
        refine wpAnyH_take (i := 14) (oi := ⟨some 146, _, _, _, _, _⟩) (v := .bool false) rfl (by kernel_rfl) (by kernel_rfl) (by kernel_rfl) (fun _ _ _ h => h) (Or.inl ⟨by rfl, ?_⟩) hHeld ?_
        · intro ww hS
          try dsimp only at hS
          go_simp
          try with_reducible rfl
          try omega
        try simp only [Act.put, List.setIfInBounds_toArray, List.set_cons_zero, List.set_cons_succ]
        refine wpAnyH_done (by kernel_rfl) ?_ _
        clear hHeld
        go_wp2
        go_roundw
        case rel => exact ⟨k + 1, by omega, by go_num, L⟩
        case measure => simp [intOf]; omega
      · have f8 : ((k : Int) != (lf : Int)) = true := by simp; omega
        have hgk := Lib.hid (hgo.out k he)
        replace he := Lib.hid he
        go_upto_region 17 with (fail)
        replace L := L.drew
        refine wp_region_held_drew (S := fun w' => Loc w w' [(gQ, 42, opv ⟨A0_2, 0, c0_2, A1_2, n1_2, c1_2, A2_2, n2_2, c2_2, A3_2, n3_2, c3_2⟩ (s2)), (gP, 42, opv ⟨A0_1, 0, c0_1, A1_1, n1_1, c1_1, A2_1, n2_1, c2_1, A3_1, n3_1, c3_1⟩ ⟨1, 0, 0, 0, false, 3, 0, 0, (lf : Int), (F : Int), x, false, 0, 0, 0, 0⟩), (gO, 42, opv ⟨none, 0, 0, none, 0, 0, none, 0, 0, none, 0, 0⟩ ⟨1, 0, 0, 0, false, 2, 0, 0, (lf : Int), 0, 0, false, 0, 0, 0, 0⟩), (gH, 27, #[.int .u32 (a : Int), .int .i64 p, .slice A n c, .int .i64 sh, .int .i64 wo, .int .i64 qu, .int .i64 tr])] [iF .u32 w7.heap.size A0_2 0 c0_2 (⟨[], [], [], []⟩ : Ls).rqs, iF .u32 w7.heap.size A1_2 n1_2 c1_2 (⟨[], [], [], []⟩ : Ls).ads, iF .i64 w7.heap.size A2_2 n2_2 c2_2 (⟨[], [], [], []⟩ : Ls).ers, iF .u64 w7.heap.size A3_2 n3_2 c3_2 (⟨[], [], [], []⟩ : Ls).ses, uF (some ⟨ba, oa, none⟩) m d_2 (ys.set lf y), iF .u32 w5.heap.size A0_1 0 c0_1 (⟨[], [], [], []⟩ : Ls).rqs, iF .u32 w5.heap.size A1_1 n1_1 c1_1 (⟨[], [], [], []⟩ : Ls).ads, iF .i64 w5.heap.size A2_1 n2_1 c2_1 (⟨[], [], [], []⟩ : Ls).ers, iF .u64 w5.heap.size A3_1 n3_1 c3_1 (⟨[], [], [], []⟩ : Ls).ses, uF B_1 m d_1 ys]) (by kernel_rfl) L (fun hHeld => ?_)
        generalize wr.drew = v11 at hHeld L ⊢
        refine wpAnyH_take (i := 0) (oi := ⟨some 132, _, _, _, _, _⟩) (v := .int .i64 (k : Int)) rfl (by kernel_rfl) (by kernel_rfl) (by kernel_rfl) (fun _ _ _ h => h) (Or.inl ⟨by rfl, ?_⟩) hHeld ?_
        · intro ww hS
          try dsimp only at hS
          go_simp
          try with_reducible rfl
          try omega
        try simp only [Act.put, List.setIfInBounds_toArray, List.set_cons_zero, List.set_cons_succ]
        refine wpAnyH_take (i := 1) (oi := ⟨some 133, _, _, _, _, _⟩) (v := .pointer (some ⟨gO, 11, none⟩)) rfl (by kernel_rfl) (by kernel_rfl) (by kernel_rfl) (fun _ _ _ h => h) (Or.inl ⟨by rfl, ?_⟩) hHeld ?_
        · intro ww hS
          try dsimp only at hS
          go_simp
          try with_reducible rfl
          try omega
        try simp only [Act.put, List.setIfInBounds_toArray, List.set_cons_zero, List.set_cons_succ]
        refine wpAnyH_take (i := 2) (oi := ⟨some 134, _, _, _, _, _⟩) (v := .int .i64 (lf : Int)) rfl (by kernel_rfl) (by kernel_rfl) (by kernel_rfl) (fun _ _ _ h => h) (Or.inl ⟨by rfl, ?_⟩) hHeld ?_
        · intro ww hS
          try dsimp only at hS
          have O_11 := (hS).at_ 2 11 rfl (v := .int .i64 (lf : Int)) rfl
          have O_z := (hS).lt 2 rfl
          go_simp
          try with_reducible rfl
          try omega
        try simp only [Act.put, List.setIfInBounds_toArray, List.set_cons_zero, List.set_cons_succ]
        refine wpAnyH_take (i := 3) (oi := ⟨some 135, _, _, _, _, _⟩) (v := .bool true) rfl (by kernel_rfl) (by kernel_rfl) (by kernel_rfl) (fun _ _ _ h => h) (Or.inl ⟨by rfl, ?_⟩) hHeld ?_
        · intro ww hS
          try dsimp only at hS
          go_simp
          try with_reducible rfl
          try omega
        try simp only [Act.put, List.setIfInBounds_toArray, List.set_cons_zero, List.set_cons_succ]
        refine wpAnyH_take (i := 4) (oi := ⟨some 136, _, _, _, _, _⟩) (v := .bool true) rfl (by kernel_rfl) (by kernel_rfl) (by kernel_rfl) (fun _ _ _ h => h) (Or.inl ⟨by rfl, ?_⟩) hHeld ?_
        · intro ww hS
          try dsimp only at hS
          go_simp
          try with_reducible rfl
          try omega
        try simp only [Act.put, List.setIfInBounds_toArray, List.set_cons_zero, List.set_cons_succ]
        refine wpAnyH_take (i := 5) (oi := ⟨some 137, _, _, _, _, _⟩) (v := .slice (some ⟨ba, oa, none⟩) m d_2) rfl (by kernel_rfl) (by kernel_rfl) (by kernel_rfl) (fun _ _ _ h => h) (Or.inl ⟨by rfl, ?_⟩) hHeld ?_
        · intro ww hS
          try dsimp only at hS
          go_simp
          try with_reducible rfl
          try omega
        try simp only [Act.put, List.setIfInBounds_toArray, List.set_cons_zero, List.set_cons_succ]
        refine wpAnyH_take (i := 6) (oi := ⟨some 138, _, _, _, _, _⟩) (v := .int .i64 (k : Int)) rfl (by kernel_rfl) (by kernel_rfl) (by kernel_rfl) (fun _ _ _ h => h) (Or.inl ⟨by rfl, ?_⟩) hHeld ?_
        · intro ww hS
          try dsimp only at hS
          go_simp
          try with_reducible rfl
          try omega
        try simp only [Act.put, List.setIfInBounds_toArray, List.set_cons_zero, List.set_cons_succ]
        refine wpAnyH_take (i := 7) (oi := ⟨some 139, _, _, _, _, _⟩) (v := .pointer (some ⟨ba, oa + k, none⟩)) rfl (by kernel_rfl) (by kernel_rfl) (by kernel_rfl) (fun _ _ _ h => h) (Or.inl ⟨by rfl, ?_⟩) hHeld ?_
        · intro ww hS
          try dsimp only at hS
          go_simp
          try with_reducible rfl
          try omega
        try simp only [Act.put, List.setIfInBounds_toArray, List.set_cons_zero, List.set_cons_succ]
        refine wpAnyH_take (i := 8) (oi := ⟨some 140, _, _, _, _, _⟩) (v := .int .u64 (((gt ys k) : Nat) : Int)) rfl (by kernel_rfl) (by kernel_rfl) (by kernel_rfl) (fun _ _ _ h => h) (Or.inl ⟨by rfl, ?_⟩) hHeld ?_
        · intro ww hS
          try dsimp only at hS
          have X := (((hS)).us_ 4 rfl).here hlt
          rw [hgk.out] at X
          go_simp
          try with_reducible rfl
          try omega
        try simp only [Act.put, List.setIfInBounds_toArray, List.set_cons_zero, List.set_cons_succ]
        refine wpAnyH_take (i := 9) (oi := ⟨some 141, _, _, _, _, _⟩) (v := .slice (some ⟨bb, oo, none⟩) m d) rfl (by kernel_rfl) (by kernel_rfl) (by kernel_rfl) (fun _ _ _ h => h) (Or.inl ⟨by rfl, ?_⟩) hHeld ?_
        · intro ww hS
          try dsimp only at hS
          go_simp
          try with_reducible rfl
          try omega
        try simp only [Act.put, List.setIfInBounds_toArray, List.set_cons_zero, List.set_cons_succ]
        refine wpAnyH_take (i := 10) (oi := ⟨some 142, _, _, _, _, _⟩) (v := .int .i64 (k : Int)) rfl (by kernel_rfl) (by kernel_rfl) (by kernel_rfl) (fun _ _ _ h => h) (Or.inl ⟨by rfl, ?_⟩) hHeld ?_
        · intro ww hS
          try dsimp only at hS
          go_simp
          try with_reducible rfl
          try omega
        try simp only [Act.put, List.setIfInBounds_toArray, List.set_cons_zero, List.set_cons_succ]
        refine wpAnyH_take (i := 11) (oi := ⟨some 143, _, _, _, _, _⟩) (v := .pointer (some ⟨bb, oo + k, none⟩)) rfl (by kernel_rfl) (by kernel_rfl) (by kernel_rfl) (fun _ _ _ h => h) (Or.inl ⟨by rfl, ?_⟩) hHeld ?_
        · intro ww hS
          try dsimp only at hS
          go_simp
          try with_reducible rfl
          try omega
        try simp only [Act.put, List.setIfInBounds_toArray, List.set_cons_zero, List.set_cons_succ]
        refine wpAnyH_take (i := 12) (oi := ⟨some 144, _, _, _, _, _⟩) (v := .int .u64 (((gt ys k) : Nat) : Int)) rfl (by kernel_rfl) (by kernel_rfl) (by kernel_rfl) (fun _ _ _ h => h) (Or.inl ⟨by rfl, ?_⟩) hHeld ?_
        · intro ww hS
          try dsimp only at hS
          have X := (((hS)).K.cell (p := ⟨bb, oo + k, none⟩) hbb).trans (hU.here hlt)
          go_simp
          try with_reducible rfl
          try omega
        try simp only [Act.put, List.setIfInBounds_toArray, List.set_cons_zero, List.set_cons_succ]
        refine wpAnyH_take (i := 13) (oi := ⟨some 145, _, _, _, _, _⟩) (v := .bool false) rfl (by kernel_rfl) (by kernel_rfl) (by kernel_rfl) (fun _ _ _ h => h) (Or.inl ⟨by rfl, ?_⟩) hHeld ?_
        · intro ww hS
          try dsimp only at hS
          go_simp
          try with_reducible rfl
          try omega
        try simp only [Act.put, List.setIfInBounds_toArray, List.set_cons_zero, List.set_cons_succ]
        refine wpAnyH_take (i := 14) (oi := ⟨some 146, _, _, _, _, _⟩) (v := .bool false) rfl (by kernel_rfl) (by kernel_rfl) (by kernel_rfl) (fun _ _ _ h => h) (Or.inl ⟨by rfl, ?_⟩) hHeld ?_
        · intro ww hS
          try dsimp only at hS
          go_simp
          try with_reducible rfl
          try omega
        try simp only [Act.put, List.setIfInBounds_toArray, List.set_cons_zero, List.set_cons_succ]
        refine wpAnyH_done (by kernel_rfl) ?_ _
        clear hHeld
        go_wp2
        go_roundw
        case rel => exact ⟨k + 1, by omega, by go_num, L⟩
        case measure => simp [intOf]; omega
    · clear hk
      go_wp2_with (first | (refine wpList_load_row rfl 27 (.tmp 3) rfl gH rfl _ _ (0, 0) _ (L.bk_ 3 rfl) Try.underlying27 rfl cf_sz ?_) | (refine wpList_load_row rfl 42 (.tmp 12) rfl gP rfl _ _ (0, 0) _ (L.bk_ 1 rfl) Try.underlying42 rfl op_sz ?_))
      refine ((TK3 _ _ _ _ _ _ _ _ _ _ _ _ _ _ _ (L.us_ 4 rfl) (L.lists_at 5 rfl)).out).mono ?_
      rintro e w11 ⟨A0_3, c0_3, A1_3, n1_3, c1_3, A2_3, n2_3, c2_3, A3_3, n3_3, c3_3, B_3, d_3, rfl, U, L', hA, K'⟩
      have Lb := L.lts
      replace L := L.over K'
      replace L := L.us_av (fun i b e => hA b.1 (Lb i b e) (L.ap_ 4 rfl hm0 i b e)) U
      replace L := L.lists Lb L'
      clear Lb
      try dsimp only [lF, List.cons_append, List.nil_append] at L
      clear L' U hA
      go_upto_region 20 with (refine wpList_store_row rfl 42 (.tmp 19) (.tmp 153) rfl _ _ rfl (show _ = Value.agg (opv ⟨A0_3, 0, c0_3, A1_3, n1_3, c1_3, A2_3, n2_3, c2_3, A3_3, n3_3, c3_3⟩ ⟨1, 0, 0, 0, false, 2, 0, 0, (lf : Int), (F : Int), 0, false, 0, 0, 0, 0⟩) from rfl) _ _ (Bk.new _ _ _) op_sz rfl (opv_one _ _) ?_)
      try rw [World.setRow_alloc_new]
      replace L := (L).alloc (opv ⟨A0_3, 0, c0_3, A1_3, n1_3, c1_3, A2_3, n2_3, c2_3, A3_3, n3_3, c3_3⟩ ⟨1, 0, 0, 0, false, 2, 0, 0, (lf : Int), (F : Int), 0, false, 0, 0, 0, 0⟩) 42
      try simp only [World.size_alloc] at L
      try dsimp only [nput] at L
      generalize (w11).alloc (.cells (opv ⟨A0_3, 0, c0_3, A1_3, n1_3, c1_3, A2_3, n2_3, c2_3, A3_3, n3_3, c3_3⟩ ⟨1, 0, 0, 0, false, 2, 0, 0, (lf : Int), (F : Int), 0, false, 0, 0, 0, 0⟩) 42) = w12 at L ⊢
      generalize w11.heap.size = gR at L ⊢
      have R_8 := L.at_ 0 8 rfl (v := .int .i64 2) rfl
      have R_z := L.lt 0 rfl
      go_wp2_with fail
      refine (same_any (L.us_ 4 rfl) (L.us_ 9 rfl) hm6).mono ?_
      rintro e w13 ⟨rfl, K'⟩
      clear R_8 R_z
      replace L := L.over K'
      go_wp2_with (first | (refine wpList_load_row rfl 27 (.tmp 3) rfl gH rfl _ _ (0, 0) _ (L.bk_ 4 rfl) Try.underlying27 rfl cf_sz ?_) | (refine wpList_load_row rfl 42 (.tmp 19) rfl gR rfl _ _ (0, 0) _ (L.bk_ 0 rfl) Try.underlying42 rfl op_sz ?_))
      refine ((TK4 _ _ _ _ _ _ _ _ _ _ _ _ _ _ _ (L.us_ 9 rfl) (L.lists_at 0 rfl)).out).mono ?_
      rintro e w14 ⟨A0_4, c0_4, A1_4, n1_4, c1_4, A2_4, n2_4, c2_4, A3_4, n3_4, c3_4, B_4, d_4, rfl, U, L', hA, K'⟩
      have Lb := L.lts
      replace L := L.over K'
      replace L := L.us_av (fun i b e => hA b.1 (Lb i b e) (L.ap_ 9 rfl hm0 i b e)) U
      replace L := L.lists Lb L'
      clear Lb
      try dsimp only [lF, List.cons_append, List.nil_append] at L
      clear L' U hA
      go_upto_region 23 with (refine wpList_store_row rfl 42 (.tmp 22) (.tmp 173) rfl _ _ rfl (show _ = Value.agg (opv ⟨A0_4, 0, c0_4, A1_4, n1_4, c1_4, A2_4, n2_4, c2_4, A3_4, n3_4, c3_4⟩ ⟨1, 0, 0, 0, false, 3, 0, 0, (lf : Int), (F2 : Int), y, false, 0, 0, 0, 0⟩) from rfl) _ _ (Bk.new _ _ _) op_sz rfl (opv_one _ _) ?_)
      try rw [World.setRow_alloc_new]
      replace L := (L).alloc (opv ⟨A0_4, 0, c0_4, A1_4, n1_4, c1_4, A2_4, n2_4, c2_4, A3_4, n3_4, c3_4⟩ ⟨1, 0, 0, 0, false, 3, 0, 0, (lf : Int), (F2 : Int), y, false, 0, 0, 0, 0⟩) 42
      try simp only [World.size_alloc] at L
      try dsimp only [nput] at L
      generalize (w14).alloc (.cells (opv ⟨A0_4, 0, c0_4, A1_4, n1_4, c1_4, A2_4, n2_4, c2_4, A3_4, n3_4, c3_4⟩ ⟨1, 0, 0, 0, false, 3, 0, 0, (lf : Int), (F2 : Int), y, false, 0, 0, 0, 0⟩) 42) = w15 at L ⊢
      generalize w14.heap.size = gT at L ⊢
      replace L := L.drew
      refine wp_region_held_drew (S := fun w' => Loc w w' [(gT, 42, opv ⟨A0_4, 0, c0_4, A1_4, n1_4, c1_4, A2_4, n2_4, c2_4, A3_4, n3_4, c3_4⟩ ⟨1, 0, 0, 0, false, 3, 0, 0, (lf : Int), (F2 : Int), y, false, 0, 0, 0, 0⟩), (gR, 42, opv ⟨A0_3, 0, c0_3, A1_3, n1_3, c1_3, A2_3, n2_3, c2_3, A3_3, n3_3, c3_3⟩ ⟨1, 0, 0, 0, false, 2, 0, 0, (lf : Int), (F : Int), 0, false, 0, 0, 0, 0⟩), (gQ, 42, opv ⟨A0_2, 0, c0_2, A1_2, n1_2, c1_2, A2_2, n2_2, c2_2, A3_2, n3_2, c3_2⟩ (s2)), (gP, 42, opv ⟨A0_1, 0, c0_1, A1_1, n1_1, c1_1, A2_1, n2_1, c2_1, A3_1, n3_1, c3_1⟩ ⟨1, 0, 0, 0, false, 3, 0, 0, (lf : Int), (F : Int), x, false, 0, 0, 0, 0⟩), (gO, 42, opv ⟨none, 0, 0, none, 0, 0, none, 0, 0, none, 0, 0⟩ ⟨1, 0, 0, 0, false, 2, 0, 0, (lf : Int), 0, 0, false, 0, 0, 0, 0⟩), (gH, 27, #[.int .u32 (a : Int), .int .i64 p, .slice A n c, .int .i64 sh, .int .i64 wo, .int .i64 qu, .int .i64 tr])] [iF .u32 w13.heap.size A0_4 0 c0_4 (⟨[], [], [], []⟩ : Ls).rqs, iF .u32 w13.heap.size A1_4 n1_4 c1_4 (⟨[], [], [], []⟩ : Ls).ads, iF .i64 w13.heap.size A2_4 n2_4 c2_4 (⟨[], [], [], []⟩ : Ls).ers, iF .u64 w13.heap.size A3_4 n3_4 c3_4 (⟨[], [], [], []⟩ : Ls).ses, uF B_4 m d_4 (ys.set lf y), iF .u32 wr.heap.size A0_3 0 c0_3 (⟨[], [], [], []⟩ : Ls).rqs, iF .u32 wr.heap.size A1_3 n1_3 c1_3 (⟨[], [], [], []⟩ : Ls).ads, iF .i64 wr.heap.size A2_3 n2_3 c2_3 (⟨[], [], [], []⟩ : Ls).ers, iF .u64 wr.heap.size A3_3 n3_3 c3_3 (⟨[], [], [], []⟩ : Ls).ses, uF B_3 m d_3 (ys.set lf y), iF .u32 w7.heap.size A0_2 0 c0_2 (⟨[], [], [], []⟩ : Ls).rqs, iF .u32 w7.heap.size A1_2 n1_2 c1_2 (⟨[], [], [], []⟩ : Ls).ads, iF .i64 w7.heap.size A2_2 n2_2 c2_2 (⟨[], [], [], []⟩ : Ls).ers, iF .u64 w7.heap.size A3_2 n3_2 c3_2 (⟨[], [], [], []⟩ : Ls).ses, uF (some ⟨ba, oa, none⟩) m d_2 (ys.set lf y), iF .u32 w5.heap.size A0_1 0 c0_1 (⟨[], [], [], []⟩ : Ls).rqs, iF .u32 w5.heap.size A1_1 n1_1 c1_1 (⟨[], [], [], []⟩ : Ls).ads, iF .i64 w5.heap.size A2_1 n2_1 c2_1 (⟨[], [], [], []⟩ : Ls).ers, iF .u64 w5.heap.size A3_1 n3_1 c3_1 (⟨[], [], [], []⟩ : Ls).ses, uF B_1 m d_1 ys]) (by kernel_rfl) L (fun hHeld => ?_)
      generalize w15.drew = v16 at hHeld L ⊢
      refine wpAnyH_take (i := 0) (oi := ⟨some 175, _, _, _, _, _⟩) (v := .pointer (some ⟨gT, 8, none⟩)) rfl (by kernel_rfl) (by kernel_rfl) (by kernel_rfl) (fun _ _ _ h => h) (Or.inl ⟨by rfl, ?_⟩) hHeld ?_
      · intro ww hS
        try dsimp only at hS
        go_simp
        try with_reducible rfl
        try omega
      try simp only [Act.put, List.setIfInBounds_toArray, List.set_cons_zero, List.set_cons_succ]
      refine wpAnyH_take (i := 1) (oi := ⟨some 176, _, _, _, _, _⟩) (v := .int .i64 3) rfl (by kernel_rfl) (by kernel_rfl) (by kernel_rfl) (fun _ _ _ h => h) (Or.inl ⟨by rfl, ?_⟩) hHeld ?_
      · intro ww hS
        try dsimp only at hS
        have T_8 := (hS).at_ 0 8 rfl (v := .int .i64 3) rfl
        have T_z := (hS).lt 0 rfl
        go_simp
        try with_reducible rfl
        try omega
      try simp only [Act.put, List.setIfInBounds_toArray, List.set_cons_zero, List.set_cons_succ]
      refine wpAnyH_take (i := 2) (oi := ⟨some 177, _, _, _, _, _⟩) (v := .bool false) rfl (by kernel_rfl) (by kernel_rfl) (by kernel_rfl) (fun _ _ _ h => h) (Or.inl ⟨by rfl, ?_⟩) hHeld ?_
      · intro ww hS
        try dsimp only at hS
        go_simp
        try with_reducible rfl
        try omega
      try simp only [Act.put, List.setIfInBounds_toArray, List.set_cons_zero, List.set_cons_succ]
      refine wpAnyH_take (i := 3) (oi := ⟨some 178, _, _, _, _, _⟩) (v := .bool false) rfl (by kernel_rfl) (by kernel_rfl) (by kernel_rfl) (fun _ _ _ h => h) (Or.inl ⟨by rfl, ?_⟩) hHeld ?_
      · intro ww hS
        try dsimp only at hS
        go_simp
        try with_reducible rfl
        try omega
      try simp only [Act.put, List.setIfInBounds_toArray, List.set_cons_zero, List.set_cons_succ]
      refine wpAnyH_take (i := 4) (oi := ⟨some 179, _, _, _, _, _⟩) (v := .pointer (some ⟨gT, 12, none⟩)) rfl (by kernel_rfl) (by kernel_rfl) (by kernel_rfl) (fun _ _ _ h => h) (Or.inl ⟨by rfl, ?_⟩) hHeld ?_
      · intro ww hS
        try dsimp only at hS
        go_simp
        try with_reducible rfl
        try omega
      try simp only [Act.put, List.setIfInBounds_toArray, List.set_cons_zero, List.set_cons_succ]
      refine wpAnyH_take (i := 5) (oi := ⟨some 180, _, _, _, _, _⟩) (v := .int .i64 (F2 : Int)) rfl (by kernel_rfl) (by kernel_rfl) (by kernel_rfl) (fun _ _ _ h => h) (Or.inl ⟨by rfl, ?_⟩) hHeld ?_
      · intro ww hS
        try dsimp only at hS
        have T_12 := (hS).at_ 0 12 rfl (v := .int .i64 (F2 : Int)) rfl
        have T_z := (hS).lt 0 rfl
        go_simp
        try with_reducible rfl
        try omega
      try simp only [Act.put, List.setIfInBounds_toArray, List.set_cons_zero, List.set_cons_succ]
      refine wpAnyH_take (i := 6) (oi := ⟨some 181, _, _, _, _, _⟩) (v := .int .i64 (F : Int)) rfl (by kernel_rfl) (by kernel_rfl) (by kernel_rfl) (fun _ _ _ h => h) (Or.inl ⟨by rfl, ?_⟩) hHeld ?_
      · intro ww hS
        try dsimp only at hS
        go_simp
        try with_reducible rfl
        try omega
      try simp only [Act.put, List.setIfInBounds_toArray, List.set_cons_zero, List.set_cons_succ]
      refine wpAnyH_take (i := 7) (oi := ⟨some 182, _, _, _, _, _⟩) (v := .bool true) rfl (by kernel_rfl) (by kernel_rfl) (by kernel_rfl) (fun _ _ _ h => h) (Or.inl ⟨by rfl, ?_⟩) hHeld ?_
      · intro ww hS
        try dsimp only at hS
        go_simp
        try with_reducible rfl
        try omega
      try simp only [Act.put, List.setIfInBounds_toArray, List.set_cons_zero, List.set_cons_succ]
      refine wpAnyH_take (i := 8) (oi := ⟨some 183, _, _, _, _, _⟩) (v := .bool true) rfl (by kernel_rfl) (by kernel_rfl) (by kernel_rfl) (fun _ _ _ h => h) (Or.inl ⟨by rfl, ?_⟩) hHeld ?_
      · intro ww hS
        try dsimp only at hS
        go_simp
        try with_reducible rfl
        try omega
      try simp only [Act.put, List.setIfInBounds_toArray, List.set_cons_zero, List.set_cons_succ]
      refine wpAnyH_take (i := 9) (oi := ⟨some 184, _, _, _, _, _⟩) (v := .slice (some ⟨ba, oa, none⟩) m d_2) rfl (by kernel_rfl) (by kernel_rfl) (by kernel_rfl) (fun _ _ _ h => h) (Or.inl ⟨by rfl, ?_⟩) hHeld ?_
      · intro ww hS
        try dsimp only at hS
        go_simp
        try with_reducible rfl
        try omega
      try simp only [Act.put, List.setIfInBounds_toArray, List.set_cons_zero, List.set_cons_succ]
      refine wpAnyH_take (i := 10) (oi := ⟨some 185, _, _, _, _, _⟩) (v := .pointer (some ⟨gO, 11, none⟩)) rfl (by kernel_rfl) (by kernel_rfl) (by kernel_rfl) (fun _ _ _ h => h) (Or.inl ⟨by rfl, ?_⟩) hHeld ?_
      · intro ww hS
        try dsimp only at hS
        go_simp
        try with_reducible rfl
        try omega
      try simp only [Act.put, List.setIfInBounds_toArray, List.set_cons_zero, List.set_cons_succ]
      refine wpAnyH_take (i := 11) (oi := ⟨some 186, _, _, _, _, _⟩) (v := .int .i64 (lf : Int)) rfl (by kernel_rfl) (by kernel_rfl) (by kernel_rfl) (fun _ _ _ h => h) (Or.inl ⟨by rfl, ?_⟩) hHeld ?_
      · intro ww hS
        try dsimp only at hS
        have O_11 := (hS).at_ 4 11 rfl (v := .int .i64 (lf : Int)) rfl
        have O_z := (hS).lt 4 rfl
        go_simp
        try with_reducible rfl
        try omega
      try simp only [Act.put, List.setIfInBounds_toArray, List.set_cons_zero, List.set_cons_succ]
      refine wpAnyH_take (i := 12) (oi := ⟨some 187, _, _, _, _, _⟩) (v := .pointer (some ⟨ba, oa + lf, none⟩)) rfl (by kernel_rfl) (by kernel_rfl) (by kernel_rfl) (fun _ _ _ h => h) (Or.inl ⟨by rfl, ?_⟩) hHeld ?_
      · intro ww hS
        try dsimp only at hS
        go_simp
        try with_reducible rfl
        try omega
      try simp only [Act.put, List.setIfInBounds_toArray, List.set_cons_zero, List.set_cons_succ]
      refine wpAnyH_take (i := 13) (oi := ⟨some 188, _, _, _, _, _⟩) (v := .int .u64 ((y : Nat) : Int)) rfl (by kernel_rfl) (by kernel_rfl) (by kernel_rfl) (fun _ _ _ h => h) (Or.inl ⟨by rfl, ?_⟩) hHeld ?_
      · intro ww hS
        try dsimp only at hS
        have X := (((hS)).us_ 14 rfl).here hlm
        rw [hgy] at X
        go_simp
        try with_reducible rfl
        try omega
      try simp only [Act.put, List.setIfInBounds_toArray, List.set_cons_zero, List.set_cons_succ]
      refine wpAnyH_take (i := 14) (oi := ⟨some 189, _, _, _, _, _⟩) (v := .pointer (some ⟨gT, 12, none⟩)) rfl (by kernel_rfl) (by kernel_rfl) (by kernel_rfl) (fun _ _ _ h => h) (Or.inl ⟨by rfl, ?_⟩) hHeld ?_
      · intro ww hS
        try dsimp only at hS
        go_simp
        try with_reducible rfl
        try omega
      try simp only [Act.put, List.setIfInBounds_toArray, List.set_cons_zero, List.set_cons_succ]
      refine wpAnyH_take (i := 15) (oi := ⟨some 190, _, _, _, _, _⟩) (v := .int .i64 (F2 : Int)) rfl (by kernel_rfl) (by kernel_rfl) (by kernel_rfl) (fun _ _ _ h => h) (Or.inl ⟨by rfl, ?_⟩) hHeld ?_
      · intro ww hS
        try dsimp only at hS
        have T_12 := (hS).at_ 0 12 rfl (v := .int .i64 (F2 : Int)) rfl
        have T_z := (hS).lt 0 rfl
        go_simp
        try with_reducible rfl
        try omega
      try simp only [Act.put, List.setIfInBounds_toArray, List.set_cons_zero, List.set_cons_succ]
      refine wpAnyH_ready (rs := [16]) (by kernel_rfl) (by simp) ?_
      refine AllReadyH.cons (o := ⟨some 191, _, _, _, _, _⟩) rfl (fun K0 hK => ?_) AllReadyH.nil
      go_simp
      refine ((TH2 _).out).mono ?_
      rintro e w' ⟨rfl, rfl⟩
      refine hK.out _ _ L (fun hHeld' => ?_)
      clear hHeld hK K0
      have hHeld := hHeld'
      clear hHeld'
      try simp only [Act.put, List.setIfInBounds_toArray, List.set_cons_zero, List.set_cons_succ]
      refine wpAnyH_take (i := 17) (oi := ⟨some 192, _, _, _, _, _⟩) (v := .bool true) rfl (by kernel_rfl) (by kernel_rfl) (by kernel_rfl) (fun _ _ _ h => h) (Or.inl ⟨by rfl, ?_⟩) hHeld ?_
      · intro ww hS
        try dsimp only at hS
        go_simp
        try with_reducible rfl
        try omega
      try simp only [Act.put, List.setIfInBounds_toArray, List.set_cons_zero, List.set_cons_succ]
      refine wpAnyH_take (i := 18) (oi := ⟨some 193, _, _, _, _, _⟩) (v := .bool true) rfl (by kernel_rfl) (by kernel_rfl) (by kernel_rfl) (fun _ _ _ h => h) (Or.inl ⟨by rfl, ?_⟩) hHeld ?_
      · intro ww hS
        try dsimp only at hS
        go_simp
        try with_reducible rfl
        try omega
      try simp only [Act.put, List.setIfInBounds_toArray, List.set_cons_zero, List.set_cons_succ]
      refine wpAnyH_take (i := 19) (oi := ⟨some 194, _, _, _, _, _⟩) (v := .bool true) rfl (by kernel_rfl) (by kernel_rfl) (by kernel_rfl) (fun _ _ _ h => h) (Or.inl ⟨by rfl, ?_⟩) hHeld ?_
      · intro ww hS
        try dsimp only at hS
        go_simp
        try with_reducible rfl
        try omega
      try simp only [Act.put, List.setIfInBounds_toArray, List.set_cons_zero, List.set_cons_succ]
      refine wpAnyH_take (i := 20) (oi := ⟨some 6, _, _, _, _, _⟩) (v := .bool true) rfl (by kernel_rfl) (by kernel_rfl) (by kernel_rfl) (fun _ _ _ h => h) (Or.inl ⟨by rfl, ?_⟩) hHeld ?_
      · intro ww hS
        try dsimp only at hS
        go_simp
        try with_reducible rfl
        try omega
      try simp only [Act.put, List.setIfInBounds_toArray, List.set_cons_zero, List.set_cons_succ]
      refine wpAnyH_done (by kernel_rfl) ?_ _
      clear hHeld
      go_wp2
      go_ret
      exact ⟨rfl, L.K⟩
end
end Go.Proofs.Ytgpbdoegcagdaaa.claimOne
