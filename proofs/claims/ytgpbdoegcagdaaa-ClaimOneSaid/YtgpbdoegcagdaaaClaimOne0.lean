/-
  The walk of the law ClaimOne: for every configuration, cells and leaf it answers true.
-/
import Derived.Test.YtgpbdoegcagdaaaClaimAwake
namespace Go.Proofs.Ytgpbdoegcagdaaa.claimOne
open Go.RowKit
set_option linter.unusedVariables false
section
variable {w : World} {lo a m d X : Nat} {p sh wo qu tr : Int} {A B : Option Addr} {n c : Nat} {zs : List Int} {ys : List Nat}
/-- The leaf that is asked. -/
def lfO (p : Int) (X : Nat) : Nat := X % (1 + (2 ^ (32 - p.toNat) - 1) / 32)
theorem fit_of {X : Nat} {p : Int} {M : Nat} (h : M = 2 ^ (32 - p.toNat)) (h0 : 0 < M) : ∃ k q v lf : Nat, M = k + 1 ∧ (M : Int) - 1 = (k : Int) ∧ (k : Int) / 32 = (q : Int) ∧ 1 + (q : Int) = (v : Int) ∧ (X : Int) % (v : Int) = (lf : Int) ∧ lf = lfO p X ∧ lf < lv M := by
  refine ⟨M - 1, (M - 1) / 32, 1 + (M - 1) / 32, X % (1 + (M - 1) / 32), by omega, by omega, by omega, by omega, (Int.natCast_emod X _).symm, by unfold lfO; rw [h], ?_⟩
  have := Nat.mod_lt X (show 0 < 1 + (M - 1) / 32 by omega)
  unfold lv
  omega
theorem clm_ne {x F : Nat} (hx : x < 18446744073709551616) (hF : F < 32) (hb : x.testBit F = false) : clm x F ≠ x ∧ (clm x F).testBit F = true := by
  have e : (clm x F).testBit F = true := by rw [clm_bit _ _ hF]; simp
  exact ⟨(fun h => by rw [h, hb] at e; cases e), e⟩
def S0_ (lf : Nat) : Sc := ⟨1, 0, 0, 0, false, 2, 0, 0, (lf : Int), 0, 0, false, 0, 0, 0, 0⟩
theorem s2_of {a lf x F : Nat} (s : Sc) (hs : s = fndS (S0_ lf) x F) : (claimS a 0 [] x s).aad = (adr a lf F : Nat) ∧ ((claimS a 0 [] x s).phase == 4) = fl (clm x F) := by
  subst hs
  unfold claimS
  rw [if_pos (show x = (fndS (S0_ lf) x F).word from rfl)]
  show (if fl (clm x F) = true then fullS (adS (fndS (S0_ lf) x F) (adr a lf F)) else gon a 0 [] (adS (fndS (S0_ lf) x F) (adr a lf F))).aad = _ ∧ ((if fl (clm x F) = true then fullS (adS (fndS (S0_ lf) x F) (adr a lf F)) else gon a 0 [] (adS (fndS (S0_ lf) x F) (adr a lf F))).phase == 4) = _
  cases fl (clm x F) with
  | true => exact ⟨rfl, rfl⟩
  | false => exact ⟨rfl, rfl⟩
set_option maxRecDepth 100000 in
set_option maxHeartbeats 4000000 in
theorem nseek (ha : a < 4294967296) (h0 : IS .i64 lo w A n c zs) (hU : US w B m d ys) (hX : X < 65536) (hb : fb (gt ys (lfO p X)) 32 = false) (hlt : (0 : Int) + 1 < sh) :
    Calls Try.prog 3 #[.agg #[.int .u32 (a : Int), .int .i64 p, .slice A n c, .int .i64 sh, .int .i64 wo, .int .i64 qu, .int .i64 tr], .slice B m d, .int .u16 (X : Int)] w (RetBo true w) := by
  go_enter Try.func3, Try.ntmps3
  go_upto_region 1 with (fail)
  have L := Loc.start w
  replace L := (L).alloc #[.int .u32 (a : Int), .int .i64 p, .slice A n c, .int .i64 sh, .int .i64 wo, .int .i64 qu, .int .i64 tr] 27
  try simp only [World.size_alloc] at L
  try dsimp only [nput] at L
  generalize (w).alloc (.cells #[.int .u32 (a : Int), .int .i64 p, .slice A n c, .int .i64 sh, .int .i64 wo, .int .i64 qu, .int .i64 tr] 27) = w1 at L ⊢
  generalize w.heap.size = gH at L ⊢
  go_wp2_with fail
  refine (awake_any _).mono ?_
  rintro e w2 ⟨rfl, K'⟩
  replace L := L.over K'
  go_wp2_with (refine wpList_load_want (by rfl) 27 (.tmp 3) rfl gH rfl _ _ (0, 0) _ (L.bk_ 0 rfl) Try.underlying27 rfl cf_sz ?_)
  refine (fits_any ha (h0.below L.K)).mono ?_
  rintro e w3 ⟨bo, rfl, hB, K'⟩
  replace L := L.over K'
  rcases bo with _ | _
  · clear hB
    go_wp2_with fail
    refine (awake_any _).mono ?_
    rintro e w92 ⟨rfl, K'⟩
    replace L := L.over K'
    go_wp2
    go_ret
    exact ⟨rfl, L.K⟩
  replace hB := hB rfl
  unfold FitP at hB
  obtain ⟨M, hMe⟩ : ∃ M, M = 2 ^ (32 - p.toNat) := ⟨_, rfl⟩
  rw [← hMe] at hB
  obtain ⟨hM, hm4, hmm⟩ := hB
  obtain ⟨kM, q, v, lf, eM0, eM1, eM2, eM3, eM4, eM5, hlv⟩ := fit_of (X := X) hMe hM.pos
  rw [← eM5] at hb
  clear hMe eM5
  have hM4 := hM.most
  have hMp := hM.pos
  have hl3 := lv_le hM4
  have hm6 : m ≤ 65536 ∧ lf < m := by have := tv_le hM4; omega
  obtain ⟨hm6, hlm⟩ := hm6
  have hl9 := hU.len
  replace hmm := Lib.hid hmm
  replace eM0 := Lib.hid eM0
  have hm0 : 0 < m := by omega
  obtain ⟨bb, oo, hBe, hbb, hcc⟩ := hU.get hlm
  subst hBe
  have hlm2 : (lf : Int) < (m : Int) := by omega
  have hx64 := gt_lt hU.fit lf
  have TF := fun w => Lib.hid (wfirst_any (gt ys lf) hx64 w)
  simp only [hb] at TF
  have TK1 : ∀ w C e lo1 A0 c0 A1 n1 c1 A2 n2 c2 A3 n3 c3, US w C m e ys → Lists lo1 w ⟨A0, 0, c0, A1, n1, c1, A2, n2, c2, A3, n3, c3⟩ ⟨[], [], [], []⟩ → Hid (Calls Try.prog 11 #[.agg #[.int .u32 (a : Int), .int .i64 p, .slice A n c, .int .i64 sh, .int .i64 wo, .int .i64 qu, .int .i64 tr], .slice C m e, .agg (opv ⟨A0, 0, c0, A1, n1, c1, A2, n2, c2, A3, n3, c3⟩ ⟨1, 0, 0, 0, false, 2, 0, 0, (lf : Int), 0, 0, false, 0, 0, 0, 0⟩)] w (RetStp w.heap.size 0 ⟨1, 0, 0, 0, false, 1, 0, 1, (lf : Int), 0, 0, false, 0, 0, 0, 0⟩ ⟨[], [], [], []⟩ m ys false C w)) := fun w C e lo1 A0 c0 A1 n1 c1 A2 n2 c2 A3 n3 c3 U L => by have := cstep_seek (a := a) (p := p) (sh := sh) (wo := wo) (qu := qu) (tr := tr) (A := A) (n := n) (c := c) (w := w) (lo := lo1) (h := ⟨A0, 0, c0, A1, n1, c1, A2, n2, c2, A3, n3, c3⟩) (s := ⟨1, 0, 0, 0, false, 2, 0, 0, (lf : Int), 0, 0, false, 0, 0, 0, 0⟩) (l := ⟨[], [], [], []⟩) L (Nat.zero_le _) (no_items L.i1) (no_items L.i2) (no_items L.i3) U rfl hlm (by show (0 : Int) ≤ 0; omega) (by show (0 : Int) ≤ 65536; omega) rfl hb (by show (0 : Int) + 1 < sh; omega); exact this
  clear hb
  have XC : ∀ w2, Below w.heap.size w w2 → w2.cell? ⟨bb, oo + lf, none⟩ = some (.int .u64 ((gt ys lf : Nat) : Int)) := fun w2 K => (K.cell (p := ⟨bb, oo + lf, none⟩) hbb).trans hcc
  replace XC := Lib.hid XC
  clear hcc
  have H_0 := L.at_ 0 0 rfl (v := .int .u32 (a : Int)) rfl
  have H_1 := L.at_ 0 1 rfl (v := .int .i64 p) rfl
  have H_z := L.lt 0 rfl
  go_wp2_with fail
  refine (rmany_yes hM).mono ?_
  rintro e w4 ⟨rfl, K'⟩
  clear H_0 H_1 H_z
  replace L := L.over K'
  go_upto_region 5 with (refine wpList_store_row rfl 42 (.tmp 8) (.tmp 44) rfl _ _ rfl (show _ = Value.agg (opv ⟨none, 0, 0, none, 0, 0, none, 0, 0, none, 0, 0⟩ ⟨1, 0, 0, 0, false, 2, 0, 0, (lf : Int), 0, 0, false, 0, 0, 0, 0⟩) from rfl) _ _ (Bk.new _ _ _) op_sz rfl (opv_one _ _) ?_)
  try rw [World.setRow_alloc_new]
  replace L := (L).alloc (opv ⟨none, 0, 0, none, 0, 0, none, 0, 0, none, 0, 0⟩ ⟨1, 0, 0, 0, false, 2, 0, 0, (lf : Int), 0, 0, false, 0, 0, 0, 0⟩) 42
  try simp only [World.size_alloc] at L
  try dsimp only [nput] at L
  generalize (w4).alloc (.cells (opv ⟨none, 0, 0, none, 0, 0, none, 0, 0, none, 0, 0⟩ ⟨1, 0, 0, 0, false, 2, 0, 0, (lf : Int), 0, 0, false, 0, 0, 0, 0⟩) 42) = w5 at L ⊢
  generalize w4.heap.size = gO at L ⊢
  have O_11 := L.at_ 0 11 rfl (v := .int .i64 (lf : Int)) rfl
  have O_z := L.lt 0 rfl
  have X := XC.out _ L.K
  go_wp2_with fail
  refine ((TF _).out).mono ?_
  rintro e w' ⟨rfl, rfl⟩
  clear O_11 O_z X
  go_wp2_with (first | (refine wpList_load_row rfl 27 (.tmp 3) rfl gH rfl _ _ (0, 0) _ (L.bk_ 1 rfl) Try.underlying27 rfl cf_sz ?_) | (refine wpList_load_row rfl 42 (.tmp 8) rfl gO rfl _ _ (0, 0) _ (L.bk_ 0 rfl) Try.underlying42 rfl op_sz ?_))
  refine ((TK1 _ _ _ _ _ _ _ _ _ _ _ _ _ _ _ (hU.below L.K) (Lists.hd0 (lo := 0) _)).out).mono ?_
  rintro e w6 ⟨A0_1, c0_1, A1_1, n1_1, c1_1, A2_1, n2_1, c2_1, A3_1, n3_1, c3_1, B_1, d_1, rfl, U, L', hA, K'⟩
  have Lb := L.lts
  replace L := L.over K'
  replace L := L.us_av (fun i b e => hA b.1 (Lb i b e) (hU.apart0 hm0 L i b e)) U
  replace L := L.lists Lb L'
  clear Lb
  try dsimp only [lF, List.cons_append, List.nil_append] at L
  clear L' U hA
  go_upto_region 7 with (refine wpList_store_row rfl 42 (.tmp 12) (.tmp 60) rfl _ _ rfl (show _ = Value.agg (opv ⟨A0_1, 0, c0_1, A1_1, n1_1, c1_1, A2_1, n2_1, c2_1, A3_1, n3_1, c3_1⟩ ⟨1, 0, 0, 0, false, 1, 0, 1, (lf : Int), 0, 0, false, 0, 0, 0, 0⟩) from rfl) _ _ (Bk.new _ _ _) op_sz rfl (opv_one _ _) ?_)
  try rw [World.setRow_alloc_new]
  replace L := (L).alloc (opv ⟨A0_1, 0, c0_1, A1_1, n1_1, c1_1, A2_1, n2_1, c2_1, A3_1, n3_1, c3_1⟩ ⟨1, 0, 0, 0, false, 1, 0, 1, (lf : Int), 0, 0, false, 0, 0, 0, 0⟩) 42
  try simp only [World.size_alloc] at L
  try dsimp only [nput] at L
  generalize (w6).alloc (.cells (opv ⟨A0_1, 0, c0_1, A1_1, n1_1, c1_1, A2_1, n2_1, c2_1, A3_1, n3_1, c3_1⟩ ⟨1, 0, 0, 0, false, 1, 0, 1, (lf : Int), 0, 0, false, 0, 0, 0, 0⟩) 42) = w7 at L ⊢
  generalize w6.heap.size = gP at L ⊢
  have P_8 := L.at_ 0 8 rfl (v := .int .i64 1) rfl
  have P_z := L.lt 0 rfl
  go_wp2_with fail
  clear P_8 P_z
  go_ret
  exact ⟨rfl, L.K⟩
set_option maxRecDepth 100000 in
set_option maxHeartbeats 4000000 in
theorem nfirst (ha : a < 4294967296) (h0 : IS .i64 lo w A n c zs) (hU : US w B m d ys) (hX : X < 65536) (hb : fb (gt ys (lfO p X)) 32 = false) (hlt : ¬ (0 : Int) + 1 < sh) :
    Calls Try.prog 3 #[.agg #[.int .u32 (a : Int), .int .i64 p, .slice A n c, .int .i64 sh, .int .i64 wo, .int .i64 qu, .int .i64 tr], .slice B m d, .int .u16 (X : Int)] w (RetBo true w) := by
  go_enter Try.func3, Try.ntmps3
  go_upto_region 1 with (fail)
  have L := Loc.start w
  replace L := (L).alloc #[.int .u32 (a : Int), .int .i64 p, .slice A n c, .int .i64 sh, .int .i64 wo, .int .i64 qu, .int .i64 tr] 27
  try simp only [World.size_alloc] at L
  try dsimp only [nput] at L
  generalize (w).alloc (.cells #[.int .u32 (a : Int), .int .i64 p, .slice A n c, .int .i64 sh, .int .i64 wo, .int .i64 qu, .int .i64 tr] 27) = w1 at L ⊢
  generalize w.heap.size = gH at L ⊢
  go_wp2_with fail
  refine (awake_any _).mono ?_
  rintro e w2 ⟨rfl, K'⟩
  replace L := L.over K'
  go_wp2_with (refine wpList_load_want (by rfl) 27 (.tmp 3) rfl gH rfl _ _ (0, 0) _ (L.bk_ 0 rfl) Try.underlying27 rfl cf_sz ?_)
  refine (fits_any ha (h0.below L.K)).mono ?_
  rintro e w3 ⟨bo, rfl, hB, K'⟩
  replace L := L.over K'
  rcases bo with _ | _
  · clear hB
    go_wp2_with fail
    refine (awake_any _).mono ?_
    rintro e w92 ⟨rfl, K'⟩
    replace L := L.over K'
    go_wp2
    go_ret
    exact ⟨rfl, L.K⟩
  replace hB := hB rfl
  unfold FitP at hB
  obtain ⟨M, hMe⟩ : ∃ M, M = 2 ^ (32 - p.toNat) := ⟨_, rfl⟩
  rw [← hMe] at hB
  obtain ⟨hM, hm4, hmm⟩ := hB
  obtain ⟨kM, q, v, lf, eM0, eM1, eM2, eM3, eM4, eM5, hlv⟩ := fit_of (X := X) hMe hM.pos
  rw [← eM5] at hb
  clear hMe eM5
  have hM4 := hM.most
  have hMp := hM.pos
  have hl3 := lv_le hM4
  have hm6 : m ≤ 65536 ∧ lf < m := by have := tv_le hM4; omega
  obtain ⟨hm6, hlm⟩ := hm6
  have hl9 := hU.len
  replace hmm := Lib.hid hmm
  replace eM0 := Lib.hid eM0
  have hm0 : 0 < m := by omega
  obtain ⟨bb, oo, hBe, hbb, hcc⟩ := hU.get hlm
  subst hBe
  have hlm2 : (lf : Int) < (m : Int) := by omega
  have hx64 := gt_lt hU.fit lf
  have TF := fun w => Lib.hid (wfirst_any (gt ys lf) hx64 w)
  simp only [hb] at TF
  have TK1 : ∀ w C e lo1 A0 c0 A1 n1 c1 A2 n2 c2 A3 n3 c3, US w C m e ys → Lists lo1 w ⟨A0, 0, c0, A1, n1, c1, A2, n2, c2, A3, n3, c3⟩ ⟨[], [], [], []⟩ → Hid (Calls Try.prog 11 #[.agg #[.int .u32 (a : Int), .int .i64 p, .slice A n c, .int .i64 sh, .int .i64 wo, .int .i64 qu, .int .i64 tr], .slice C m e, .agg (opv ⟨A0, 0, c0, A1, n1, c1, A2, n2, c2, A3, n3, c3⟩ ⟨1, 0, 0, 0, false, 2, 0, 0, (lf : Int), 0, 0, false, 0, 0, 0, 0⟩)] w (RetStp w.heap.size 0 ⟨1, 0, 0, 0, false, 6, 0, 1, (lf : Int), 0, 0, false, 0, 0, 0, 0⟩ ⟨[], [], [], []⟩ m ys false C w)) := fun w C e lo1 A0 c0 A1 n1 c1 A2 n2 c2 A3 n3 c3 U L => by have := cstep_first (a := a) (p := p) (sh := sh) (wo := wo) (qu := qu) (tr := tr) (A := A) (n := n) (c := c) (w := w) (lo := lo1) (h := ⟨A0, 0, c0, A1, n1, c1, A2, n2, c2, A3, n3, c3⟩) (s := ⟨1, 0, 0, 0, false, 2, 0, 0, (lf : Int), 0, 0, false, 0, 0, 0, 0⟩) (l := ⟨[], [], [], []⟩) L (Nat.zero_le _) (no_items L.i1) (no_items L.i2) (no_items L.i3) U rfl hlm (by show (0 : Int) ≤ 0; omega) (by show (0 : Int) ≤ 65536; omega) rfl hb (by show ¬ (0 : Int) + 1 < sh; omega); exact this
  clear hb
  have XC : ∀ w2, Below w.heap.size w w2 → w2.cell? ⟨bb, oo + lf, none⟩ = some (.int .u64 ((gt ys lf : Nat) : Int)) := fun w2 K => (K.cell (p := ⟨bb, oo + lf, none⟩) hbb).trans hcc
  replace XC := Lib.hid XC
  clear hcc
  have H_0 := L.at_ 0 0 rfl (v := .int .u32 (a : Int)) rfl
  have H_1 := L.at_ 0 1 rfl (v := .int .i64 p) rfl
  have H_z := L.lt 0 rfl
  go_wp2_with fail
  refine (rmany_yes hM).mono ?_
  rintro e w4 ⟨rfl, K'⟩
  clear H_0 H_1 H_z
  replace L := L.over K'
  go_upto_region 5 with (refine wpList_store_row rfl 42 (.tmp 8) (.tmp 44) rfl _ _ rfl (show _ = Value.agg (opv ⟨none, 0, 0, none, 0, 0, none, 0, 0, none, 0, 0⟩ ⟨1, 0, 0, 0, false, 2, 0, 0, (lf : Int), 0, 0, false, 0, 0, 0, 0⟩) from rfl) _ _ (Bk.new _ _ _) op_sz rfl (opv_one _ _) ?_)
  try rw [World.setRow_alloc_new]
  replace L := (L).alloc (opv ⟨none, 0, 0, none, 0, 0, none, 0, 0, none, 0, 0⟩ ⟨1, 0, 0, 0, false, 2, 0, 0, (lf : Int), 0, 0, false, 0, 0, 0, 0⟩) 42
  try simp only [World.size_alloc] at L
  try dsimp only [nput] at L
  generalize (w4).alloc (.cells (opv ⟨none, 0, 0, none, 0, 0, none, 0, 0, none, 0, 0⟩ ⟨1, 0, 0, 0, false, 2, 0, 0, (lf : Int), 0, 0, false, 0, 0, 0, 0⟩) 42) = w5 at L ⊢
  generalize w4.heap.size = gO at L ⊢
  have O_11 := L.at_ 0 11 rfl (v := .int .i64 (lf : Int)) rfl
  have O_z := L.lt 0 rfl
  have X := XC.out _ L.K
  go_wp2_with fail
  refine ((TF _).out).mono ?_
  rintro e w' ⟨rfl, rfl⟩
  clear O_11 O_z X
  go_wp2_with (first | (refine wpList_load_row rfl 27 (.tmp 3) rfl gH rfl _ _ (0, 0) _ (L.bk_ 1 rfl) Try.underlying27 rfl cf_sz ?_) | (refine wpList_load_row rfl 42 (.tmp 8) rfl gO rfl _ _ (0, 0) _ (L.bk_ 0 rfl) Try.underlying42 rfl op_sz ?_))
  refine ((TK1 _ _ _ _ _ _ _ _ _ _ _ _ _ _ _ (hU.below L.K) (Lists.hd0 (lo := 0) _)).out).mono ?_
  rintro e w6 ⟨A0_1, c0_1, A1_1, n1_1, c1_1, A2_1, n2_1, c2_1, A3_1, n3_1, c3_1, B_1, d_1, rfl, U, L', hA, K'⟩
  have Lb := L.lts
  replace L := L.over K'
  replace L := L.us_av (fun i b e => hA b.1 (Lb i b e) (hU.apart0 hm0 L i b e)) U
  replace L := L.lists Lb L'
  clear Lb
  try dsimp only [lF, List.cons_append, List.nil_append] at L
  clear L' U hA
  go_upto_region 7 with (refine wpList_store_row rfl 42 (.tmp 12) (.tmp 60) rfl _ _ rfl (show _ = Value.agg (opv ⟨A0_1, 0, c0_1, A1_1, n1_1, c1_1, A2_1, n2_1, c2_1, A3_1, n3_1, c3_1⟩ ⟨1, 0, 0, 0, false, 6, 0, 1, (lf : Int), 0, 0, false, 0, 0, 0, 0⟩) from rfl) _ _ (Bk.new _ _ _) op_sz rfl (opv_one _ _) ?_)
  try rw [World.setRow_alloc_new]
  replace L := (L).alloc (opv ⟨A0_1, 0, c0_1, A1_1, n1_1, c1_1, A2_1, n2_1, c2_1, A3_1, n3_1, c3_1⟩ ⟨1, 0, 0, 0, false, 6, 0, 1, (lf : Int), 0, 0, false, 0, 0, 0, 0⟩) 42
  try simp only [World.size_alloc] at L
  try dsimp only [nput] at L
  generalize (w6).alloc (.cells (opv ⟨A0_1, 0, c0_1, A1_1, n1_1, c1_1, A2_1, n2_1, c2_1, A3_1, n3_1, c3_1⟩ ⟨1, 0, 0, 0, false, 6, 0, 1, (lf : Int), 0, 0, false, 0, 0, 0, 0⟩) 42) = w7 at L ⊢
  generalize w6.heap.size = gP at L ⊢
  have P_8 := L.at_ 0 8 rfl (v := .int .i64 6) rfl
  have P_z := L.lt 0 rfl
  go_wp2_with fail
  clear P_8 P_z
  go_ret
  exact ⟨rfl, L.K⟩
set_option maxRecDepth 100000 in
set_option maxHeartbeats 4000000 in
theorem outs (ha : a < 4294967296) (h0 : IS .i64 lo w A n c zs) (hU : US w B m d ys) (hX : X < 65536) (hb : fb (gt ys (lfO p X)) 32 = true) (ho : 2 ^ (32 - p.toNat) ≤ 32 * lfO p X + fi (gt ys (lfO p X)) 32) :
    Calls Try.prog 3 #[.agg #[.int .u32 (a : Int), .int .i64 p, .slice A n c, .int .i64 sh, .int .i64 wo, .int .i64 qu, .int .i64 tr], .slice B m d, .int .u16 (X : Int)] w (RetBo true w) := by
  go_enter Try.func3, Try.ntmps3
  go_upto_region 1 with (fail)
  have L := Loc.start w
  replace L := (L).alloc #[.int .u32 (a : Int), .int .i64 p, .slice A n c, .int .i64 sh, .int .i64 wo, .int .i64 qu, .int .i64 tr] 27
  try simp only [World.size_alloc] at L
  try dsimp only [nput] at L
  generalize (w).alloc (.cells #[.int .u32 (a : Int), .int .i64 p, .slice A n c, .int .i64 sh, .int .i64 wo, .int .i64 qu, .int .i64 tr] 27) = w1 at L ⊢
  generalize w.heap.size = gH at L ⊢
  go_wp2_with fail
  refine (awake_any _).mono ?_
  rintro e w2 ⟨rfl, K'⟩
  replace L := L.over K'
  go_wp2_with (refine wpList_load_want (by rfl) 27 (.tmp 3) rfl gH rfl _ _ (0, 0) _ (L.bk_ 0 rfl) Try.underlying27 rfl cf_sz ?_)
  refine (fits_any ha (h0.below L.K)).mono ?_
  rintro e w3 ⟨bo, rfl, hB, K'⟩
  replace L := L.over K'
  rcases bo with _ | _
  · clear hB
    go_wp2_with fail
    refine (awake_any _).mono ?_
    rintro e w92 ⟨rfl, K'⟩
    replace L := L.over K'
    go_wp2
    go_ret
    exact ⟨rfl, L.K⟩
  replace hB := hB rfl
  unfold FitP at hB
  obtain ⟨M, hMe⟩ : ∃ M, M = 2 ^ (32 - p.toNat) := ⟨_, rfl⟩
  rw [← hMe] at hB ho
  obtain ⟨hM, hm4, hmm⟩ := hB
  obtain ⟨kM, q, v, lf, eM0, eM1, eM2, eM3, eM4, eM5, hlv⟩ := fit_of (X := X) hMe hM.pos
  rw [← eM5] at hb ho
  clear hMe eM5
  have hM4 := hM.most
  have hMp := hM.pos
  have hl3 := lv_le hM4
  have hm6 : m ≤ 65536 ∧ lf < m := by have := tv_le hM4; omega
  obtain ⟨hm6, hlm⟩ := hm6
  have hl9 := hU.len
  replace hmm := Lib.hid hmm
  replace eM0 := Lib.hid eM0
  have hm0 : 0 < m := by omega
  obtain ⟨bb, oo, hBe, hbb, hcc⟩ := hU.get hlm
  subst hBe
  have hlm2 : (lf : Int) < (m : Int) := by omega
  have hx64 := gt_lt hU.fit lf
  have TF := fun w => Lib.hid (wfirst_any (gt ys lf) hx64 w)
  simp only [hb] at TF
  have hfy := f_yes hb
  obtain ⟨x, hx⟩ : ∃ x, x = gt ys lf := ⟨_, rfl⟩
  obtain ⟨F, hF⟩ : ∃ F, F = fi (gt ys lf) 32 := ⟨_, rfl⟩
  have TK1 : ∀ w C e lo1 A0 c0 A1 n1 c1 A2 n2 c2 A3 n3 c3, US w C m e ys → Lists lo1 w ⟨A0, 0, c0, A1, n1, c1, A2, n2, c2, A3, n3, c3⟩ ⟨[], [], [], []⟩ → Hid (Calls Try.prog 11 #[.agg #[.int .u32 (a : Int), .int .i64 p, .slice A n c, .int .i64 sh, .int .i64 wo, .int .i64 qu, .int .i64 tr], .slice C m e, .agg (opv ⟨A0, 0, c0, A1, n1, c1, A2, n2, c2, A3, n3, c3⟩ ⟨1, 0, 0, 0, false, 2, 0, 0, (lf : Int), 0, 0, false, 0, 0, 0, 0⟩)] w (RetStp w.heap.size 0 ⟨1, 0, 0, 0, false, 3, 0, 0, (lf : Int), (F : Int), x, false, 0, 0, 0, 0⟩ ⟨[], [], [], []⟩ m ys false C w)) := fun w C e lo1 A0 c0 A1 n1 c1 A2 n2 c2 A3 n3 c3 U L => by have := cstep_found (a := a) (p := p) (sh := sh) (wo := wo) (qu := qu) (tr := tr) (A := A) (n := n) (c := c) (w := w) (lo := lo1) (h := ⟨A0, 0, c0, A1, n1, c1, A2, n2, c2, A3, n3, c3⟩) (s := ⟨1, 0, 0, 0, false, 2, 0, 0, (lf : Int), 0, 0, false, 0, 0, 0, 0⟩) (l := ⟨[], [], [], []⟩) L (Nat.zero_le _) (no_items L.i1) (no_items L.i2) (no_items L.i3) U rfl hlm (by show (0 : Int) ≤ 0; omega) (by show (0 : Int) ≤ 65536; omega) rfl hb; rw [← hF, ← hx] at this; exact this
  rw [← hF] at TF hfy ho
  rw [← hx] at TF hfy hx64
  have hF5 : F < 32 := hfy.1
  have hxF := hfy.2.1
  clear hfy hF hb
  have f3 : decide ((M : Int) ≤ 32 * (lf : Int) + (F : Int)) = true := by simp; omega
  clear ho
  have XC : ∀ w2, Below w.heap.size w w2 → w2.cell? ⟨bb, oo + lf, none⟩ = some (.int .u64 ((x : Nat) : Int)) := fun w2 K => by rw [hx]; exact (K.cell (p := ⟨bb, oo + lf, none⟩) hbb).trans hcc
  replace XC := Lib.hid XC
  clear hx hcc
  have H_0 := L.at_ 0 0 rfl (v := .int .u32 (a : Int)) rfl
  have H_1 := L.at_ 0 1 rfl (v := .int .i64 p) rfl
  have H_z := L.lt 0 rfl
  go_wp2_with fail
  refine (rmany_yes hM).mono ?_
  rintro e w4 ⟨rfl, K'⟩
  clear H_0 H_1 H_z
  replace L := L.over K'
  go_upto_region 5 with (refine wpList_store_row rfl 42 (.tmp 8) (.tmp 44) rfl _ _ rfl (show _ = Value.agg (opv ⟨none, 0, 0, none, 0, 0, none, 0, 0, none, 0, 0⟩ ⟨1, 0, 0, 0, false, 2, 0, 0, (lf : Int), 0, 0, false, 0, 0, 0, 0⟩) from rfl) _ _ (Bk.new _ _ _) op_sz rfl (opv_one _ _) ?_)
  try rw [World.setRow_alloc_new]
  replace L := (L).alloc (opv ⟨none, 0, 0, none, 0, 0, none, 0, 0, none, 0, 0⟩ ⟨1, 0, 0, 0, false, 2, 0, 0, (lf : Int), 0, 0, false, 0, 0, 0, 0⟩) 42
  try simp only [World.size_alloc] at L
  try dsimp only [nput] at L
  generalize (w4).alloc (.cells (opv ⟨none, 0, 0, none, 0, 0, none, 0, 0, none, 0, 0⟩ ⟨1, 0, 0, 0, false, 2, 0, 0, (lf : Int), 0, 0, false, 0, 0, 0, 0⟩) 42) = w5 at L ⊢
  generalize w4.heap.size = gO at L ⊢
  have O_11 := L.at_ 0 11 rfl (v := .int .i64 (lf : Int)) rfl
  have O_z := L.lt 0 rfl
  have X := XC.out _ L.K
  go_wp2_with fail
  refine ((TF _).out).mono ?_
  rintro e w' ⟨rfl, rfl⟩
  clear O_11 O_z X
  go_wp2_with (first | (refine wpList_load_row rfl 27 (.tmp 3) rfl gH rfl _ _ (0, 0) _ (L.bk_ 1 rfl) Try.underlying27 rfl cf_sz ?_) | (refine wpList_load_row rfl 42 (.tmp 8) rfl gO rfl _ _ (0, 0) _ (L.bk_ 0 rfl) Try.underlying42 rfl op_sz ?_))
  refine ((TK1 _ _ _ _ _ _ _ _ _ _ _ _ _ _ _ (hU.below L.K) (Lists.hd0 (lo := 0) _)).out).mono ?_
  rintro e w6 ⟨A0_1, c0_1, A1_1, n1_1, c1_1, A2_1, n2_1, c2_1, A3_1, n3_1, c3_1, B_1, d_1, rfl, U, L', hA, K'⟩
  have Lb := L.lts
  replace L := L.over K'
  replace L := L.us_av (fun i b e => hA b.1 (Lb i b e) (hU.apart0 hm0 L i b e)) U
  replace L := L.lists Lb L'
  clear Lb
  try dsimp only [lF, List.cons_append, List.nil_append] at L
  clear L' U hA
  go_upto_region 7 with (refine wpList_store_row rfl 42 (.tmp 12) (.tmp 60) rfl _ _ rfl (show _ = Value.agg (opv ⟨A0_1, 0, c0_1, A1_1, n1_1, c1_1, A2_1, n2_1, c2_1, A3_1, n3_1, c3_1⟩ ⟨1, 0, 0, 0, false, 3, 0, 0, (lf : Int), (F : Int), x, false, 0, 0, 0, 0⟩) from rfl) _ _ (Bk.new _ _ _) op_sz rfl (opv_one _ _) ?_)
  try rw [World.setRow_alloc_new]
  replace L := (L).alloc (opv ⟨A0_1, 0, c0_1, A1_1, n1_1, c1_1, A2_1, n2_1, c2_1, A3_1, n3_1, c3_1⟩ ⟨1, 0, 0, 0, false, 3, 0, 0, (lf : Int), (F : Int), x, false, 0, 0, 0, 0⟩) 42
  try simp only [World.size_alloc] at L
  try dsimp only [nput] at L
  generalize (w6).alloc (.cells (opv ⟨A0_1, 0, c0_1, A1_1, n1_1, c1_1, A2_1, n2_1, c2_1, A3_1, n3_1, c3_1⟩ ⟨1, 0, 0, 0, false, 3, 0, 0, (lf : Int), (F : Int), x, false, 0, 0, 0, 0⟩) 42) = w7 at L ⊢
  generalize w6.heap.size = gP at L ⊢
  have P_8 := L.at_ 0 8 rfl (v := .int .i64 3) rfl
  have O_11 := L.at_ 1 11 rfl (v := .int .i64 (lf : Int)) rfl
  have P_z := L.lt 0 rfl
  have O_z := L.lt 1 rfl
  go_wp2_with fail
  clear P_8 O_11 P_z O_z
  go_ret
  exact ⟨rfl, L.K⟩
end
end Go.Proofs.Ytgpbdoegcagdaaa.claimOne
