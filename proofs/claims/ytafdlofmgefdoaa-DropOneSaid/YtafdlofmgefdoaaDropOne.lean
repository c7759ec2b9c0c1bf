/-
  The walk of the law DropOne: for every configuration, cells and offset it answers true.
-/
import Derived.Test.YtafdlofmgefdoaaDropAwake
namespace Go.Proofs.Ytafdlofmgefdoaa.dropOne
open Go.RowKit
set_option linter.unusedVariables false
section
variable {w : World} {lo a m d X : Nat} {p sh wo qu tr : Int} {A B : Option Addr} {n c : Nat} {zs : List Int} {ys : List Nat}
/-- The offset that is asked. -/
def iO (p : Int) (X : Nat) : Nat := X % 2 ^ (32 - p.toNat)
theorem fit_of {X : Nat} {p : Int} {M : Nat} (h : M = 2 ^ (32 - p.toNat)) (h0 : 0 < M) : ∃ i lf bt : Nat, (X : Int) % (M : Int) = (i : Int) ∧ (i : Int) / 32 = (lf : Int) ∧ (i : Int) % 32 = (bt : Int) ∧ lf = iO p X / 32 ∧ bt = iO p X % 32 ∧ bt < 32 ∧ lf < lv M := by
  refine ⟨X % M, X % M / 32, X % M % 32, (Int.natCast_emod X _).symm, by omega, by omega, by unfold iO; rw [h], by unfold iO; rw [h], by omega, ?_⟩
  have := Nat.mod_lt X h0
  unfold lv
  omega
theorem drp_ne {x F : Nat} (hx : x < 18446744073709551616) (hF : F < 32) (hb : x.testBit F = true) : drp x F ≠ x ∧ (drp x F).testBit F = false := by
  have e : (drp x F).testBit F = false := by rw [drp_bit hx hF hF]; simp
  exact ⟨(fun h => by rw [h, hb] at e; cases e), e⟩
def S9_ (lf bt x : Nat) : Sc := ⟨3, 0, 0, 0, false, 9, 0, 0, (lf : Int), (bt : Int), x, false, 0, 0, 0, 0⟩
theorem s2_of {a lf bt x : Nat} (s : Sc) (hs : s = S9_ lf bt x) : (hitS a 0 [] s).err = 0 ∧ ((hitS a 0 [] s).phase == 4) = fl x := by
  subst hs
  unfold hitS
  show (if fl x = true then emS (erS (S9_ lf bt x) 0) else gon a 0 [] (erS (S9_ lf bt x) 0)).err = 0 ∧ ((if fl x = true then emS (erS (S9_ lf bt x) 0) else gon a 0 [] (erS (S9_ lf bt x) 0)).phase == 4) = fl x
  cases fl x with
  | true => exact ⟨rfl, rfl⟩
  | false => exact ⟨rfl, rfl⟩
theorem free_is {a lf bt : Nat} : freeS a 0 [] ⟨3, 0, 0, 0, false, 8, 0, 0, (lf : Int), (bt : Int), 0, false, 0, 0, 0, 0⟩ = ⟨3, 0, 6, 0, false, 0, 0, 0, (lf : Int), (bt : Int), 0, false, 0, 0, 0, 0⟩ := rfl
set_option maxRecDepth 100000 in
set_option maxHeartbeats 4000000 in
theorem nfree (ha : a < 4294967296) (h0 : IS .i64 lo w A n c zs) (hU : US w B m d ys) (hX : X < 65536) (hb : (gt ys (iO p X / 32)).testBit (iO p X % 32) = false) :
    Calls Try.prog 3 #[.agg #[.int .u32 (a : Int), .int .i64 p, .slice A n c, .int .i64 sh, .int .i64 wo, .int .i64 qu, .int .i64 tr], .slice B m d, .int .u16 (X : Int)] w (RetBo true w) := by
  go_enter Try.func3, Try.ntmps3
  go_upto_region 1 with (fail)
  have L := Loc.start w
  replace L := (L).alloc #[.int .u32 (a : Int), .int .i64 p, .slice A n c, .int .i64 sh, .int .i64 wo, .int .i64 qu, .int .i64 tr] 27
  try simp only [World.size_alloc] at L
  try dsimp only [nput] at L
  generalize (w).alloc (.cells #[.int .u32 (a : Int), .int .i64 p, .slice A n c, .int .i64 sh, .int .i64 wo, .int .i64 qu, .int .i64 tr] 27) = w1 at L ⊢
  generalize w.heap.size = gH at L ⊢
  go_wp2_with fail
  refine (awake_any _).mono ?_
  rintro e w2 ⟨rfl, K'⟩
  replace L := L.over K'
  go_wp2_with (refine wpList_load_want (by rfl) 27 (.tmp 3) rfl gH rfl _ _ (0, 0) _ (L.bk_ 0 rfl) Try.underlying27 rfl cf_sz ?_)
  refine (fits_any ha (h0.below L.K)).mono ?_
  rintro e w3 ⟨bo, rfl, hB, K'⟩
  replace L := L.over K'
  rcases bo with _ | _
  · clear hB
    go_wp2_with fail
    refine (awake_any _).mono ?_
    rintro e w92 ⟨rfl, K'⟩
    replace L := L.over K'
    go_wp2
    go_ret
    exact ⟨rfl, L.K⟩
  replace hB := hB rfl
  unfold FitP at hB
  obtain ⟨M, hMe⟩ : ∃ M, M = 2 ^ (32 - p.toNat) := ⟨_, rfl⟩
  rw [← hMe] at hB
  obtain ⟨hM, hm4, hmm⟩ := hB
  obtain ⟨iX, lf, bt, eM1, eM2, eM3, eM4, eM5, hb5, hlv⟩ := fit_of (X := X) hMe hM.pos
  rw [← eM4, ← eM5] at hb
  clear hMe eM4 eM5
  have eM7 : (iX : Int).tmod 32 = (bt : Int) := by rw [Int.tmod_eq_emod_of_nonneg (by omega)]; exact eM3
  have hM4 := hM.most
  have hMp := hM.pos
  have hl3 := lv_le hM4
  have hm6 : m ≤ 65536 ∧ lf < m := by have := tv_le hM4; omega
  obtain ⟨hm6, hlm⟩ := hm6
  have hl9 := hU.len
  replace hmm := Lib.hid hmm
  have hm0 : 0 < m := by omega
  have hM0 : ¬ ((M : Int) = 0) := by omega
  have eM6 : IntKind.i64.wrap (lf : Int) = (lf : Int) := IntWalk.i64_in _ (by omega)
  obtain ⟨bb, oo, hBe, hbb, hcc⟩ := hU.get hlm
  subst hBe
  have hlm2 : (lf : Int) < (m : Int) := by omega
  have hx64 := gt_lt hU.fit lf
  obtain ⟨x, hx⟩ : ∃ x, x = gt ys lf := ⟨_, rfl⟩
  have TK1 : ∀ w C e lo1 A0 c0 A1 n1 c1 A2 n2 c2 A3 n3 c3, US w C m e ys → Lists lo1 w ⟨A0, 0, c0, A1, n1, c1, A2, n2, c2, A3, n3, c3⟩ ⟨[], [], [], []⟩ → Hid (Calls Try.prog 10 #[.agg #[.int .u32 (a : Int), .int .i64 p, .slice A n c, .int .i64 sh, .int .i64 wo, .int .i64 qu, .int .i64 tr], .slice C m e, .agg (opv ⟨A0, 0, c0, A1, n1, c1, A2, n2, c2, A3, n3, c3⟩ ⟨3, 0, 0, 0, false, 8, 0, 0, (lf : Int), (bt : Int), 0, false, 0, 0, 0, 0⟩)] w (RetStp w.heap.size 0 ⟨3, 0, 6, 0, false, 0, 0, 0, (lf : Int), (bt : Int), 0, false, 0, 0, 0, 0⟩ ⟨[], [], [], []⟩ m ys true C w)) := fun w C e lo1 A0 c0 A1 n1 c1 A2 n2 c2 A3 n3 c3 U L => by have := dstep_free (a := a) (p := p) (sh := sh) (wo := wo) (qu := qu) (tr := tr) (A := A) (n := n) (c := c) (w := w) (lo := lo1) (lo2 := lo1) (h := ⟨A0, 0, c0, A1, n1, c1, A2, n2, c2, A3, n3, c3⟩) (s := ⟨3, 0, 0, 0, false, 8, 0, 0, (lf : Int), (bt : Int), 0, false, 0, 0, 0, 0⟩) (l := ⟨[], [], [], []⟩) (xs := []) (M := M) L ha hM L.i0 (Nat.zero_le _) (fun i hi => absurd hi (by show ¬ i < 0; omega)) (by have := no_items L.i1; omega) (no_items L.i2) (by have := no_items L.i3; omega) U rfl hlm rfl hb5 (.inl rfl) rfl hb; rw [free_is] at this; exact this
  rw [← hx] at hb hx64
  have TH := fun w => Lib.hid (rhas_any x bt hx64 (by omega) w)
  simp only [hb] at TH
  clear hb
  have XC : ∀ w2, Below w.heap.size w w2 → w2.cell? ⟨bb, oo + lf, none⟩ = some (.int .u64 ((x : Nat) : Int)) := fun w2 K => by rw [hx]; exact (K.cell (p := ⟨bb, oo + lf, none⟩) hbb).trans hcc
  replace XC := Lib.hid XC
  clear hx hcc
  have H_0 := L.at_ 0 0 rfl (v := .int .u32 (a : Int)) rfl
  have H_1 := L.at_ 0 1 rfl (v := .int .i64 p) rfl
  have H_z := L.lt 0 rfl
  go_wp2_with fail
  refine (rmany_yes hM).mono ?_
  rintro e w4 ⟨rfl, K'⟩
  clear H_0 H_1 H_z
  replace L := L.over K'
  go_upto_region 5 with (refine wpList_store_row rfl 42 (.tmp 8) (.tmp 42) rfl _ _ rfl (show _ = Value.agg (opv ⟨none, 0, 0, none, 0, 0, none, 0, 0, none, 0, 0⟩ ⟨3, 0, 0, 0, false, 8, 0, 0, (lf : Int), (bt : Int), 0, false, 0, 0, 0, 0⟩) from rfl) _ _ (Bk.new _ _ _) op_sz rfl (opv_one _ _) ?_)
  try rw [World.setRow_alloc_new]
  replace L := (L).alloc (opv ⟨none, 0, 0, none, 0, 0, none, 0, 0, none, 0, 0⟩ ⟨3, 0, 0, 0, false, 8, 0, 0, (lf : Int), (bt : Int), 0, false, 0, 0, 0, 0⟩) 42
  try simp only [World.size_alloc] at L
  try dsimp only [nput] at L
  generalize (w4).alloc (.cells (opv ⟨none, 0, 0, none, 0, 0, none, 0, 0, none, 0, 0⟩ ⟨3, 0, 0, 0, false, 8, 0, 0, (lf : Int), (bt : Int), 0, false, 0, 0, 0, 0⟩) 42) = w5 at L ⊢
  generalize w4.heap.size = gO at L ⊢
  go_wp2_with (first | (refine wpList_load_row rfl 27 (.tmp 3) rfl gH rfl _ _ (0, 0) _ (L.bk_ 1 rfl) Try.underlying27 rfl cf_sz ?_) | (refine wpList_load_row rfl 42 (.tmp 8) rfl gO rfl _ _ (0, 0) _ (L.bk_ 0 rfl) Try.underlying42 rfl op_sz ?_))
  refine ((TK1 _ _ _ _ _ _ _ _ _ _ _ _ _ _ _ (hU.below L.K) (Lists.hd0 (lo := 0) _)).out).mono ?_
  rintro e w6 ⟨A0_1, c0_1, A1_1, n1_1, c1_1, A2_1, n2_1, c2_1, A3_1, n3_1, c3_1, B_1, d_1, rfl, U, L', hA, K'⟩
  have Lb := L.lts
  replace L := L.over K'
  replace L := L.us_av (fun i b e => hA b.1 (Lb i b e) (hU.apart0 hm0 L i b e)) U
  replace L := L.lists Lb L'
  clear Lb
  try dsimp only [lF, List.cons_append, List.nil_append] at L
  clear L' U hA
  go_upto_region 6 with (refine wpList_store_row rfl 42 (.tmp 10) (.tmp 49) rfl _ _ rfl (show _ = Value.agg (opv ⟨A0_1, 0, c0_1, A1_1, n1_1, c1_1, A2_1, n2_1, c2_1, A3_1, n3_1, c3_1⟩ ⟨3, 0, 6, 0, false, 0, 0, 0, (lf : Int), (bt : Int), 0, false, 0, 0, 0, 0⟩) from rfl) _ _ (Bk.new _ _ _) op_sz rfl (opv_one _ _) ?_)
  try rw [World.setRow_alloc_new]
  replace L := (L).alloc (opv ⟨A0_1, 0, c0_1, A1_1, n1_1, c1_1, A2_1, n2_1, c2_1, A3_1, n3_1, c3_1⟩ ⟨3, 0, 6, 0, false, 0, 0, 0, (lf : Int), (bt : Int), 0, false, 0, 0, 0, 0⟩) 42
  try simp only [World.size_alloc] at L
  try dsimp only [nput] at L
  generalize (w6).alloc (.cells (opv ⟨A0_1, 0, c0_1, A1_1, n1_1, c1_1, A2_1, n2_1, c2_1, A3_1, n3_1, c3_1⟩ ⟨3, 0, 6, 0, false, 0, 0, 0, (lf : Int), (bt : Int), 0, false, 0, 0, 0, 0⟩) 42) = w7 at L ⊢
  generalize w6.heap.size = gP at L ⊢
  have X := XC.out _ L.K
  go_wp2_with fail
  refine ((TH _).out).mono ?_
  rintro e w' ⟨rfl, rfl⟩
  clear X
  have P_8 := L.at_ 0 8 rfl (v := .int .i64 0) rfl
  have P_3 := L.at_ 0 3 rfl (v := .int .i64 6) rfl
  have P_z := L.lt 0 rfl
  go_wp2_with fail
  clear P_8 P_3 P_z
  go_ret
  exact ⟨rfl, L.K⟩
set_option maxRecDepth 100000 in
set_option maxHeartbeats 4000000 in
theorem nused (ha : a < 4294967296) (h0 : IS .i64 lo w A n c zs) (hU : US w B m d ys) (hX : X < 65536) (hb : (gt ys (iO p X / 32)).testBit (iO p X % 32) = true) :
    Calls Try.prog 3 #[.agg #[.int .u32 (a : Int), .int .i64 p, .slice A n c, .int .i64 sh, .int .i64 wo, .int .i64 qu, .int .i64 tr], .slice B m d, .int .u16 (X : Int)] w (RetBo true w) := by
  go_enter Try.func3, Try.ntmps3
  go_upto_region 1 with (fail)
  have L := Loc.start w
  replace L := (L).alloc #[.int .u32 (a : Int), .int .i64 p, .slice A n c, .int .i64 sh, .int .i64 wo, .int .i64 qu, .int .i64 tr] 27
  try simp only [World.size_alloc] at L
  try dsimp only [nput] at L
  generalize (w).alloc (.cells #[.int .u32 (a : Int), .int .i64 p, .slice A n c, .int .i64 sh, .int .i64 wo, .int .i64 qu, .int .i64 tr] 27) = w1 at L ⊢
  generalize w.heap.size = gH at L ⊢
  go_wp2_with fail
  refine (awake_any _).mono ?_
  rintro e w2 ⟨rfl, K'⟩
  replace L := L.over K'
  go_wp2_with (refine wpList_load_want (by rfl) 27 (.tmp 3) rfl gH rfl _ _ (0, 0) _ (L.bk_ 0 rfl) Try.underlying27 rfl cf_sz ?_)
  refine (fits_any ha (h0.below L.K)).mono ?_
  rintro e w3 ⟨bo, rfl, hB, K'⟩
  replace L := L.over K'
  rcases bo with _ | _
  · clear hB
    go_wp2_with fail
    refine (awake_any _).mono ?_
    rintro e w92 ⟨rfl, K'⟩
    replace L := L.over K'
    go_wp2
    go_ret
    exact ⟨rfl, L.K⟩
  replace hB := hB rfl
  unfold FitP at hB
  obtain ⟨M, hMe⟩ : ∃ M, M = 2 ^ (32 - p.toNat) := ⟨_, rfl⟩
  rw [← hMe] at hB
  obtain ⟨hM, hm4, hmm⟩ := hB
  obtain ⟨iX, lf, bt, eM1, eM2, eM3, eM4, eM5, hb5, hlv⟩ := fit_of (X := X) hMe hM.pos
  rw [← eM4, ← eM5] at hb
  clear hMe eM4 eM5
  have eM7 : (iX : Int).tmod 32 = (bt : Int) := by rw [Int.tmod_eq_emod_of_nonneg (by omega)]; exact eM3
  have hM4 := hM.most
  have hMp := hM.pos
  have hl3 := lv_le hM4
  have hm6 : m ≤ 65536 ∧ lf < m := by have := tv_le hM4; omega
  obtain ⟨hm6, hlm⟩ := hm6
  have hl9 := hU.len
  replace hmm := Lib.hid hmm
  have hm0 : 0 < m := by omega
  have hM0 : ¬ ((M : Int) = 0) := by omega
  have eM6 : IntKind.i64.wrap (lf : Int) = (lf : Int) := IntWalk.i64_in _ (by omega)
  obtain ⟨bb, oo, hBe, hbb, hcc⟩ := hU.get hlm
  subst hBe
  have hlm2 : (lf : Int) < (m : Int) := by omega
  have hx64 := gt_lt hU.fit lf
  obtain ⟨x, hx⟩ : ∃ x, x = gt ys lf := ⟨_, rfl⟩
  have TK1 : ∀ w C e lo1 A0 c0 A1 n1 c1 A2 n2 c2 A3 n3 c3, US w C m e ys → Lists lo1 w ⟨A0, 0, c0, A1, n1, c1, A2, n2, c2, A3, n3, c3⟩ ⟨[], [], [], []⟩ → Hid (Calls Try.prog 10 #[.agg #[.int .u32 (a : Int), .int .i64 p, .slice A n c, .int .i64 sh, .int .i64 wo, .int .i64 qu, .int .i64 tr], .slice C m e, .agg (opv ⟨A0, 0, c0, A1, n1, c1, A2, n2, c2, A3, n3, c3⟩ ⟨3, 0, 0, 0, false, 8, 0, 0, (lf : Int), (bt : Int), 0, false, 0, 0, 0, 0⟩)] w (RetStp w.heap.size 0 ⟨3, 0, 0, 0, false, 9, 0, 0, (lf : Int), (bt : Int), x, false, 0, 0, 0, 0⟩ ⟨[], [], [], []⟩ m ys false C w)) := fun w C e lo1 A0 c0 A1 n1 c1 A2 n2 c2 A3 n3 c3 U L => by have := dstep_used (a := a) (p := p) (sh := sh) (wo := wo) (qu := qu) (tr := tr) (A := A) (n := n) (c := c) (w := w) (lo := lo1) (lo2 := lo1) (h := ⟨A0, 0, c0, A1, n1, c1, A2, n2, c2, A3, n3, c3⟩) (s := ⟨3, 0, 0, 0, false, 8, 0, 0, (lf : Int), (bt : Int), 0, false, 0, 0, 0, 0⟩) (l := ⟨[], [], [], []⟩) (xs := []) (M := M) L ha hM L.i0 (Nat.zero_le _) (fun i hi => absurd hi (by show ¬ i < 0; omega)) (by have := no_items L.i1; omega) (no_items L.i2) (by have := no_items L.i3; omega) U rfl hlm rfl hb5 (.inl rfl) rfl hb; rw [← hx] at this; exact this
  rw [← hx] at hb hx64
  obtain ⟨hyx, hyF⟩ := drp_ne hx64 hb5 hb
  obtain ⟨s2, hs2⟩ : ∃ s2, s2 = hitS a 0 [] ⟨3, 0, 0, 0, false, 9, 0, 0, (lf : Int), (bt : Int), x, false, 0, 0, 0, 0⟩ := ⟨_, rfl⟩
  have h2 := s2_of (a := a) (lf := lf) (bt := bt) (x := x) ⟨3, 0, 0, 0, false, 9, 0, 0, (lf : Int), (bt : Int), x, false, 0, 0, 0, 0⟩ rfl
  rw [← hs2] at h2
  have TK2 : ∀ w C e lo1 A0 c0 A1 n1 c1 A2 n2 c2 A3 n3 c3, US w C m e ys → Lists lo1 w ⟨A0, 0, c0, A1, n1, c1, A2, n2, c2, A3, n3, c3⟩ ⟨[], [], [], []⟩ → Hid (Calls Try.prog 10 #[.agg #[.int .u32 (a : Int), .int .i64 p, .slice A n c, .int .i64 sh, .int .i64 wo, .int .i64 qu, .int .i64 tr], .slice C m e, .agg (opv ⟨A0, 0, c0, A1, n1, c1, A2, n2, c2, A3, n3, c3⟩ ⟨3, 0, 0, 0, false, 9, 0, 0, (lf : Int), (bt : Int), x, false, 0, 0, 0, 0⟩)] w (RetStp w.heap.size 0 s2 ⟨[], [], [], []⟩ m (ys.set lf (drp x bt)) true C w)) := fun w C e lo1 A0 c0 A1 n1 c1 A2 n2 c2 A3 n3 c3 U L => by have := dstep_hit (a := a) (p := p) (sh := sh) (wo := wo) (qu := qu) (tr := tr) (A := A) (n := n) (c := c) (w := w) (lo := lo1) (lo2 := lo1) (h := ⟨A0, 0, c0, A1, n1, c1, A2, n2, c2, A3, n3, c3⟩) (s := ⟨3, 0, 0, 0, false, 9, 0, 0, (lf : Int), (bt : Int), x, false, 0, 0, 0, 0⟩) (l := ⟨[], [], [], []⟩) (xs := []) (M := M) L ha hM L.i0 (Nat.zero_le _) (fun i hi => absurd hi (by show ¬ i < 0; omega)) (by have := no_items L.i1; omega) (no_items L.i2) (by have := no_items L.i3; omega) U rfl hlm rfl hb5 (.inl rfl) rfl hm6 hx64 hx.symm; rw [hs2]; exact this
  clear hs2
  have hy64 : drp x bt < U64 := drp_lt _ _
  have hgy : gt (ys.set lf (drp x bt)) lf = drp x bt := by rw [gt_set (by omega), if_pos rfl]
  have TK3 : ∀ w C e lo1 A0 c0 A1 n1 c1 A2 n2 c2 A3 n3 c3, US w C m e (ys.set lf (drp x bt)) → Lists lo1 w ⟨A0, 0, c0, A1, n1, c1, A2, n2, c2, A3, n3, c3⟩ ⟨[], [], [], []⟩ → Hid (Calls Try.prog 10 #[.agg #[.int .u32 (a : Int), .int .i64 p, .slice A n c, .int .i64 sh, .int .i64 wo, .int .i64 qu, .int .i64 tr], .slice C m e, .agg (opv ⟨A0, 0, c0, A1, n1, c1, A2, n2, c2, A3, n3, c3⟩ ⟨3, 0, 0, 0, false, 9, 0, 0, (lf : Int), (bt : Int), x, false, 0, 0, 0, 0⟩)] w (RetStp w.heap.size 0 ⟨3, 0, 0, 0, false, 8, 0, 0, (lf : Int), (bt : Int), 0, false, 0, 0, 0, 0⟩ ⟨[], [], [], []⟩ m (ys.set lf (drp x bt)) false C w)) := fun w C e lo1 A0 c0 A1 n1 c1 A2 n2 c2 A3 n3 c3 U L => by have := dstep_miss (a := a) (p := p) (sh := sh) (wo := wo) (qu := qu) (tr := tr) (A := A) (n := n) (c := c) (w := w) (lo := lo1) (lo2 := lo1) (h := ⟨A0, 0, c0, A1, n1, c1, A2, n2, c2, A3, n3, c3⟩) (s := ⟨3, 0, 0, 0, false, 9, 0, 0, (lf : Int), (bt : Int), x, false, 0, 0, 0, 0⟩) (l := ⟨[], [], [], []⟩) (xs := []) (M := M) L ha hM L.i0 (Nat.zero_le _) (fun i hi => absurd hi (by show ¬ i < 0; omega)) (by have := no_items L.i1; omega) (no_items L.i2) (by have := no_items L.i3; omega) U rfl hlm rfl hb5 (.inl rfl) rfl hm6 hx64 (by rw [hgy]; exact hyx); exact this
  have TK4 : ∀ w C e lo1 A0 c0 A1 n1 c1 A2 n2 c2 A3 n3 c3, US w C m e (ys.set lf (drp x bt)) → Lists lo1 w ⟨A0, 0, c0, A1, n1, c1, A2, n2, c2, A3, n3, c3⟩ ⟨[], [], [], []⟩ → Hid (Calls Try.prog 10 #[.agg #[.int .u32 (a : Int), .int .i64 p, .slice A n c, .int .i64 sh, .int .i64 wo, .int .i64 qu, .int .i64 tr], .slice C m e, .agg (opv ⟨A0, 0, c0, A1, n1, c1, A2, n2, c2, A3, n3, c3⟩ ⟨3, 0, 0, 0, false, 8, 0, 0, (lf : Int), (bt : Int), 0, false, 0, 0, 0, 0⟩)] w (RetStp w.heap.size 0 ⟨3, 0, 6, 0, false, 0, 0, 0, (lf : Int), (bt : Int), 0, false, 0, 0, 0, 0⟩ ⟨[], [], [], []⟩ m (ys.set lf (drp x bt)) true C w)) := fun w C e lo1 A0 c0 A1 n1 c1 A2 n2 c2 A3 n3 c3 U L => by have := dstep_free (a := a) (p := p) (sh := sh) (wo := wo) (qu := qu) (tr := tr) (A := A) (n := n) (c := c) (w := w) (lo := lo1) (lo2 := lo1) (h := ⟨A0, 0, c0, A1, n1, c1, A2, n2, c2, A3, n3, c3⟩) (s := ⟨3, 0, 0, 0, false, 8, 0, 0, (lf : Int), (bt : Int), 0, false, 0, 0, 0, 0⟩) (l := ⟨[], [], [], []⟩) (xs := []) (M := M) L ha hM L.i0 (Nat.zero_le _) (fun i hi => absurd hi (by show ¬ i < 0; omega)) (by have := no_items L.i1; omega) (no_items L.i2) (by have := no_items L.i3; omega) U rfl hlm rfl hb5 (.inl rfl) rfl (by rw [hgy]; exact hyF); rw [free_is] at this; exact this
  have TH2 := fun w => Lib.hid (rhas_any (drp x bt) bt hy64 (by omega) w)
  simp only [hyF] at TH2
  have TFu := fun w => Lib.hid (full_any x hx64 w)
  have TCx := fun w => Lib.hid (changes_any x hx64 w)
  have TCy := fun w => Lib.hid (changes_any (drp x bt) hy64 w)
  have eC : IntKind.u32.wrap ((cg x : Int) + 1) = ((cg (drp x bt) : Nat) : Int) := by rw [cg_drp hx64 hb5]; simp [IntKind.wrap, IntKind.bits, IntKind.signed]
  have hgo : ∀ k, k ≠ lf → gt (ys.set lf (drp x bt)) k = gt ys k := fun k hk => by rw [gt_set (by omega), if_neg (Ne.symm hk)]
  replace hgo := Lib.hid hgo
  clear hyx hyF
  generalize cg (drp x bt) = cy at *
  generalize cg x = cx at *
  generalize drp x bt = y at *
  obtain ⟨herr, hph2⟩ := h2
  obtain ⟨fy, hfy⟩ : ∃ fy, fy = fl x := ⟨_, rfl⟩
  rw [← hfy] at hph2
  simp only [← hfy] at TFu
  clear hfy
  have f7 : (fy != fy) = false := by simp
  have TH := fun w => Lib.hid (rhas_any x bt hx64 (by omega) w)
  simp only [hb] at TH
  clear hb
  have XC : ∀ w2, Below w.heap.size w w2 → w2.cell? ⟨bb, oo + lf, none⟩ = some (.int .u64 ((x : Nat) : Int)) := fun w2 K => by rw [hx]; exact (K.cell (p := ⟨bb, oo + lf, none⟩) hbb).trans hcc
  replace XC := Lib.hid XC
  clear hx hcc
  have H_0 := L.at_ 0 0 rfl (v := .int .u32 (a : Int)) rfl
  have H_1 := L.at_ 0 1 rfl (v := .int .i64 p) rfl
  have H_z := L.lt 0 rfl
  go_wp2_with fail
  refine (rmany_yes hM).mono ?_
  rintro e w4 ⟨rfl, K'⟩
  clear H_0 H_1 H_z
  replace L := L.over K'
  go_upto_region 5 with (refine wpList_store_row rfl 42 (.tmp 8) (.tmp 42) rfl _ _ rfl (show _ = Value.agg (opv ⟨none, 0, 0, none, 0, 0, none, 0, 0, none, 0, 0⟩ ⟨3, 0, 0, 0, false, 8, 0, 0, (lf : Int), (bt : Int), 0, false, 0, 0, 0, 0⟩) from rfl) _ _ (Bk.new _ _ _) op_sz rfl (opv_one _ _) ?_)
  try rw [World.setRow_alloc_new]
  replace L := (L).alloc (opv ⟨none, 0, 0, none, 0, 0, none, 0, 0, none, 0, 0⟩ ⟨3, 0, 0, 0, false, 8, 0, 0, (lf : Int), (bt : Int), 0, false, 0, 0, 0, 0⟩) 42
  try simp only [World.size_alloc] at L
  try dsimp only [nput] at L
  generalize (w4).alloc (.cells (opv ⟨none, 0, 0, none, 0, 0, none, 0, 0, none, 0, 0⟩ ⟨3, 0, 0, 0, false, 8, 0, 0, (lf : Int), (bt : Int), 0, false, 0, 0, 0, 0⟩) 42) = w5 at L ⊢
  generalize w4.heap.size = gO at L ⊢
  go_wp2_with (first | (refine wpList_load_row rfl 27 (.tmp 3) rfl gH rfl _ _ (0, 0) _ (L.bk_ 1 rfl) Try.underlying27 rfl cf_sz ?_) | (refine wpList_load_row rfl 42 (.tmp 8) rfl gO rfl _ _ (0, 0) _ (L.bk_ 0 rfl) Try.underlying42 rfl op_sz ?_))
  refine ((TK1 _ _ _ _ _ _ _ _ _ _ _ _ _ _ _ (hU.below L.K) (Lists.hd0 (lo := 0) _)).out).mono ?_
  rintro e w6 ⟨A0_1, c0_1, A1_1, n1_1, c1_1, A2_1, n2_1, c2_1, A3_1, n3_1, c3_1, B_1, d_1, rfl, U, L', hA, K'⟩
  have Lb := L.lts
  replace L := L.over K'
  replace L := L.us_av (fun i b e => hA b.1 (Lb i b e) (hU.apart0 hm0 L i b e)) U
  replace L := L.lists Lb L'
  clear Lb
  try dsimp only [lF, List.cons_append, List.nil_append] at L
  clear L' U hA
  go_upto_region 6 with (refine wpList_store_row rfl 42 (.tmp 10) (.tmp 49) rfl _ _ rfl (show _ = Value.agg (opv ⟨A0_1, 0, c0_1, A1_1, n1_1, c1_1, A2_1, n2_1, c2_1, A3_1, n3_1, c3_1⟩ ⟨3, 0, 0, 0, false, 9, 0, 0, (lf : Int), (bt : Int), x, false, 0, 0, 0, 0⟩) from rfl) _ _ (Bk.new _ _ _) op_sz rfl (opv_one _ _) ?_)
  try rw [World.setRow_alloc_new]
  replace L := (L).alloc (opv ⟨A0_1, 0, c0_1, A1_1, n1_1, c1_1, A2_1, n2_1, c2_1, A3_1, n3_1, c3_1⟩ ⟨3, 0, 0, 0, false, 9, 0, 0, (lf : Int), (bt : Int), x, false, 0, 0, 0, 0⟩) 42
  try simp only [World.size_alloc] at L
  try dsimp only [nput] at L
  generalize (w6).alloc (.cells (opv ⟨A0_1, 0, c0_1, A1_1, n1_1, c1_1, A2_1, n2_1, c2_1, A3_1, n3_1, c3_1⟩ ⟨3, 0, 0, 0, false, 9, 0, 0, (lf : Int), (bt : Int), x, false, 0, 0, 0, 0⟩) 42) = w7 at L ⊢
  generalize w6.heap.size = gP at L ⊢
  have X := XC.out _ L.K
  go_wp2_with fail
  refine ((TH _).out).mono ?_
  rintro e w' ⟨rfl, rfl⟩
  clear X
  go_wp2_with (first | (refine wpList_load_row rfl 27 (.tmp 3) rfl gH rfl _ _ (0, 0) _ (L.bk_ 2 rfl) Try.underlying27 rfl cf_sz ?_) | (refine wpList_load_row rfl 42 (.tmp 10) rfl gP rfl _ _ (0, 0) _ (L.bk_ 0 rfl) Try.underlying42 rfl op_sz ?_))
  refine ((TK2 _ _ _ _ _ _ _ _ _ _ _ _ _ _ _ (hU.below L.K) (L.lists_at 0 rfl)).out).mono ?_
  rintro e w8 ⟨A0_2, c0_2, A1_2, n1_2, c1_2, A2_2, n2_2, c2_2, A3_2, n3_2, c3_2, B_2, d_2, rfl, U, L', hA, K'⟩
  have Lb := L.lts
  replace L := L.over K'
  replace L := L.us_av (fun i b e => hA b.1 (Lb i b e) (hU.apart0 hm0 L i b e)) U
  replace L := L.lists Lb L'
  clear Lb
  try dsimp only [lF, List.cons_append, List.nil_append] at L
  clear L' U hA
  obtain ⟨ba, oa, hBa, _⟩ := (L.us_ 4 rfl).get hlm
  subst hBa
  go_upto_region 9 with (refine wpList_store_row rfl 42 (.tmp 13) (.tmp 78) rfl _ _ rfl (show _ = Value.agg (opv ⟨A0_2, 0, c0_2, A1_2, n1_2, c1_2, A2_2, n2_2, c2_2, A3_2, n3_2, c3_2⟩ (s2)) from rfl) _ _ (Bk.new _ _ _) op_sz rfl (opv_one _ _) ?_)
  try rw [World.setRow_alloc_new]
  replace L := (L).alloc (opv ⟨A0_2, 0, c0_2, A1_2, n1_2, c1_2, A2_2, n2_2, c2_2, A3_2, n3_2, c3_2⟩ (s2)) 42
  try simp only [World.size_alloc] at L
  try dsimp only [nput] at L
  generalize (w8).alloc (.cells (opv ⟨A0_2, 0, c0_2, A1_2, n1_2, c1_2, A2_2, n2_2, c2_2, A3_2, n3_2, c3_2⟩ (s2)) 42) = w9 at L ⊢
  generalize w8.heap.size = gQ at L ⊢
  replace L := L.drew
  refine wp_region_held_drew (S := fun w' => Loc w w' [(gQ, 42, opv ⟨A0_2, 0, c0_2, A1_2, n1_2, c1_2, A2_2, n2_2, c2_2, A3_2, n3_2, c3_2⟩ (s2)), (gP, 42, opv ⟨A0_1, 0, c0_1, A1_1, n1_1, c1_1, A2_1, n2_1, c2_1, A3_1, n3_1, c3_1⟩ ⟨3, 0, 0, 0, false, 9, 0, 0, (lf : Int), (bt : Int), x, false, 0, 0, 0, 0⟩), (gO, 42, opv ⟨none, 0, 0, none, 0, 0, none, 0, 0, none, 0, 0⟩ ⟨3, 0, 0, 0, false, 8, 0, 0, (lf : Int), (bt : Int), 0, false, 0, 0, 0, 0⟩), (gH, 27, #[.int .u32 (a : Int), .int .i64 p, .slice A n c, .int .i64 sh, .int .i64 wo, .int .i64 qu, .int .i64 tr])] [iF .u32 w7.heap.size A0_2 0 c0_2 (⟨[], [], [], []⟩ : Ls).rqs, iF .u32 w7.heap.size A1_2 n1_2 c1_2 (⟨[], [], [], []⟩ : Ls).ads, iF .i64 w7.heap.size A2_2 n2_2 c2_2 (⟨[], [], [], []⟩ : Ls).ers, iF .u64 w7.heap.size A3_2 n3_2 c3_2 (⟨[], [], [], []⟩ : Ls).ses, uF (some ⟨ba, oa, none⟩) m d_2 (ys.set lf y), iF .u32 w5.heap.size A0_1 0 c0_1 (⟨[], [], [], []⟩ : Ls).rqs, iF .u32 w5.heap.size A1_1 n1_1 c1_1 (⟨[], [], [], []⟩ : Ls).ads, iF .i64 w5.heap.size A2_1 n2_1 c2_1 (⟨[], [], [], []⟩ : Ls).ers, iF .u64 w5.heap.size A3_1 n3_1 c3_1 (⟨[], [], [], []⟩ : Ls).ses, uF B_1 m d_1 ys]) (by kernel_rfl) L (fun hHeld => ?_)
  generalize w9.drew = v10 at hHeld L ⊢
  refine wpAnyH_take (i := 0) (oi := ⟨some 80, _, _, _, _, _⟩) (v := .bool false) rfl (by kernel_rfl) (by kernel_rfl) (by kernel_rfl) (fun _ _ _ h => h) (Or.inl ⟨by rfl, ?_⟩) hHeld ?_
  · intro ww hS
    try dsimp only at hS
    go_simp
    try with_reducible rfl
    try omega
  try simp only [Act.put, List.setIfInBounds_toArray, List.set_cons_zero, List.set_cons_succ]
  refine wpAnyH_take (i := 1) (oi := ⟨some 81, _, _, _, _, _⟩) (v := .bool false) rfl (by kernel_rfl) (by kernel_rfl) (by kernel_rfl) (fun _ _ _ h => h) (Or.inl ⟨by rfl, ?_⟩) hHeld ?_
  · intro ww hS
    try dsimp only at hS
    go_simp
    try with_reducible rfl
    try omega
  try simp only [Act.put, List.setIfInBounds_toArray, List.set_cons_zero, List.set_cons_succ]
  refine wpAnyH_take (i := 2) (oi := ⟨some 82, _, _, _, _, _⟩) (v := .pointer (some ⟨gP, 8, none⟩)) rfl (by kernel_rfl) (by kernel_rfl) (by kernel_rfl) (fun _ _ _ h => h) (Or.inl ⟨by rfl, ?_⟩) hHeld ?_
  · intro ww hS
    try dsimp only at hS
    go_simp
    try with_reducible rfl
    try omega
  try simp only [Act.put, List.setIfInBounds_toArray, List.set_cons_zero, List.set_cons_succ]
  refine wpAnyH_take (i := 3) (oi := ⟨some 83, _, _, _, _, _⟩) (v := .int .i64 9) rfl (by kernel_rfl) (by kernel_rfl) (by kernel_rfl) (fun _ _ _ h => h) (Or.inl ⟨by rfl, ?_⟩) hHeld ?_
  · intro ww hS
    try dsimp only at hS
    have P_8 := (hS).at_ 1 8 rfl (v := .int .i64 9) rfl
    have P_z := (hS).lt 1 rfl
    go_simp
    try with_reducible rfl
    try omega
  try simp only [Act.put, List.setIfInBounds_toArray, List.set_cons_zero, List.set_cons_succ]
  refine wpAnyH_take (i := 4) (oi := ⟨some 84, _, _, _, _, _⟩) (v := .bool false) rfl (by kernel_rfl) (by kernel_rfl) (by kernel_rfl) (fun _ _ _ h => h) (Or.inl ⟨by rfl, ?_⟩) hHeld ?_
  · intro ww hS
    try dsimp only at hS
    go_simp
    try with_reducible rfl
    try omega
  try simp only [Act.put, List.setIfInBounds_toArray, List.set_cons_zero, List.set_cons_succ]
  refine wpAnyH_take (i := 5) (oi := ⟨some 85, _, _, _, _, _⟩) (v := .bool false) rfl (by kernel_rfl) (by kernel_rfl) (by kernel_rfl) (fun _ _ _ h => h) (Or.inl ⟨by rfl, ?_⟩) hHeld ?_
  · intro ww hS
    try dsimp only at hS
    go_simp
    try with_reducible rfl
    try omega
  try simp only [Act.put, List.setIfInBounds_toArray, List.set_cons_zero, List.set_cons_succ]
  refine wpAnyH_take (i := 6) (oi := ⟨some 86, _, _, _, _, _⟩) (v := .bool false) rfl (by kernel_rfl) (by kernel_rfl) (by kernel_rfl) (fun _ _ _ h => h) (Or.inl ⟨by rfl, ?_⟩) hHeld ?_
  · intro ww hS
    try dsimp only at hS
    go_simp
    try with_reducible rfl
    try omega
  try simp only [Act.put, List.setIfInBounds_toArray, List.set_cons_zero, List.set_cons_succ]
  refine wpAnyH_take (i := 7) (oi := ⟨some 87, _, _, _, _, _⟩) (v := .bool true) rfl (by kernel_rfl) (by kernel_rfl) (by kernel_rfl) (fun _ _ _ h => h) (Or.inl ⟨by rfl, ?_⟩) hHeld ?_
  · intro ww hS
    try dsimp only at hS
    go_simp
    try with_reducible rfl
    try omega
  try simp only [Act.put, List.setIfInBounds_toArray, List.set_cons_zero, List.set_cons_succ]
  refine wpAnyH_take (i := 8) (oi := ⟨some 88, _, _, _, _, _⟩) (v := .bool false) rfl (by kernel_rfl) (by kernel_rfl) (by kernel_rfl) (fun _ _ _ h => h) (Or.inl ⟨by rfl, ?_⟩) hHeld ?_
  · intro ww hS
    try dsimp only at hS
    go_simp
    try with_reducible rfl
    try omega
  try simp only [Act.put, List.setIfInBounds_toArray, List.set_cons_zero, List.set_cons_succ]
  refine wpAnyH_take (i := 9) (oi := ⟨some 89, _, _, _, _, _⟩) (v := .bool false) rfl (by kernel_rfl) (by kernel_rfl) (by kernel_rfl) (fun _ _ _ h => h) (Or.inl ⟨by rfl, ?_⟩) hHeld ?_
  · intro ww hS
    try dsimp only at hS
    go_simp
    try with_reducible rfl
    try omega
  try simp only [Act.put, List.setIfInBounds_toArray, List.set_cons_zero, List.set_cons_succ]
  refine wpAnyH_take (i := 10) (oi := ⟨some 90, _, _, _, _, _⟩) (v := .bool false) rfl (by kernel_rfl) (by kernel_rfl) (by kernel_rfl) (fun _ _ _ h => h) (Or.inl ⟨by rfl, ?_⟩) hHeld ?_
  · intro ww hS
    try dsimp only at hS
    go_simp
    try with_reducible rfl
    try omega
  try simp only [Act.put, List.setIfInBounds_toArray, List.set_cons_zero, List.set_cons_succ]
  refine wpAnyH_take (i := 11) (oi := ⟨some 91, _, _, _, _, _⟩) (v := .pointer (some ⟨gQ, 3, none⟩)) rfl (by kernel_rfl) (by kernel_rfl) (by kernel_rfl) (fun _ _ _ h => h) (Or.inl ⟨by rfl, ?_⟩) hHeld ?_
  · intro ww hS
    try dsimp only at hS
    go_simp
    try with_reducible rfl
    try omega
  try simp only [Act.put, List.setIfInBounds_toArray, List.set_cons_zero, List.set_cons_succ]
  refine wpAnyH_take (i := 12) (oi := ⟨some 92, _, _, _, _, _⟩) (v := .pointer (some ⟨gQ, 3, none⟩)) rfl (by kernel_rfl) (by kernel_rfl) (by kernel_rfl) (fun _ _ _ h => h) (Or.inl ⟨by rfl, ?_⟩) hHeld ?_
  · intro ww hS
    try dsimp only at hS
    go_simp
    try with_reducible rfl
    try omega
  try simp only [Act.put, List.setIfInBounds_toArray, List.set_cons_zero, List.set_cons_succ]
  refine wpAnyH_take (i := 13) (oi := ⟨some 93, _, _, _, _, _⟩) (v := .int .i64 0) rfl (by kernel_rfl) (by kernel_rfl) (by kernel_rfl) (fun _ _ _ h => h) (Or.inl ⟨by rfl, ?_⟩) hHeld ?_
  · intro ww hS
    try dsimp only at hS
    have Q_3 := ((hS)).at_ 0 3 rfl (v := .int .i64 0) (by show some (Value.int .i64 s2.err) = _; rw [herr])
    have Q_z := ((hS)).lt 0 rfl
    go_simp
    try with_reducible rfl
    try omega
  try simp only [Act.put, List.setIfInBounds_toArray, List.set_cons_zero, List.set_cons_succ]
  refine wpAnyH_take (i := 14) (oi := ⟨some 94, _, _, _, _, _⟩) (v := .bool false) rfl (by kernel_rfl) (by kernel_rfl) (by kernel_rfl) (fun _ _ _ h => h) (Or.inl ⟨by rfl, ?_⟩) hHeld ?_
  · intro ww hS
    try dsimp only at hS
    go_simp
    try with_reducible rfl
    try omega
  try simp only [Act.put, List.setIfInBounds_toArray, List.set_cons_zero, List.set_cons_succ]
  refine wpAnyH_take (i := 15) (oi := ⟨some 95, _, _, _, _, _⟩) (v := .bool false) rfl (by kernel_rfl) (by kernel_rfl) (by kernel_rfl) (fun _ _ _ h => h) (Or.inl ⟨by rfl, ?_⟩) hHeld ?_
  · intro ww hS
    try dsimp only at hS
    go_simp
    try with_reducible rfl
    try omega
  try simp only [Act.put, List.setIfInBounds_toArray, List.set_cons_zero, List.set_cons_succ]
  refine wpAnyH_take (i := 16) (oi := ⟨some 96, _, _, _, _, _⟩) (v := .bool false) rfl (by kernel_rfl) (by kernel_rfl) (by kernel_rfl) (fun _ _ _ h => h) (Or.inl ⟨by rfl, ?_⟩) hHeld ?_
  · intro ww hS
    try dsimp only at hS
    go_simp
    try with_reducible rfl
    try omega
  try simp only [Act.put, List.setIfInBounds_toArray, List.set_cons_zero, List.set_cons_succ]
  refine wpAnyH_take (i := 17) (oi := ⟨some 97, _, _, _, _, _⟩) (v := .slice (some ⟨ba, oa, none⟩) m d_2) rfl (by kernel_rfl) (by kernel_rfl) (by kernel_rfl) (fun _ _ _ h => h) (Or.inl ⟨by rfl, ?_⟩) hHeld ?_
  · intro ww hS
    try dsimp only at hS
    go_simp
    try with_reducible rfl
    try omega
  try simp only [Act.put, List.setIfInBounds_toArray, List.set_cons_zero, List.set_cons_succ]
  refine wpAnyH_take (i := 18) (oi := ⟨some 98, _, _, _, _, _⟩) (v := .int .i64 (iX : Int)) rfl (by kernel_rfl) (by kernel_rfl) (by kernel_rfl) (fun _ _ _ h => h) (Or.inl ⟨by rfl, ?_⟩) hHeld ?_
  · intro ww hS
    try dsimp only at hS
    go_simp
    try with_reducible rfl
    try omega
  try simp only [Act.put, List.setIfInBounds_toArray, List.set_cons_zero, List.set_cons_succ]
  refine wpAnyH_take (i := 19) (oi := ⟨some 99, _, _, _, _, _⟩) (v := .int .i64 (lf : Int)) rfl (by kernel_rfl) (by kernel_rfl) (by kernel_rfl) (fun _ _ _ h => h) (Or.inl ⟨by rfl, ?_⟩) hHeld ?_
  · intro ww hS
    try dsimp only at hS
    go_simp
    try with_reducible rfl
    try omega
  try simp only [Act.put, List.setIfInBounds_toArray, List.set_cons_zero, List.set_cons_succ]
  refine wpAnyH_take (i := 20) (oi := ⟨some 100, _, _, _, _, _⟩) (v := .pointer (some ⟨ba, oa + lf, none⟩)) rfl (by kernel_rfl) (by kernel_rfl) (by kernel_rfl) (fun _ _ _ h => h) (Or.inl ⟨by rfl, ?_⟩) hHeld ?_
  · intro ww hS
    try dsimp only at hS
    go_simp
    try with_reducible rfl
    try omega
  try simp only [Act.put, List.setIfInBounds_toArray, List.set_cons_zero, List.set_cons_succ]
  refine wpAnyH_take (i := 21) (oi := ⟨some 101, _, _, _, _, _⟩) (v := .int .u64 ((y : Nat) : Int)) rfl (by kernel_rfl) (by kernel_rfl) (by kernel_rfl) (fun _ _ _ h => h) (Or.inl ⟨by rfl, ?_⟩) hHeld ?_
  · intro ww hS
    try dsimp only at hS
    have X := (((hS)).us_ 4 rfl).here hlm
    rw [hgy] at X
    go_simp
    try with_reducible rfl
    try omega
  try simp only [Act.put, List.setIfInBounds_toArray, List.set_cons_zero, List.set_cons_succ]
  refine wpAnyH_take (i := 22) (oi := ⟨some 102, _, _, _, _, _⟩) (v := .int .i64 (iX : Int)) rfl (by kernel_rfl) (by kernel_rfl) (by kernel_rfl) (fun _ _ _ h => h) (Or.inl ⟨by rfl, ?_⟩) hHeld ?_
  · intro ww hS
    try dsimp only at hS
    go_simp
    try with_reducible rfl
    try omega
  try simp only [Act.put, List.setIfInBounds_toArray, List.set_cons_zero, List.set_cons_succ]
  refine wpAnyH_take (i := 23) (oi := ⟨some 103, _, _, _, _, _⟩) (v := .int .i64 (bt : Int)) rfl (by kernel_rfl) (by kernel_rfl) (by kernel_rfl) (fun _ _ _ h => h) (Or.inl ⟨by rfl, ?_⟩) hHeld ?_
  · intro ww hS
    try dsimp only at hS
    go_simp
    try with_reducible rfl
    try omega
  try simp only [Act.put, List.setIfInBounds_toArray, List.set_cons_zero, List.set_cons_succ]
  refine wpAnyH_ready (rs := [24]) (by kernel_rfl) (by simp) ?_
  refine AllReadyH.cons (o := ⟨some 104, _, _, _, _, _⟩) rfl (fun K0 hK => ?_) AllReadyH.nil
  go_simp
  refine ((TH2 _).out).mono ?_
  rintro e w' ⟨rfl, rfl⟩
  refine hK.out _ _ L (fun hHeld' => ?_)
  clear hHeld hK K0
  have hHeld := hHeld'
  clear hHeld'
  try simp only [Act.put, List.setIfInBounds_toArray, List.set_cons_zero, List.set_cons_succ]
  refine wpAnyH_take (i := 25) (oi := ⟨some 105, _, _, _, _, _⟩) (v := .bool false) rfl (by kernel_rfl) (by kernel_rfl) (by kernel_rfl) (fun _ _ _ h => h) (Or.inl ⟨by rfl, ?_⟩) hHeld ?_
  · intro ww hS
    try dsimp only at hS
    go_simp
    try with_reducible rfl
    try omega
  try simp only [Act.put, List.setIfInBounds_toArray, List.set_cons_zero, List.set_cons_succ]
  refine wpAnyH_take (i := 26) (oi := ⟨some 106, _, _, _, _, _⟩) (v := .bool false) rfl (by kernel_rfl) (by kernel_rfl) (by kernel_rfl) (fun _ _ _ h => h) (Or.inl ⟨by rfl, ?_⟩) hHeld ?_
  · intro ww hS
    try dsimp only at hS
    go_simp
    try with_reducible rfl
    try omega
  try simp only [Act.put, List.setIfInBounds_toArray, List.set_cons_zero, List.set_cons_succ]
  refine wpAnyH_take (i := 27) (oi := ⟨some 107, _, _, _, _, _⟩) (v := .slice (some ⟨bb, oo, none⟩) m d) rfl (by kernel_rfl) (by kernel_rfl) (by kernel_rfl) (fun _ _ _ h => h) (Or.inl ⟨by rfl, ?_⟩) hHeld ?_
  · intro ww hS
    try dsimp only at hS
    go_simp
    try with_reducible rfl
    try omega
  try simp only [Act.put, List.setIfInBounds_toArray, List.set_cons_zero, List.set_cons_succ]
  refine wpAnyH_take (i := 28) (oi := ⟨some 108, _, _, _, _, _⟩) (v := .int .i64 (iX : Int)) rfl (by kernel_rfl) (by kernel_rfl) (by kernel_rfl) (fun _ _ _ h => h) (Or.inl ⟨by rfl, ?_⟩) hHeld ?_
  · intro ww hS
    try dsimp only at hS
    go_simp
    try with_reducible rfl
    try omega
  try simp only [Act.put, List.setIfInBounds_toArray, List.set_cons_zero, List.set_cons_succ]
  refine wpAnyH_take (i := 29) (oi := ⟨some 109, _, _, _, _, _⟩) (v := .int .i64 (lf : Int)) rfl (by kernel_rfl) (by kernel_rfl) (by kernel_rfl) (fun _ _ _ h => h) (Or.inl ⟨by rfl, ?_⟩) hHeld ?_
  · intro ww hS
    try dsimp only at hS
    go_simp
    try with_reducible rfl
    try omega
  try simp only [Act.put, List.setIfInBounds_toArray, List.set_cons_zero, List.set_cons_succ]
  refine wpAnyH_take (i := 30) (oi := ⟨some 110, _, _, _, _, _⟩) (v := .pointer (some ⟨bb, oo + lf, none⟩)) rfl (by kernel_rfl) (by kernel_rfl) (by kernel_rfl) (fun _ _ _ h => h) (Or.inl ⟨by rfl, ?_⟩) hHeld ?_
  · intro ww hS
    try dsimp only at hS
    go_simp
    try with_reducible rfl
    try omega
  try simp only [Act.put, List.setIfInBounds_toArray, List.set_cons_zero, List.set_cons_succ]
  refine wpAnyH_take (i := 31) (oi := ⟨some 111, _, _, _, _, _⟩) (v := .int .u64 ((x : Nat) : Int)) rfl (by kernel_rfl) (by kernel_rfl) (by kernel_rfl) (fun _ _ _ h => h) (Or.inl ⟨by rfl, ?_⟩) hHeld ?_
  · intro ww hS
    try dsimp only at hS
    have X := XC.out _ ((hS)).K
    go_simp
    try with_reducible rfl
    try omega
  try simp only [Act.put, List.setIfInBounds_toArray, List.set_cons_zero, List.set_cons_succ]
  refine wpAnyH_take (i := 33) (oi := ⟨some 113, _, _, _, _, _⟩) (v := .pointer (some ⟨gQ, 8, none⟩)) rfl (by kernel_rfl) (by kernel_rfl) (by kernel_rfl) (fun _ _ _ h => h) (Or.inl ⟨by rfl, ?_⟩) hHeld ?_
  · intro ww hS
    try dsimp only at hS
    go_simp
    try with_reducible rfl
    try omega
  try simp only [Act.put, List.setIfInBounds_toArray, List.set_cons_zero, List.set_cons_succ]
  refine wpAnyH_take (i := 34) (oi := ⟨some 114, _, _, _, _, _⟩) (v := .int .i64 s2.phase) rfl (by kernel_rfl) (by kernel_rfl) (by kernel_rfl) (fun _ _ _ h => h) (Or.inl ⟨by rfl, ?_⟩) hHeld ?_
  · intro ww hS
    try dsimp only at hS
    have Q_8 := (hS).at_ 0 8 rfl (v := .int .i64 s2.phase) rfl
    have Q_z := (hS).lt 0 rfl
    go_simp
    try with_reducible rfl
    try omega
  try simp only [Act.put, List.setIfInBounds_toArray, List.set_cons_zero, List.set_cons_succ]
  refine wpAnyH_take (i := 35) (oi := ⟨some 115, _, _, _, _, _⟩) (v := .bool fy) rfl (by kernel_rfl) (by kernel_rfl) (by kernel_rfl) (fun _ _ _ h => h) (Or.inl ⟨by rfl, ?_⟩) hHeld ?_
  · intro ww hS
    try dsimp only at hS
    go_simp
    try with_reducible rfl
    try omega
  try simp only [Act.put, List.setIfInBounds_toArray, List.set_cons_zero, List.set_cons_succ]
  refine wpAnyH_ready (rs := [32]) (by kernel_rfl) (by simp) ?_
  refine AllReadyH.cons (o := ⟨some 112, _, _, _, _, _⟩) rfl (fun K0 hK => ?_) AllReadyH.nil
  go_simp
  refine ((TFu _).out).mono ?_
  rintro e w' ⟨rfl, rfl⟩
  refine hK.out _ _ L (fun hHeld' => ?_)
  clear hHeld hK K0
  have hHeld := hHeld'
  clear hHeld'
  try simp only [Act.put, List.setIfInBounds_toArray, List.set_cons_zero, List.set_cons_succ]
  refine wpAnyH_take (i := 36) (oi := ⟨some 116, _, _, _, _, _⟩) (v := .bool false) rfl (by kernel_rfl) (by kernel_rfl) (by kernel_rfl) (fun _ _ _ h => h) (Or.inl ⟨by rfl, ?_⟩) hHeld ?_
  · intro ww hS
    try dsimp only at hS
    go_simp
    try with_reducible rfl
    try omega
  try simp only [Act.put, List.setIfInBounds_toArray, List.set_cons_zero, List.set_cons_succ]
  refine wpAnyH_take (i := 37) (oi := ⟨some 117, _, _, _, _, _⟩) (v := .bool false) rfl (by kernel_rfl) (by kernel_rfl) (by kernel_rfl) (fun _ _ _ h => h) (Or.inl ⟨by rfl, ?_⟩) hHeld ?_
  · intro ww hS
    try dsimp only at hS
    go_simp
    try with_reducible rfl
    try omega
  try simp only [Act.put, List.setIfInBounds_toArray, List.set_cons_zero, List.set_cons_succ]
  refine wpAnyH_take (i := 38) (oi := ⟨some 118, _, _, _, _, _⟩) (v := .bool false) rfl (by kernel_rfl) (by kernel_rfl) (by kernel_rfl) (fun _ _ _ h => h) (Or.inl ⟨by rfl, ?_⟩) hHeld ?_
  · intro ww hS
    try dsimp only at hS
    go_simp
    try with_reducible rfl
    try omega
  try simp only [Act.put, List.setIfInBounds_toArray, List.set_cons_zero, List.set_cons_succ]
  refine wpAnyH_take (i := 39) (oi := ⟨some 119, _, _, _, _, _⟩) (v := .slice (some ⟨ba, oa, none⟩) m d_2) rfl (by kernel_rfl) (by kernel_rfl) (by kernel_rfl) (fun _ _ _ h => h) (Or.inl ⟨by rfl, ?_⟩) hHeld ?_
  · intro ww hS
    try dsimp only at hS
    go_simp
    try with_reducible rfl
    try omega
  try simp only [Act.put, List.setIfInBounds_toArray, List.set_cons_zero, List.set_cons_succ]
  refine wpAnyH_take (i := 40) (oi := ⟨some 120, _, _, _, _, _⟩) (v := .int .i64 (iX : Int)) rfl (by kernel_rfl) (by kernel_rfl) (by kernel_rfl) (fun _ _ _ h => h) (Or.inl ⟨by rfl, ?_⟩) hHeld ?_
  · intro ww hS
    try dsimp only at hS
    go_simp
    try with_reducible rfl
    try omega
  try simp only [Act.put, List.setIfInBounds_toArray, List.set_cons_zero, List.set_cons_succ]
  refine wpAnyH_take (i := 41) (oi := ⟨some 121, _, _, _, _, _⟩) (v := .int .i64 (lf : Int)) rfl (by kernel_rfl) (by kernel_rfl) (by kernel_rfl) (fun _ _ _ h => h) (Or.inl ⟨by rfl, ?_⟩) hHeld ?_
  · intro ww hS
    try dsimp only at hS
    go_simp
    try with_reducible rfl
    try omega
  try simp only [Act.put, List.setIfInBounds_toArray, List.set_cons_zero, List.set_cons_succ]
  refine wpAnyH_take (i := 42) (oi := ⟨some 122, _, _, _, _, _⟩) (v := .pointer (some ⟨ba, oa + lf, none⟩)) rfl (by kernel_rfl) (by kernel_rfl) (by kernel_rfl) (fun _ _ _ h => h) (Or.inl ⟨by rfl, ?_⟩) hHeld ?_
  · intro ww hS
    try dsimp only at hS
    go_simp
    try with_reducible rfl
    try omega
  try simp only [Act.put, List.setIfInBounds_toArray, List.set_cons_zero, List.set_cons_succ]
  refine wpAnyH_take (i := 43) (oi := ⟨some 123, _, _, _, _, _⟩) (v := .int .u64 ((y : Nat) : Int)) rfl (by kernel_rfl) (by kernel_rfl) (by kernel_rfl) (fun _ _ _ h => h) (Or.inl ⟨by rfl, ?_⟩) hHeld ?_
  · intro ww hS
    try dsimp only at hS
    have X := (((hS)).us_ 4 rfl).here hlm
    rw [hgy] at X
    go_simp
    try with_reducible rfl
    try omega
  try simp only [Act.put, List.setIfInBounds_toArray, List.set_cons_zero, List.set_cons_succ]
  refine wpAnyH_take (i := 45) (oi := ⟨some 125, _, _, _, _, _⟩) (v := .slice (some ⟨bb, oo, none⟩) m d) rfl (by kernel_rfl) (by kernel_rfl) (by kernel_rfl) (fun _ _ _ h => h) (Or.inl ⟨by rfl, ?_⟩) hHeld ?_
  · intro ww hS
    try dsimp only at hS
    go_simp
    try with_reducible rfl
    try omega
  try simp only [Act.put, List.setIfInBounds_toArray, List.set_cons_zero, List.set_cons_succ]
  refine wpAnyH_take (i := 46) (oi := ⟨some 126, _, _, _, _, _⟩) (v := .int .i64 (iX : Int)) rfl (by kernel_rfl) (by kernel_rfl) (by kernel_rfl) (fun _ _ _ h => h) (Or.inl ⟨by rfl, ?_⟩) hHeld ?_
  · intro ww hS
    try dsimp only at hS
    go_simp
    try with_reducible rfl
    try omega
  try simp only [Act.put, List.setIfInBounds_toArray, List.set_cons_zero, List.set_cons_succ]
  refine wpAnyH_take (i := 47) (oi := ⟨some 127, _, _, _, _, _⟩) (v := .int .i64 (lf : Int)) rfl (by kernel_rfl) (by kernel_rfl) (by kernel_rfl) (fun _ _ _ h => h) (Or.inl ⟨by rfl, ?_⟩) hHeld ?_
  · intro ww hS
    try dsimp only at hS
    go_simp
    try with_reducible rfl
    try omega
  try simp only [Act.put, List.setIfInBounds_toArray, List.set_cons_zero, List.set_cons_succ]
  refine wpAnyH_take (i := 48) (oi := ⟨some 128, _, _, _, _, _⟩) (v := .pointer (some ⟨bb, oo + lf, none⟩)) rfl (by kernel_rfl) (by kernel_rfl) (by kernel_rfl) (fun _ _ _ h => h) (Or.inl ⟨by rfl, ?_⟩) hHeld ?_
  · intro ww hS
    try dsimp only at hS
    go_simp
    try with_reducible rfl
    try omega
  try simp only [Act.put, List.setIfInBounds_toArray, List.set_cons_zero, List.set_cons_succ]
  refine wpAnyH_take (i := 49) (oi := ⟨some 129, _, _, _, _, _⟩) (v := .int .u64 ((x : Nat) : Int)) rfl (by kernel_rfl) (by kernel_rfl) (by kernel_rfl) (fun _ _ _ h => h) (Or.inl ⟨by rfl, ?_⟩) hHeld ?_
  · intro ww hS
    try dsimp only at hS
    have X := XC.out _ ((hS)).K
    go_simp
    try with_reducible rfl
    try omega
  try simp only [Act.put, List.setIfInBounds_toArray, List.set_cons_zero, List.set_cons_succ]
  refine wpAnyH_ready (rs := [44]) (by kernel_rfl) (by simp) ?_
  refine AllReadyH.cons (o := ⟨some 124, _, _, _, _, _⟩) rfl (fun K0 hK => ?_) AllReadyH.nil
  go_simp
  refine ((TCy _).out).mono ?_
  rintro e w' ⟨rfl, rfl⟩
  refine hK.out _ _ L (fun hHeld' => ?_)
  clear hHeld hK K0
  have hHeld := hHeld'
  clear hHeld'
  try simp only [Act.put, List.setIfInBounds_toArray, List.set_cons_zero, List.set_cons_succ]
  refine wpAnyH_ready (rs := [50]) (by kernel_rfl) (by simp) ?_
  refine AllReadyH.cons (o := ⟨some 130, _, _, _, _, _⟩) rfl (fun K0 hK => ?_) AllReadyH.nil
  go_simp
  refine ((TCx _).out).mono ?_
  rintro e w' ⟨rfl, rfl⟩
  refine hK.out _ _ L (fun hHeld' => ?_)
  clear hHeld hK K0
  have hHeld := hHeld'
  clear hHeld'
  try simp only [Act.put, List.setIfInBounds_toArray, List.set_cons_zero, List.set_cons_succ]
  refine wpAnyH_take (i := 51) (oi := ⟨some 131, _, _, _, _, _⟩) (v := .int .u32 (cy : Int)) rfl (by kernel_rfl) (by kernel_rfl) (by kernel_rfl) (fun _ _ _ h => h) (Or.inl ⟨by rfl, ?_⟩) hHeld ?_
  · intro ww hS
    try dsimp only at hS
    go_simp
    try with_reducible rfl
    try omega
  try simp only [Act.put, List.setIfInBounds_toArray, List.set_cons_zero, List.set_cons_succ]
  refine wpAnyH_take (i := 52) (oi := ⟨some 132, _, _, _, _, _⟩) (v := .bool false) rfl (by kernel_rfl) (by kernel_rfl) (by kernel_rfl) (fun _ _ _ h => h) (Or.inl ⟨by rfl, ?_⟩) hHeld ?_
  · intro ww hS
    try dsimp only at hS
    go_simp
    try with_reducible rfl
    try omega
  try simp only [Act.put, List.setIfInBounds_toArray, List.set_cons_zero, List.set_cons_succ]
  refine wpAnyH_take (i := 53) (oi := ⟨some 133, _, _, _, _, _⟩) (v := .bool false) rfl (by kernel_rfl) (by kernel_rfl) (by kernel_rfl) (fun _ _ _ h => h) (Or.inl ⟨by rfl, ?_⟩) hHeld ?_
  · intro ww hS
    try dsimp only at hS
    go_simp
    try with_reducible rfl
    try omega
  try simp only [Act.put, List.setIfInBounds_toArray, List.set_cons_zero, List.set_cons_succ]
  refine wpAnyH_done (by kernel_rfl) ?_ _
  clear hHeld
  go_wp2
  go_loopw [15] (fun i wr => ∃ k : Nat, k ≤ m ∧ i = .int .i64 k ∧ Loc w wr [(gQ, 42, opv ⟨A0_2, 0, c0_2, A1_2, n1_2, c1_2, A2_2, n2_2, c2_2, A3_2, n3_2, c3_2⟩ (s2)), (gP, 42, opv ⟨A0_1, 0, c0_1, A1_1, n1_1, c1_1, A2_1, n2_1, c2_1, A3_1, n3_1, c3_1⟩ ⟨3, 0, 0, 0, false, 9, 0, 0, (lf : Int), (bt : Int), x, false, 0, 0, 0, 0⟩), (gO, 42, opv ⟨none, 0, 0, none, 0, 0, none, 0, 0, none, 0, 0⟩ ⟨3, 0, 0, 0, false, 8, 0, 0, (lf : Int), (bt : Int), 0, false, 0, 0, 0, 0⟩), (gH, 27, #[.int .u32 (a : Int), .int .i64 p, .slice A n c, .int .i64 sh, .int .i64 wo, .int .i64 qu, .int .i64 tr])] [iF .u32 w7.heap.size A0_2 0 c0_2 (⟨[], [], [], []⟩ : Ls).rqs, iF .u32 w7.heap.size A1_2 n1_2 c1_2 (⟨[], [], [], []⟩ : Ls).ads, iF .i64 w7.heap.size A2_2 n2_2 c2_2 (⟨[], [], [], []⟩ : Ls).ers, iF .u64 w7.heap.size A3_2 n3_2 c3_2 (⟨[], [], [], []⟩ : Ls).ses, uF (some ⟨ba, oa, none⟩) m d_2 (ys.set lf y), iF .u32 w5.heap.size A0_1 0 c0_1 (⟨[], [], [], []⟩ : Ls).rqs, iF .u32 w5.heap.size A1_1 n1_1 c1_1 (⟨[], [], [], []⟩ : Ls).ads, iF .i64 w5.heap.size A2_1 n2_1 c2_1 (⟨[], [], [], []⟩ : Ls).ers, iF .u64 w5.heap.size A3_1 n3_1 c3_1 (⟨[], [], [], []⟩ : Ls).ses, uF B_1 m d_1 ys]) (fun i _ => m - (intOf i).toNat)
  case atStart => exact ⟨0, Nat.zero_le _, rfl, L⟩
  case round =>
    clear L
    obtain ⟨k, hk, rfl, L⟩ := hrel
    by_cases hlt : k < m
    · have hk2 : (k : Int) < (m : Int) := by omega
      by_cases he : k = lf
      · have f8 : ((k : Int) != (lf : Int)) = false := by simp; omega
        replace he := Lib.hid he
        go_upto_region 14 with (fail)
        replace L := L.drew
        refine wp_region_held_drew (S := fun w' => Loc w w' [(gQ, 42, opv ⟨A0_2, 0, c0_2, A1_2, n1_2, c1_2, A2_2, n2_2, c2_2, A3_2, n3_2, c3_2⟩ (s2)), (gP, 42, opv ⟨A0_1, 0, c0_1, A1_1, n1_1, c1_1, A2_1, n2_1, c2_1, A3_1, n3_1, c3_1⟩ ⟨3, 0, 0, 0, false, 9, 0, 0, (lf : Int), (bt : Int), x, false, 0, 0, 0, 0⟩), (gO, 42, opv ⟨none, 0, 0, none, 0, 0, none, 0, 0, none, 0, 0⟩ ⟨3, 0, 0, 0, false, 8, 0, 0, (lf : Int), (bt : Int), 0, false, 0, 0, 0, 0⟩), (gH, 27, #[.int .u32 (a : Int), .int .i64 p, .slice A n c, .int .i64 sh, .int .i64 wo, .int .i64 qu, .int .i64 tr])] [iF .u32 w7.heap.size A0_2 0 c0_2 (⟨[], [], [], []⟩ : Ls).rqs, iF .u32 w7.heap.size A1_2 n1_2 c1_2 (⟨[], [], [], []⟩ : Ls).ads, iF .i64 w7.heap.size A2_2 n2_2 c2_2 (⟨[], [], [], []⟩ : Ls).ers, iF .u64 w7.heap.size A3_2 n3_2 c3_2 (⟨[], [], [], []⟩ : Ls).ses, uF (some ⟨ba, oa, none⟩) m d_2 (ys.set lf y), iF .u32 w5.heap.size A0_1 0 c0_1 (⟨[], [], [], []⟩ : Ls).rqs, iF .u32 w5.heap.size A1_1 n1_1 c1_1 (⟨[], [], [], []⟩ : Ls).ads, iF .i64 w5.heap.size A2_1 n2_1 c2_1 (⟨[], [], [], []⟩ : Ls).ers, iF .u64 w5.heap.size A3_1 n3_1 c3_1 (⟨[], [], [], []⟩ : Ls).ses, uF B_1 m d_1 ys]) (by kernel_rfl) L (fun hHeld => ?_)
        generalize wr.drew = v11 at hHeld L ⊢
        refine wpAnyH_take (i := 0) (oi := ⟨some 140, _, _, _, _, _⟩) (v := .int .i64 (k : Int)) rfl (by kernel_rfl) (by kernel_rfl) (by kernel_rfl) (fun _ _ _ h => h) (Or.inl ⟨by rfl, ?_⟩) hHeld ?_
        · intro ww hS
          try dsimp only at hS
          go_simp
          try with_reducible rfl
          try omega
        try simp only [Act.put, List.setIfInBounds_toArray, List.set_cons_zero, List.set_cons_succ]
        refine wpAnyH_take (i := 1) (oi := ⟨some 141, _, _, _, _, _⟩) (v := .int .i64 (iX : Int)) rfl (by kernel_rfl) (by kernel_rfl) (by kernel_rfl) (fun _ _ _ h => h) (Or.inl ⟨by rfl, ?_⟩) hHeld ?_
        · intro ww hS
          try dsimp only at hS
          go_simp
          try with_reducible rfl
          try omega
        try simp only [Act.put, List.setIfInBounds_toArray, List.set_cons_zero, List.set_cons_succ]
        refine wpAnyH_take (i := 2) (oi := ⟨some 142, _, _, _, _, _⟩) (v := .int .i64 (lf : Int)) rfl (by kernel_rfl) (by kernel_rfl) (by kernel_rfl) (fun _ _ _ h => h) (Or.inl ⟨by rfl, ?_⟩) hHeld ?_
        · intro ww hS
          try dsimp only at hS
          go_simp
          try with_reducible rfl
          try omega
        try simp only [Act.put, List.setIfInBounds_toArray, List.set_cons_zero, List.set_cons_succ]
        refine wpAnyH_take (i := 3) (oi := ⟨some 143, _, _, _, _, _⟩) (v := .bool false) rfl (by kernel_rfl) (by kernel_rfl) (by kernel_rfl) (fun _ _ _ h => h) (Or.inl ⟨by rfl, ?_⟩) hHeld ?_
        · intro ww hS
          try dsimp only at hS
          go_simp
          try with_reducible rfl
          try omega
        try simp only [Act.put, List.setIfInBounds_toArray, List.set_cons_zero, List.set_cons_succ]
        refine wpAnyH_take (i := 4) (oi := ⟨some 144, _, _, _, _, _⟩) (v := .bool false) rfl (by kernel_rfl) (by kernel_rfl) (by kernel_rfl) (fun _ _ _ h => h) (Or.inl ⟨by rfl, ?_⟩) hHeld ?_
        · intro ww hS
          try dsimp only at hS
          go_simp
          try with_reducible rfl
          try omega
        try simp only [Act.put, List.setIfInBounds_toArray, List.set_cons_zero, List.set_cons_succ]
        refine wpAnyH_take (i := 5) (oi := ⟨some 145, _, _, _, _, _⟩) (v := undef) rfl (by kernel_rfl) (by kernel_rfl) (by kernel_rfl) (fun _ _ _ h => h) (Or.inr ⟨by rfl, rfl⟩) hHeld ?_
        try simp only [Act.put, List.setIfInBounds_toArray, List.set_cons_zero, List.set_cons_succ]
        refine wpAnyH_take (i := 6) (oi := ⟨some 146, _, _, _, _, _⟩) (v := undef) rfl (by kernel_rfl) (by kernel_rfl) (by kernel_rfl) (fun _ _ _ h => h) (Or.inr ⟨by rfl, rfl⟩) hHeld ?_
        try simp only [Act.put, List.setIfInBounds_toArray, List.set_cons_zero, List.set_cons_succ]
        refine wpAnyH_take (i := 7) (oi := ⟨some 147, _, _, _, _, _⟩) (v := undef) rfl (by kernel_rfl) (by kernel_rfl) (by kernel_rfl) (fun _ _ _ h => h) (Or.inr ⟨by rfl, rfl⟩) hHeld ?_
        try simp only [Act.put, List.setIfInBounds_toArray, List.set_cons_zero, List.set_cons_succ]
        refine wpAnyH_take (i := 8) (oi := ⟨some 148, _, _, _, _, _⟩) (v := undef) rfl (by kernel_rfl) (by kernel_rfl) (by kernel_rfl) (fun _ _ _ h => h) (Or.inr ⟨by rfl, rfl⟩) hHeld ?_
        try simp only [Act.put, List.setIfInBounds_toArray, List.set_cons_zero, List.set_cons_succ]
        refine wpAnyH_take (i := 9) (oi := ⟨some 149, _, _, _, _, _⟩) (v := undef) rfl (by kernel_rfl) (by kernel_rfl) (by kernel_rfl) (fun _ _ _ h => h) (Or.inr ⟨by rfl, rfl⟩) hHeld ?_
        try simp only [Act.put, List.setIfInBounds_toArray, List.set_cons_zero, List.set_cons_succ]
        refine wpAnyH_take (i := 10) (oi := ⟨some 150, _, _, _, _, _⟩) (v := undef) rfl (by kernel_rfl) (by kernel_rfl) (by kernel_rfl) (fun _ _ _ h => h) (Or.inr ⟨by rfl, rfl⟩) hHeld ?_
        try simp only [Act.put, List.setIfInBounds_toArray, List.set_cons_zero, List.set_cons_succ]
        refine wpAnyH_take (i := 11) (oi := ⟨some 151, _, _, _, _, _⟩) (v := undef) rfl (by kernel_rfl) (by kernel_rfl) (by kernel_rfl) (fun _ _ _ h => h) (Or.inr ⟨by rfl, rfl⟩) hHeld ?_
        try simp only [Act.put, List.setIfInBounds_toArray, List.set_cons_zero, List.set_cons_succ]
        refine wpAnyH_take (i := 12) (oi := ⟨some 152, _, _, _, _, _⟩) (v := undef) rfl (by kernel_rfl) (by kernel_rfl) (by kernel_rfl) (fun _ _ _ h => h) (Or.inr ⟨by rfl, rfl⟩) hHeld ?_
        try simp only [Act.put, List.setIfInBounds_toArray, List.set_cons_zero, List.set_cons_succ]
        refine wpAnyH_take (i := 13) (oi := ⟨some 153, _, _, _, _, _⟩) (v := undef) rfl (by kernel_rfl) (by kernel_rfl) (by kernel_rfl) (fun _ _ _ h => h) (Or.inr ⟨by rfl, rfl⟩) hHeld ?_
        try simp only [Act.put, List.setIfInBounds_toArray, List.set_cons_zero, List.set_cons_succ]
        refine wpAnyH_take (i := 14) (oi := ⟨some 154, _, _, _, _, _⟩) (v := .bool false) rfl (by kernel_rfl) (by kernel_rfl) (by kernel_rfl) (fun _ _ _ h => h) (Or.inl ⟨by rfl, ?_⟩) hHeld ?_
        · intro ww hS
          try dsimp only at hS
          go_simp
          try with_reducible rfl
          try omega
        try simp only [Act.put, List.setIfInBounds_toArray, List.set_cons_zero, List.set_cons_succ]
        refine wpAnyH_done (by kernel_rfl) ?_ _
        clear hHeld
        go_wp2
        go_roundw
        case rel => exact ⟨k + 1, by omega, by go_num, L⟩
        case measure => simp [intOf]; omega
      · have f8 : ((k : Int) != (lf : Int)) = true := by simp; omega
        have hgk := Lib.hid (hgo.out k he)
        replace he := Lib.hid he
        go_upto_region 14 with (fail)
        replace L := L.drew
        refine wp_region_held_drew (S := fun w' => Loc w w' [(gQ, 42, opv ⟨A0_2, 0, c0_2, A1_2, n1_2, c1_2, A2_2, n2_2, c2_2, A3_2, n3_2, c3_2⟩ (s2)), (gP, 42, opv ⟨A0_1, 0, c0_1, A1_1, n1_1, c1_1, A2_1, n2_1, c2_1, A3_1, n3_1, c3_1⟩ ⟨3, 0, 0, 0, false, 9, 0, 0, (lf : Int), (bt : Int), x, false, 0, 0, 0, 0⟩), (gO, 42, opv ⟨none, 0, 0, none, 0, 0, none, 0, 0, none, 0, 0⟩ ⟨3, 0, 0, 0, false, 8, 0, 0, (lf : Int), (bt : Int), 0, false, 0, 0, 0, 0⟩), (gH, 27, #[.int .u32 (a : Int), .int .i64 p, .slice A n c, .int .i64 sh, .int .i64 wo, .int .i64 qu, .int .i64 tr])] [iF .u32 w7.heap.size A0_2 0 c0_2 (⟨[], [], [], []⟩ : Ls).rqs, iF .u32 w7.heap.size A1_2 n1_2 c1_2 (⟨[], [], [], []⟩ : Ls).ads, iF .i64 w7.heap.size A2_2 n2_2 c2_2 (⟨[], [], [], []⟩ : Ls).ers, iF .u64 w7.heap.size A3_2 n3_2 c3_2 (⟨[], [], [], []⟩ : Ls).ses, uF (some ⟨ba, oa, none⟩) m d_2 (ys.set lf y), iF .u32 w5.heap.size A0_1 0 c0_1 (⟨[], [], [], []⟩ : Ls).rqs, iF .u32 w5.heap.size A1_1 n1_1 c1_1 (⟨[], [], [], []⟩ : Ls).ads, iF .i64 w5.heap.size A2_1 n2_1 c2_1 (⟨[], [], [], []⟩ : Ls).ers, iF .u64 w5.heap.size A3_1 n3_1 c3_1 (⟨[], [], [], []⟩ : Ls).ses, uF B_1 m d_1 ys]) (by kernel_rfl) L (fun hHeld => ?_)
        generalize wr.drew = v11 at hHeld L ⊢
        refine wpAnyH_take (i := 0) (oi := ⟨some 140, _, _, _, _, _⟩) (v := .int .i64 (k : Int)) rfl (by kernel_rfl) (by kernel_rfl) (by kernel_rfl) (fun _ _ _ h => h) (Or.inl ⟨by rfl, ?_⟩) hHeld ?_
        · intro ww hS
          try dsimp only at hS
          go_simp
          try with_reducible rfl
          try omega
        try simp only [Act.put, List.setIfInBounds_toArray, List.set_cons_zero, List.set_cons_succ]
        refine wpAnyH_take (i := 1) (oi := ⟨some 141, _, _, _, _, _⟩) (v := .int .i64 (iX : Int)) rfl (by kernel_rfl) (by kernel_rfl) (by kernel_rfl) (fun _ _ _ h => h) (Or.inl ⟨by rfl, ?_⟩) hHeld ?_
        · intro ww hS
          try dsimp only at hS
          go_simp
          try with_reducible rfl
          try omega
        try simp only [Act.put, List.setIfInBounds_toArray, List.set_cons_zero, List.set_cons_succ]
        refine wpAnyH_take (i := 2) (oi := ⟨some 142, _, _, _, _, _⟩) (v := .int .i64 (lf : Int)) rfl (by kernel_rfl) (by kernel_rfl) (by kernel_rfl) (fun _ _ _ h => h) (Or.inl ⟨by rfl, ?_⟩) hHeld ?_
        · intro ww hS
          try dsimp only at hS
          go_simp
          try with_reducible rfl
          try omega
        try simp only [Act.put, List.setIfInBounds_toArray, List.set_cons_zero, List.set_cons_succ]
        refine wpAnyH_take (i := 3) (oi := ⟨some 143, _, _, _, _, _⟩) (v := .bool true) rfl (by kernel_rfl) (by kernel_rfl) (by kernel_rfl) (fun _ _ _ h => h) (Or.inl ⟨by rfl, ?_⟩) hHeld ?_
        · intro ww hS
          try dsimp only at hS
          go_simp
          try with_reducible rfl
          try omega
        try simp only [Act.put, List.setIfInBounds_toArray, List.set_cons_zero, List.set_cons_succ]
        refine wpAnyH_take (i := 4) (oi := ⟨some 144, _, _, _, _, _⟩) (v := .bool true) rfl (by kernel_rfl) (by kernel_rfl) (by kernel_rfl) (fun _ _ _ h => h) (Or.inl ⟨by rfl, ?_⟩) hHeld ?_
        · intro ww hS
          try dsimp only at hS
          go_simp
          try with_reducible rfl
          try omega
        try simp only [Act.put, List.setIfInBounds_toArray, List.set_cons_zero, List.set_cons_succ]
        refine wpAnyH_take (i := 5) (oi := ⟨some 145, _, _, _, _, _⟩) (v := .slice (some ⟨ba, oa, none⟩) m d_2) rfl (by kernel_rfl) (by kernel_rfl) (by kernel_rfl) (fun _ _ _ h => h) (Or.inl ⟨by rfl, ?_⟩) hHeld ?_
        · intro ww hS
          try dsimp only at hS
          go_simp
          try with_reducible rfl
          try omega
        try simp only [Act.put, List.setIfInBounds_toArray, List.set_cons_zero, List.set_cons_succ]
        refine wpAnyH_take (i := 6) (oi := ⟨some 146, _, _, _, _, _⟩) (v := .int .i64 (k : Int)) rfl (by kernel_rfl) (by kernel_rfl) (by kernel_rfl) (fun _ _ _ h => h) (Or.inl ⟨by rfl, ?_⟩) hHeld ?_
        · intro ww hS
          try dsimp only at hS
          go_simp
          try with_reducible rfl
          try omega
        try simp only [Act.put, List.setIfInBounds_toArray, List.set_cons_zero, List.set_cons_succ]
        refine wpAnyH_take (i := 7) (oi := ⟨some 147, _, _, _, _, _⟩) (v := .pointer (some ⟨ba, oa + k, none⟩)) rfl (by kernel_rfl) (by kernel_rfl) (by kernel_rfl) (fun _ _ _ h => h) (Or.inl ⟨by rfl, ?_⟩) hHeld ?_
        · intro ww hS
          try dsimp only at hS
          go_simp
          try with_reducible rfl
          try omega
        try simp only [Act.put, List.setIfInBounds_toArray, List.set_cons_zero, List.set_cons_succ]
        refine wpAnyH_take (i := 8) (oi := ⟨some 148, _, _, _, _, _⟩) (v := .int .u64 (((gt ys k) : Nat) : Int)) rfl (by kernel_rfl) (by kernel_rfl) (by kernel_rfl) (fun _ _ _ h => h) (Or.inl ⟨by rfl, ?_⟩) hHeld ?_
        · intro ww hS
          try dsimp only at hS
          have X := (((hS)).us_ 4 rfl).here hlt
          rw [hgk.out] at X
          go_simp
          try with_reducible rfl
          try omega
        try simp only [Act.put, List.setIfInBounds_toArray, List.set_cons_zero, List.set_cons_succ]
        refine wpAnyH_take (i := 9) (oi := ⟨some 149, _, _, _, _, _⟩) (v := .slice (some ⟨bb, oo, none⟩) m d) rfl (by kernel_rfl) (by kernel_rfl) (by kernel_rfl) (fun _ _ _ h => h) (Or.inl ⟨by rfl, ?_⟩) hHeld ?_
        · intro ww hS
          try dsimp only at hS
          go_simp
          try with_reducible rfl
          try omega
        try simp only [Act.put, List.setIfInBounds_toArray, List.set_cons_zero, List.set_cons_succ]
        refine wpAnyH_take (i := 10) (oi := ⟨some 150, _, _, _, _, _⟩) (v := .int .i64 (k : Int)) rfl (by kernel_rfl) (by kernel_rfl) (by kernel_rfl) (fun _ _ _ h => h) (Or.inl ⟨by rfl, ?_⟩) hHeld ?_
        · intro ww hS
          try dsimp only at hS
          go_simp
          try with_reducible rfl
          try omega
        try simp only [Act.put, List.setIfInBounds_toArray, List.set_cons_zero, List.set_cons_succ]
        refine wpAnyH_take (i := 11) (oi := ⟨some 151, _, _, _, _, _⟩) (v := .pointer (some ⟨bb, oo + k, none⟩)) rfl (by kernel_rfl) (by kernel_rfl) (by kernel_rfl) (fun _ _ _ h => h) (Or.inl ⟨by rfl, ?_⟩) hHeld ?_
        · intro ww hS
          try dsimp only at hS
          go_simp
          try with_reducible rfl
          try omega
        try simp only [Act.put, List.setIfInBounds_toArray, List.set_cons_zero, List.set_cons_succ]
        refine wpAnyH_take (i := 12) (oi := ⟨some 152, _, _, _, _, _⟩) (v := .int .u64 (((gt ys k) : Nat) : Int)) rfl (by kernel_rfl) (by kernel_rfl) (by kernel_rfl) (fun _ _ _ h => h) (Or.inl ⟨by rfl, ?_⟩) hHeld ?_
        · intro ww hS
          try dsimp only at hS
          have X := (((hS)).K.cell (p := ⟨bb, oo + k, none⟩) hbb).trans (hU.here hlt)
          go_simp
          try with_reducible rfl
          try omega
        try simp only [Act.put, List.setIfInBounds_toArray, List.set_cons_zero, List.set_cons_succ]
        refine wpAnyH_take (i := 13) (oi := ⟨some 153, _, _, _, _, _⟩) (v := .bool false) rfl (by kernel_rfl) (by kernel_rfl) (by kernel_rfl) (fun _ _ _ h => h) (Or.inl ⟨by rfl, ?_⟩) hHeld ?_
        · intro ww hS
          try dsimp only at hS
          go_simp
          try with_reducible rfl
          try omega
        try simp only [Act.put, List.setIfInBounds_toArray, List.set_cons_zero, List.set_cons_succ]
        refine wpAnyH_take (i := 14) (oi := ⟨some 154, _, _, _, _, _⟩) (v := .bool false) rfl (by kernel_rfl) (by kernel_rfl) (by kernel_rfl) (fun _ _ _ h => h) (Or.inl ⟨by rfl, ?_⟩) hHeld ?_
        · intro ww hS
          try dsimp only at hS
          go_simp
          try with_reducible rfl
          try omega
        try simp only [Act.put, List.setIfInBounds_toArray, List.set_cons_zero, List.set_cons_succ]
        refine wpAnyH_done (by kernel_rfl) ?_ _
        clear hHeld
        go_wp2
        go_roundw
        case rel => exact ⟨k + 1, by omega, by go_num, L⟩
        case measure => simp [intOf]; omega
    · clear hk
      go_wp2_with (first | (refine wpList_load_row rfl 27 (.tmp 3) rfl gH rfl _ _ (0, 0) _ (L.bk_ 3 rfl) Try.underlying27 rfl cf_sz ?_) | (refine wpList_load_row rfl 42 (.tmp 10) rfl gP rfl _ _ (0, 0) _ (L.bk_ 1 rfl) Try.underlying42 rfl op_sz ?_))
      refine ((TK3 _ _ _ _ _ _ _ _ _ _ _ _ _ _ _ (L.us_ 4 rfl) (L.lists_at 5 rfl)).out).mono ?_
      rintro e w11 ⟨A0_3, c0_3, A1_3, n1_3, c1_3, A2_3, n2_3, c2_3, A3_3, n3_3, c3_3, B_3, d_3, rfl, U, L', hA, K'⟩
      have Lb := L.lts
      replace L := L.over K'
      replace L := L.us_av (fun i b e => hA b.1 (Lb i b e) (L.ap_ 4 rfl hm0 i b e)) U
      replace L := L.lists Lb L'
      clear Lb
      try dsimp only [lF, List.cons_append, List.nil_append] at L
      clear L' U hA
      go_upto_region 17 with (refine wpList_store_row rfl 42 (.tmp 17) (.tmp 161) rfl _ _ rfl (show _ = Value.agg (opv ⟨A0_3, 0, c0_3, A1_3, n1_3, c1_3, A2_3, n2_3, c2_3, A3_3, n3_3, c3_3⟩ ⟨3, 0, 0, 0, false, 8, 0, 0, (lf : Int), (bt : Int), 0, false, 0, 0, 0, 0⟩) from rfl) _ _ (Bk.new _ _ _) op_sz rfl (opv_one _ _) ?_)
      try rw [World.setRow_alloc_new]
      replace L := (L).alloc (opv ⟨A0_3, 0, c0_3, A1_3, n1_3, c1_3, A2_3, n2_3, c2_3, A3_3, n3_3, c3_3⟩ ⟨3, 0, 0, 0, false, 8, 0, 0, (lf : Int), (bt : Int), 0, false, 0, 0, 0, 0⟩) 42
      try simp only [World.size_alloc] at L
      try dsimp only [nput] at L
      generalize (w11).alloc (.cells (opv ⟨A0_3, 0, c0_3, A1_3, n1_3, c1_3, A2_3, n2_3, c2_3, A3_3, n3_3, c3_3⟩ ⟨3, 0, 0, 0, false, 8, 0, 0, (lf : Int), (bt : Int), 0, false, 0, 0, 0, 0⟩) 42) = w12 at L ⊢
      generalize w11.heap.size = gR at L ⊢
      go_wp2_with (first | (refine wpList_load_row rfl 27 (.tmp 3) rfl gH rfl _ _ (0, 0) _ (L.bk_ 4 rfl) Try.underlying27 rfl cf_sz ?_) | (refine wpList_load_row rfl 42 (.tmp 17) rfl gR rfl _ _ (0, 0) _ (L.bk_ 0 rfl) Try.underlying42 rfl op_sz ?_))
      refine ((TK4 _ _ _ _ _ _ _ _ _ _ _ _ _ _ _ (L.us_ 9 rfl) (L.lists_at 0 rfl)).out).mono ?_
      rintro e w13 ⟨A0_4, c0_4, A1_4, n1_4, c1_4, A2_4, n2_4, c2_4, A3_4, n3_4, c3_4, B_4, d_4, rfl, U, L', hA, K'⟩
      have Lb := L.lts
      replace L := L.over K'
      replace L := L.us_av (fun i b e => hA b.1 (Lb i b e) (L.ap_ 9 rfl hm0 i b e)) U
      replace L := L.lists Lb L'
      clear Lb
      try dsimp only [lF, List.cons_append, List.nil_append] at L
      clear L' U hA
      go_upto_region 18 with (refine wpList_store_row rfl 42 (.tmp 20) (.tmp 169) rfl _ _ rfl (show _ = Value.agg (opv ⟨A0_4, 0, c0_4, A1_4, n1_4, c1_4, A2_4, n2_4, c2_4, A3_4, n3_4, c3_4⟩ ⟨3, 0, 6, 0, false, 0, 0, 0, (lf : Int), (bt : Int), 0, false, 0, 0, 0, 0⟩) from rfl) _ _ (Bk.new _ _ _) op_sz rfl (opv_one _ _) ?_)
      try rw [World.setRow_alloc_new]
      replace L := (L).alloc (opv ⟨A0_4, 0, c0_4, A1_4, n1_4, c1_4, A2_4, n2_4, c2_4, A3_4, n3_4, c3_4⟩ ⟨3, 0, 6, 0, false, 0, 0, 0, (lf : Int), (bt : Int), 0, false, 0, 0, 0, 0⟩) 42
      try simp only [World.size_alloc] at L
      try dsimp only [nput] at L
      generalize (w13).alloc (.cells (opv ⟨A0_4, 0, c0_4, A1_4, n1_4, c1_4, A2_4, n2_4, c2_4, A3_4, n3_4, c3_4⟩ ⟨3, 0, 6, 0, false, 0, 0, 0, (lf : Int), (bt : Int), 0, false, 0, 0, 0, 0⟩) 42) = w14 at L ⊢
      generalize w13.heap.size = gT at L ⊢
      have R_8 := L.at_ 1 8 rfl (v := .int .i64 8) rfl
      have R_z := L.lt 1 rfl
      go_wp2_with fail
      refine (same_any (L.us_ 9 rfl) (L.us_ 14 rfl) hm6).mono ?_
      rintro e w15 ⟨rfl, K'⟩
      clear R_8 R_z
      replace L := L.over K'
      have T_3 := L.at_ 0 3 rfl (v := .int .i64 6) rfl
      have T_z := L.lt 0 rfl
      go_wp2_with fail
      clear T_3 T_z
      go_ret
      exact ⟨rfl, L.K⟩
theorem main (ha : a < 4294967296) (h0 : IS .i64 lo w A n c zs) (hU : US w B m d ys) (hX : X < 65536) :
    Calls Try.prog 3 #[.agg #[.int .u32 (a : Int), .int .i64 p, .slice A n c, .int .i64 sh, .int .i64 wo, .int .i64 qu, .int .i64 tr], .slice B m d, .int .u16 (X : Int)] w (RetBo true w) := by
  cases hb : (gt ys (iO p X / 32)).testBit (iO p X % 32) with
  | false => exact nfree ha h0 hU hX hb
  | true => exact nused ha h0 hU hX hb
end
theorem walk (a p : Int) (A : Option Addr) (n c : Nat) (z : List Int) (sh wo qu tr : Int) (B : Option Addr) (m d : Nat) (zb : List Int) (x : Int) (w : World) (wa : (Lit.int .u32 a).wf = true) (wr : IsRow .i64 w A n c z) (wb : IsRow .u64 w B m d zb) (wx : (Lit.int .u16 x).wf = true) :
    Calls Try.prog 3 #[.agg #[.int .u32 a, .int .i64 p, .slice A n c, .int .i64 sh, .int .i64 wo, .int .i64 qu, .int .i64 tr], .slice B m d, .int .u16 x] w fun e w' => e = .returned (.bool true) ∧ Below w.heap.size w w' := by
  obtain ⟨a, rfl, ha⟩ := wf_u32 wa
  obtain ⟨zs, h0, _⟩ := IS.of_row wr
  obtain ⟨ys, hU⟩ := US.of_row wb
  obtain ⟨X, rfl, hX⟩ := wf_u16 wx
  exact main ha h0 hU hX
end Go.Proofs.Ytafdlofmgefdoaa.dropOne
